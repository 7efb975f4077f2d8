/-
  reads, still. still.
-/
import Derived.Test.YtdlhonoppnfmpaaTa
namespace Go.Proofs
open Go.RowKit Go.Dk
set_option maxHeartbeats 4000000 in
set_option maxRecDepth 20000 in
theorem Try.reads_any {w : World} {lo hi b cap : Nat} {R snap : List UInt8} {recs : List (List UInt8)} {ad : Option Addr} {P : Nat → Prop} {t : Value} (m : UInt8) (z : Int) (hz : z = ((m.toNat : Nat) : Int)) (h : Try.Gc w lo hi b R snap.length recs ad) (hp : Paint R snap.length recs m) (hhi : hi ≤ w.heap.size) (ht : Try.Sta w P t snap recs) :
    Calls Try.prog 8 #[.slice (some ⟨b, 0, none⟩) snap.length snap.length, .slice ad recs.length cap, t, .int .u8 z] w fun r w' => r = .returned (.bool true) ∧ Below w.heap.size w w' := by
  obtain ⟨rt, rfl, hrt, -⟩ := ht
  obtain ⟨at1, ct, rfl, -, -, -, hct⟩ := Dk.row_form hrt
  have HCT : Hid (∀ (i : Nat) (u : Value), (Dk.strs recs)[i]? = some u → ∃ g, at1 = some ⟨g, 0, none⟩ ∧ 0 ≤ g ∧ g < w.heap.size ∧ w.cell? ⟨g, i, none⟩ = some u) := hct
  have HG : Hid (Try.Gc w lo hi b R snap.length recs ad) := h
  have HP : Hid (Paint R snap.length recs m) := hp
  have hp1 := h.p1
  have hsm := h.sm
  have hfew := h.few
  have hb1 := h.b1
  have hcell : ∀ ws : World, Below w.heap.size w ws → ∀ j, R[j]? = some m → ws.cell? ⟨b, j, none⟩ = some (.int .u8 z) := fun ws hws j hj => by
    rw [hz]
    refine (World.cell?_of_block (a := ⟨b, j, none⟩) (hws.block b (by omega))).trans ?_
    have hjl := (List.getElem?_eq_some_iff.1 hj).1
    rw [Dk.blk_cell h.blk hjl]
    rw [List.getElem?_eq_getElem hjl] at hj
    injection hj with hj
    rw [hj]
  have HC : Hid (∀ ws : World, Below w.heap.size w ws → ∀ j, R[j]? = some m → ws.cell? ⟨b, j, none⟩ = some (.int .u8 z)) := hcell
  clear h hp hct hrt hcell hz
  go_enter Try.func8, Try.ntmps8
  go_upto_region 1 with fail
  have hbx : (w.alloc (.cells #[.string ⟨snap.toArray⟩, .slice at1 recs.length ct] 27)).heap[w.heap.size]? = some (.cells #[.string ⟨snap.toArray⟩, .slice at1 recs.length ct] 27 (0, 0)) := heap_alloc_new w _
  have hbw : Below w.heap.size w (w.alloc (.cells #[.string ⟨snap.toArray⟩, .slice at1 recs.length ct] 27)) := (Below.refl w.heap.size w).alloc (Nat.le_refl _) _
  generalize hW : w.alloc _ = w1 at *
  clear hW
  have x0 := cell_of_row _ _ 0 _ _ _ hbx
  have x1 := cell_of_row _ _ 1 _ _ _ hbx
  simp only [List.getElem?_toArray, List.getElem?_cons_zero, List.getElem?_cons_succ] at x0 x1
  have HBX : Hid (w1.heap[w.heap.size]? = some (.cells #[.string ⟨snap.toArray⟩, .slice at1 recs.length ct] 27 (0, 0))) := hbx
  have HBW : Hid (Below w.heap.size w w1) := hbw
  have hlt1 := Dk.block_lt hbx
  clear hbx hbw
  go_wp2
  go_loopw [9] (fun i wr => ∃ k : Nat, i = .int .i64 k ∧ k ≤ snap.length ∧ wr = w1) (fun i _ => snap.length - (intOf i).toNat)
  case atStart => exact ⟨0, rfl, by omega, rfl⟩
  case round =>
    obtain ⟨k, rfl, hk, rfl⟩ := hrel
    by_cases hkl : k < snap.length
    · have q0 : (k : Int) < (snap.length : Int) := by omega
      have c := HC.out wr HBW.out k (HP.out.sn k hkl)
      go_wp2
      go_roundw
      case rel => exact ⟨k + 1, by go_num, by omega, by first | rfl | trivial⟩
      case measure => simp [intOf]; omega
    · have q0 : ¬ (k : Int) < (snap.length : Int) := by omega
      obtain ⟨W1, hW1⟩ : ∃ W : World, W = wr := ⟨_, rfl⟩
      subst hW1
      clear x0 x1
      go_wp2
      go_loopw [10] (fun iv wr => ∃ i : Nat, iv = .int .i64 i ∧ i ≤ recs.length ∧ Below W1.heap.size W1 wr) (fun iv _ => recs.length - (intOf iv).toNat)
      case atStart => exact ⟨0, rfl, by omega, Below.refl _ _⟩
      case round =>
        obtain ⟨i, rfl, hi, hbel⟩ := hrel
        have HBEL : Hid (Below W1.heap.size W1 wr) := hbel
        have HBWr : Hid (Below w.heap.size w wr) := HBW.out.trans (hbel.mono HBW.out.size)
        clear hbel
        by_cases hil : i < recs.length
        · have q1 : (i : Int) < (recs.length : Int) := by omega
          obtain ⟨d, hd⟩ : ∃ d, recs[i]? = some d := ⟨_, List.getElem?_eq_getElem hil⟩
          obtain ⟨kb, rfl, hkb0, hkb1, hkb2, hkc⟩ := HG.out.cs i d hd
          obtain ⟨gt, rfl, -, hgt, hgtc⟩ := HCT.out i _ (Dk.strs_at hd)
          have hkc1 := (HBWr.out.cell (p := ⟨kb, i, none⟩) (by show kb < _; omega)).trans hkc
          have hgc1 := (HBWr.out.cell (p := ⟨gt, i, none⟩) hgt).trans hgtc
          have hbx := (HBEL.out.block _ hlt1).trans HBX.out
          have x1 := cell_of_row _ _ 1 _ _ _ hbx
          simp only [List.getElem?_toArray, List.getElem?_cons_zero, List.getElem?_cons_succ] at x1
          have HKC : Hid (w.cell? ⟨kb, i, none⟩ = some (.slice (some ⟨b, off snap.length recs i, none⟩) d.length d.length)) := hkc
          have HD : Hid (∀ j, j < d.length → R[off snap.length recs i + j]? = some m) := HP.out.rc i d hd
          have hfit := HG.out.fit i d hd
          generalize off snap.length recs i = O at *
          clear hkc hgtc hbx hd
          go_wp2
          go_region
          all_goals
            clear hgc1 x1
            go_wp2
            go_loopw [11] (fun jv ws => ∃ j : Nat, jv = .int .i64 j ∧ j ≤ d.length ∧ Below W1.heap.size W1 ws) (fun jv _ => d.length - (intOf jv).toNat)
            case atStart => exact ⟨0, rfl, by omega, HBEL.out.drew⟩
            case round =>
              obtain ⟨j, rfl, hj, hbel⟩ := hrel
              have hbw : Below w.heap.size w wr := HBW.out.trans (hbel.mono HBW.out.size)
              have hkc2 := (hbw.cell (p := ⟨kb, i, none⟩) (by show kb < _; omega)).trans HKC.out
              by_cases hjl : j < d.length
              · have q2 : (j : Int) < (d.length : Int) := by omega
                have c := HC.out wr hbw _ (HD.out j hjl)
                clear hkc1 hbw
                go_wp2
                go_roundw
                case rel => exact ⟨j + 1, by go_num, by omega, hbel⟩
                case measure => simp [intOf]; omega
              · have q2 : ¬ (j : Int) < (d.length : Int) := by omega
                clear hkc1 hbw
                go_wp2
                go_roundw
                case rel => exact ⟨i + 1, by go_num, by omega, hbel⟩
                case measure => simp [intOf]; omega
        · have q1 : ¬ (i : Int) < (recs.length : Int) := by omega
          go_wp2
          go_ret
          exact ⟨rfl, HBWr.out⟩
end Go.Proofs
namespace Go.Proofs
open Go.RowKit Go.Dk
set_option maxHeartbeats 4000000 in
set_option maxRecDepth 20000 in
theorem Try.still_any {w : World} {lo hi b cap : Nat} {R snap : List UInt8} {recs : List (List UInt8)} {ad : Option Addr} {P : Nat → Prop} {t : Value} (h : Try.Gc w lo hi b R snap.length recs ad) (hs : Says R snap recs) (hhi : hi ≤ w.heap.size) (ht : Try.Sta w P t snap recs) :
    Calls Try.prog 6 #[.slice (some ⟨b, 0, none⟩) snap.length snap.length, .slice ad recs.length cap, t] w fun r w' => r = .returned (.bool true) ∧ Below w.heap.size w w' := by
  obtain ⟨i0, hi0, hz0, hz1, hz2⟩ := info_parts Try.info_str
  have HT0 : Hid (Try.Sta w P t snap recs) := ht
  obtain ⟨rt, rfl, hrt, -⟩ := ht
  obtain ⟨at1, ct, rfl, -⟩ := Dk.row_form hrt
  clear hrt
  have HG : Hid (Try.Gc w lo hi b R snap.length recs ad) := h
  have HS : Hid (Says R snap recs) := hs
  have hp1 := h.p1
  have hsm := h.sm
  have hl := h.few
  have hb1 := h.b1
  have HBK : Hid (w.heap[b]? = some (.cells (Lib.byteCells R).toArray 5 (0, 0))) := h.blk
  clear h hs
  go_enter Try.func6, Try.ntmps6
  go_upto_region 1 with fail
  have hbx : (w.alloc (.cells #[.string ⟨snap.toArray⟩, .slice at1 recs.length ct] 27)).heap[w.heap.size]? = some (.cells #[.string ⟨snap.toArray⟩, .slice at1 recs.length ct] 27 (0, 0)) := heap_alloc_new w _
  have hbw : Below w.heap.size w (w.alloc (.cells #[.string ⟨snap.toArray⟩, .slice at1 recs.length ct] 27)) := (Below.refl w.heap.size w).alloc (Nat.le_refl _) _
  generalize hW : w.alloc _ = w1 at *
  clear hW
  have HBX : Hid (w1.heap[w.heap.size]? = some (.cells #[.string ⟨snap.toArray⟩, .slice at1 recs.length ct] 27 (0, 0))) := hbx
  have HBW : Hid (Below w.heap.size w w1) := hbw
  have hlt1 := Dk.block_lt hbx
  have HRR : Hid (Dk.Row w1 b R) := (Dk.row_row HBK.out).below hbw
  have hcv := Try.conv_src (HRR.out.sub 0 snap.length snap.length (by omega))
  rw [List.drop_zero, HS.out.sn] at hcv
  clear hbx hbw
  go_upto_region 2 with fail
  clear hcv
  go_wp2
  go_loopw [8] (fun i wr => ∃ k rv, k ≤ recs.length ∧ i = .int .i64 (k : Nat) ∧ wr.heap[w1.heap.size]? = some (.cells #[.string ⟨snap.toArray⟩, rv] 27 (0, 0)) ∧ wr.ownsRow (w1.heap.size + 1) 9 1 rv k (Dk.strs (recs.take k)) ∧ Below w1.heap.size w1 wr) (fun i _ => recs.length - (intOf i).toNat)
  case atStart =>
    refine ⟨0, .slice none 0 0, by omega, rfl, ?_, World.ownsRow_nil _ _ _ _, ?_⟩
    · exact heap_alloc_new w1 _
    · exact (Below.refl w1.heap.size w1).alloc (Nat.le_refl _) _
  case round =>
    obtain ⟨k, rv, hk, rfl, hbt, hrow, hbel⟩ := hrel
    have c0 := cell_of_row _ _ 0 _ _ _ hbt
    have c1 := cell_of_row _ _ 1 _ _ _ hbt
    have f1 := frozen_of_row _ _ 1 _ _ hbt
    simp only [List.getElem?_toArray, List.getElem?_cons_zero, List.getElem?_cons_succ] at c0 c1
    have HBEL : Hid (Below w1.heap.size w1 wr) := hbel
    have HROW : Hid (wr.ownsRow (w1.heap.size + 1) 9 1 rv k (Dk.strs (recs.take k))) := hrow
    have hs2 := hbel.size
    have hbtl := Dk.block_lt hbt
    have hne : ∀ j, rv.ownBlock = some j → w1.heap.size + 1 ≤ j := fun j e => (hrow.lt j e).1
    by_cases hkl : k < recs.length
    · have q0 : (k : Int) < (recs.length : Int) := by omega
      obtain ⟨d, hd⟩ : ∃ d, recs[k]? = some d := ⟨_, List.getElem?_eq_getElem hkl⟩
      obtain ⟨g, rfl, hg0, hg1, hg2, hgc⟩ := HG.out.cs k d hd
      have ho2 := HS.out.rc k d hd
      have ho3 := HG.out.fit k d hd
      generalize off snap.length recs k = o at *
      have hgw : g < w.heap.size := by omega
      have hgc' := (hbel.cell (p := ⟨g, k, none⟩) (by show g < _; omega)).trans ((HBW.out.cell (p := ⟨g, k, none⟩) hgw).trans hgc)
      have hcv := Try.conv_src (((HRR.out.below hbel).below ((Below.refl wr.heap.size wr).drew)).sub o d.length d.length ho3)
      rw [ho2] at hcv
      have c1' : (wr.alloc (.cells #[.string ⟨d.toArray⟩] 9)).cell? ⟨w1.heap.size, 1, none⟩ = some rv := cell_of_row _ _ _ _ _ _ ((Below.heap_alloc wr _ _ hbtl).trans hbt)
      have HT : Hid (recs.take (k + 1) = recs.take k ++ [d]) := by
        show recs.take (k + 1) = recs.take k ++ [d]
        rw [List.take_add_one, hd]; rfl
      clear hgc ho2 hd hrow hbel
      go_wp2
      go_region_law (refine step_append_lies _ (by rfl) _ _ _ (by rfl) (w1.heap.size + 1) 9 i0 _ 1 16 Try.underlying25 hi0 hz0 hz1 hz2 rfl (by omega) rv k (Dk.strs (recs.take k)) (by rfl) (HROW.out.drew.alloc _) ⟨wr.heap.size, 0, none⟩ 1 1 [.string ⟨d.toArray⟩] (by rfl) (by rfl) (World.news_of_block (cs := #[.string ⟨d.toArray⟩]) (t := 9) (fr := (0, 0)) (heap_alloc_new wr.drew _)) (by simp [Value.oneCell']) (by omega) (by unfold maxLen; omega) (by omega) (by simp; omega) (wr.heap.size + 1) (by simp) ?_; intro g2 cap2 w2 hown2 hgrow hat hlt2; have HO : Hid (w2.ownsRow (w1.heap.size + 1) 9 1 (.slice (some ⟨g2, 0, none⟩) (k + 1) cap2) (k + 1) (Dk.strs (recs.take k) ++ [.string ⟨d.toArray⟩])) := hown2; clear hown2; have hB2 : w2.heap[w1.heap.size]? = some (.cells #[.string ⟨snap.toArray⟩, rv] 27 (0, 0)) := (hgrow.block _ (by simp; omega) (fun e => by have := hne _ e.symm; omega)).trans ((Below.heap_alloc wr.drew _ _ (by simp; omega)).trans hbt); have cB1 := cell_of_row _ _ 1 _ _ _ hB2; have fB1 := frozen_of_row _ _ 1 _ _ hB2)
      all_goals
        go_wp2
        go_roundw
        case rel =>
          refine ⟨k + 1, .slice (some ⟨g2, 0, none⟩) (k + 1) cap2, by omega, by go_num, heap_setCell_same w2 w1.heap.size 1 _ _ _ hB2, ?_, HBEL.out.trans ?_⟩
          · rw [HT.out, Dk.strs_snoc]
            exact ownsRow_setCell_below HO.out (by show w1.heap.size < _; omega) _
          · exact ((((Below.refl w1.heap.size wr).alloc (by omega) (.cells #[.string ⟨d.toArray⟩] 9)).drew.grown hgrow (by simp; omega) (fun j hj => by have := hne j hj; omega))).setCell (by show w1.heap.size ≤ w1.heap.size; omega) _
        case measure => simp [intOf]; omega
    · have q0 : ¬ (k : Int) < (recs.length : Int) := by omega
      obtain rfl : k = recs.length := by omega
      obtain ⟨ad2, cp2, rfl, -⟩ := Dk.row_form hrow
      have hbxr := (hbel.block _ (by omega)).trans HBX.out
      have d0 := cell_of_row _ _ 0 _ _ _ hbxr
      have d1 := cell_of_row _ _ 1 _ _ _ hbxr
      simp only [List.getElem?_toArray, List.getElem?_cons_zero, List.getElem?_cons_succ] at d0 d1
      have hbw : Below w.heap.size w wr := HBW.out.trans (hbel.mono HBW.out.size)
      rw [List.take_length] at hrow
      have hsmm := Try.same_any hl (w := wr) (P := fun _ => True) (va := .agg #[.string ⟨snap.toArray⟩, .slice ad2 recs.length cp2]) (snap := snap) (recs := recs) ⟨_, rfl, Dk.row_base hrow, fun _ _ => trivial⟩ (HT0.out.below hbw)
      have HBWr : Hid (Below w.heap.size w wr) := hbw
      clear hrow hbel hbw hbt hbxr
      go_wp2_with (first
        | (go_at_call 15; refine hsmm.mono ?_; clear hsmm; rintro e w9 ⟨rfl, hb9⟩)
        | fail)
      go_ret
      exact ⟨rfl, HBWr.out.trans (hb9.mono HBWr.out.size)⟩
end Go.Proofs
