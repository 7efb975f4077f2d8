/-
  opens: what Open tells, as a state.
-/
import Derived.Test.YtdlhonoppnfmpaaKd
namespace Go.Proofs
open Go.RowKit Go.Dk
/-- What Open told, in memory. -/
structure Try.Opn (w w' : World) (y : Nat) (snap : List UInt8) (recs : List (List UInt8)) (sn rv : Value) : Prop where
  y0 : w.heap.size ≤ y
  y1 : y < w'.heap.size
  bel : Below w.heap.size w w'
  ex : ∃ b R e, Dk.Row w' b R ∧ R.take snap.length = snap ∧ Go.Dk.cut R snap.length = (recs, e) ∧ sn = .slice (some ⟨b, 0, none⟩) snap.length snap.length ∧ w'.ownsRow w.heap.size 22 1 rv recs.length (Dk.recCs b snap.length recs)
set_option maxHeartbeats 2000000 in
set_option maxRecDepth 20000 in
theorem Try.opens_of {w : World} {x : Value} {snap : List UInt8} {recs : List (List UInt8)} (hl : recs.length < 1000000) (K : Nat → World → Prop)
    (hop : ∀ W, Below w.heap.size w W → Calls Try.prog 14 #[x] W fun r w1 => ∃ y sn rv, r = .returned (.tuple #[.pointer (some ⟨y, 0, none⟩), sn, rv, .int .i64 0]) ∧ Try.Opn W w1 y snap recs sn rv ∧ K y w1) :
    Calls Try.prog 10 #[x] w fun r w' => ∃ y t w1, r = .returned (.tuple #[.pointer (some ⟨y, 0, none⟩), t, .bool true]) ∧ w.heap.size < y ∧ Try.Sta w' (fun k => w.heap.size ≤ k ∧ k ≠ y) t snap recs ∧ K y w1 ∧ Dk.Wo (fun k => k = w.heap.size) w1 w' ∧ Below w.heap.size w w' := by
  obtain ⟨i0, hi0, hz0, hz1, hz2⟩ := info_parts Try.info_str
  have hop1 := hop (w.alloc (.cells #[.string ⟨#[]⟩, .slice none 0 0] 27)) ((Below.refl w.heap.size w).alloc (Nat.le_refl _) _)
  clear hop
  go_enter Try.func10, Try.ntmps10
  go_wp2_with (first
    | (go_at_call 14; refine hop1.mono ?_; clear hop1; rintro e w1 ⟨y, sn, rv, rfl, ⟨hy0, hy1, hb1, b, R, ee, hR, hsn, hcut, rfl, hrv⟩, hK⟩; obtain ⟨ad, cap, rfl, -, -, -, hcs⟩ := Dk.row_form hrv; have hcv := Try.conv_src ((hR.below ((Below.refl w1.heap.size w1).alloc (Nat.le_refl _) (.cells #[.string ⟨#[]⟩, .slice none 0 0] 27))).sub 0 snap.length snap.length (by have := congrArg List.length hsn; rw [List.length_take] at this; omega)); rw [List.drop_zero, hsn] at hcv; have HRES : Hid (w1.heap[w.heap.size]? = some (.cells #[.string ⟨#[]⟩, .slice none 0 0] 27 (0, 0))) := (hb1.block _ (by simp)).trans (heap_alloc_new w _); have hs1 := hb1.size; simp only [World.size_alloc] at hy0 hs1; have Hcs : Hid _ := hcs; clear hcs hrv hsn)
    | fail)
  have HK : Hid (K y w1) := hK
  have HRR : Hid (Dk.Row w1 b R) := hR
  have HCUT : Hid (Go.Dk.cut R snap.length = (recs, ee)) := hcut
  have HB1 : Hid (Below w.heap.size w w1) := ((Below.refl w.heap.size w).alloc (Nat.le_refl _) _).trans (hb1.mono (by simp))
  clear hK hR hcut hb1 hcv
  go_loopw [10] (fun i wr => ∃ k rv, k ≤ recs.length ∧ i = .int .i64 (k : Nat) ∧ wr.heap[w1.heap.size]? = some (.cells #[.string ⟨snap.toArray⟩, rv] 27 (0, 0)) ∧ wr.ownsRow (w1.heap.size + 1) 9 1 rv k (Dk.strs (recs.take k)) ∧ Below w1.heap.size w1 wr) (fun i _ => recs.length - (intOf i).toNat)
  case atStart =>
    refine ⟨0, .slice none 0 0, by omega, rfl, ?_, World.ownsRow_nil _ _ _ _, (Below.refl w1.heap.size w1).alloc (Nat.le_refl _) _⟩
    exact heap_alloc_new w1 _
  case round =>
    obtain ⟨k, rv, hk, rfl, hbt, hrow, hbel⟩ := hrel
    have c0 := cell_of_row _ _ 0 _ _ _ hbt
    have c1 := cell_of_row _ _ 1 _ _ _ hbt
    have f1 := frozen_of_row _ _ 1 _ _ hbt
    simp only [List.getElem?_toArray, List.getElem?_cons_zero, List.getElem?_cons_succ] at c0 c1
    have HBEL : Hid (Below w1.heap.size w1 wr) := hbel
    have HROW : Hid (wr.ownsRow (w1.heap.size + 1) 9 1 rv k (Dk.strs (recs.take k))) := hrow
    have hs2 := hbel.size
    have hbtl := Dk.block_lt hbt
    have hne : ∀ j, rv.ownBlock = some j → w1.heap.size + 1 ≤ j := fun j e => (hrow.lt j e).1
    by_cases hkl : k < recs.length
    · have q0 : (k : Int) < (recs.length : Int) := by omega
      obtain ⟨d, hd⟩ : ∃ d, recs[k]? = some d := ⟨_, List.getElem?_eq_getElem hkl⟩
      obtain ⟨o, ho1, ho2, ho3⟩ := Dk.cut_at b recs _ _ HCUT.out k d hd
      obtain ⟨g, rfl, hg0, hg1, hgc⟩ := Hcs.out k _ ho1
      have hgc' := (hbel.cell (p := ⟨g, k, none⟩) hg1).trans hgc
      have hcv := Try.conv_src (((HRR.out.below hbel).below ((Below.refl wr.heap.size wr).drew)).sub o d.length d.length ho3)
      rw [ho2] at hcv
      have c1' : (wr.alloc (.cells #[.string ⟨d.toArray⟩] 9)).cell? ⟨w1.heap.size, 1, none⟩ = some rv := cell_of_row _ _ _ _ _ _ ((Below.heap_alloc wr _ _ hbtl).trans hbt)
      have HT : Hid (recs.take (k + 1) = recs.take k ++ [d]) := by
        show recs.take (k + 1) = recs.take k ++ [d]
        rw [List.take_add_one, hd]; rfl
      clear hgc ho1 ho2 hd hrow hbel
      go_wp2
      go_region_law (refine step_append_lies _ (by rfl) _ _ _ (by rfl) (w1.heap.size + 1) 9 i0 _ 1 16 Try.underlying25 hi0 hz0 hz1 hz2 rfl (by omega) rv k (Dk.strs (recs.take k)) (by rfl) (HROW.out.drew.alloc _) ⟨wr.heap.size, 0, none⟩ 1 1 [.string ⟨d.toArray⟩] (by rfl) (by rfl) (World.news_of_block (cs := #[.string ⟨d.toArray⟩]) (t := 9) (fr := (0, 0)) (heap_alloc_new wr.drew _)) (by simp [Value.oneCell']) (by omega) (by unfold maxLen; omega) (by omega) (by simp; omega) (wr.heap.size + 1) (by simp) ?_; intro g2 cap2 w2 hown2 hgrow hat hlt2; have HO : Hid (w2.ownsRow (w1.heap.size + 1) 9 1 (.slice (some ⟨g2, 0, none⟩) (k + 1) cap2) (k + 1) (Dk.strs (recs.take k) ++ [.string ⟨d.toArray⟩])) := hown2; clear hown2; have hB2 : w2.heap[w1.heap.size]? = some (.cells #[.string ⟨snap.toArray⟩, rv] 27 (0, 0)) := (hgrow.block _ (by simp; omega) (fun e => by have := hne _ e.symm; omega)).trans ((Below.heap_alloc wr.drew _ _ (by simp; omega)).trans hbt); have cB1 := cell_of_row _ _ 1 _ _ _ hB2; have fB1 := frozen_of_row _ _ 1 _ _ hB2)
      all_goals
        go_wp2
        go_roundw
        case rel =>
          refine ⟨k + 1, .slice (some ⟨g2, 0, none⟩) (k + 1) cap2, by omega, by go_num, heap_setCell_same w2 w1.heap.size 1 _ _ _ hB2, ?_, HBEL.out.trans ?_⟩
          · rw [HT.out, Dk.strs_snoc]
            exact ownsRow_setCell_below HO.out (by show w1.heap.size < _; omega) _
          · exact ((((Below.refl w1.heap.size wr).alloc (by omega) (.cells #[.string ⟨d.toArray⟩] 9)).drew.grown hgrow (by simp; omega) (fun j hj => by have := hne j hj; omega))).setCell (by show w1.heap.size ≤ w1.heap.size; omega) _
        case measure => simp [intOf]; omega
    · have q0 : ¬ (k : Int) < (recs.length : Int) := by omega
      obtain rfl : k = recs.length := by omega
      obtain ⟨ad2, cp2, rfl, -⟩ := Dk.row_form hrow
      have hres := (hbel.block _ (by omega)).trans HRES.out
      have d0 := cell_of_row _ _ 0 _ _ _ hres
      have d1 := cell_of_row _ _ 1 _ _ _ hres
      have e0 := frozen_of_row _ _ 0 _ _ hres
      have e1 := frozen_of_row _ _ 1 _ _ hres
      simp only [List.getElem?_toArray, List.getElem?_cons_zero, List.getElem?_cons_succ] at d0 d1
      clear hrow hbel
      go_wp2
      go_region
      all_goals
        go_wp2
        have hC := Dk.two_cells hres (.string ⟨snap.toArray⟩) (.slice ad2 recs.length cp2)
        have g0 := cell_of_row _ _ 0 _ _ _ hC
        have g1 := cell_of_row _ _ 1 _ _ _ hC
        simp only [List.getElem?_toArray, List.getElem?_cons_zero, List.getElem?_cons_succ] at g0 g1
        refine bodyPost_ret (v := .tuple #[.pointer (some ⟨y, 0, none⟩), .agg #[.string ⟨snap.toArray⟩, .slice ad2 recs.length cp2], .bool true]) (by simp [results, go_sem, g0, g1]) rfl ?_
        refine ⟨y, _, w1, rfl, by omega, ⟨_, rfl, ?_, ?_⟩, HK.out, Dk.Wo.drew ((((Dk.Wo.refl (fun k => k = w.heap.size) w1).below HBEL.out (Nat.le_refl _)).setCell w.heap.size 0 _ (.inl rfl)).setCell w.heap.size 1 _ (.inl rfl)), ?_⟩
        · have := HROW.out
          rw [List.take_length] at this
          exact Dk.row_base (ownsRow_setCell_below (ownsRow_setCell_below this (by show w.heap.size < _; omega) _) (by show w.heap.size < _; omega) _)
        · intro k e
          have := hne k e
          constructor
          · omega
          · omega
        · exact HB1.out.trans (((HBEL.out.mono (by omega)).setCell (by show w.heap.size ≤ w.heap.size; omega) _).setCell (by show w.heap.size ≤ w.heap.size; omega) _).drew
end Go.Proofs
