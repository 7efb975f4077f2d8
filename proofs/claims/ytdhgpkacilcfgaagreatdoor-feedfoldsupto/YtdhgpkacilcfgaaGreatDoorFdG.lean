/-
  FEED: of each room the last one; sheetOf.
-/
import Derived.Test.YtdhgpkacilcfgaaGreatDoorFeE
import Derived.Deep.Cut
import Derived.Deep.RegionHeld3
namespace Go.Fd
open Go.RowKit Go.Wi
/-- Of things that are alike and stand together the last one, as far as one has looked. -/
def lastN (l : List Cn) : Nat → List Cn
  | 0 => []
  | i + 1 => if i + 1 = l.length ∨ cnC l[i]! l[i + 1]! ≠ 0 then lastN l i ++ [l[i]!] else lastN l i
def lastE (l : List Cn) : List Cn := lastN l l.length
theorem lastN_len (l : List Cn) : ∀ i, (lastN l i).length ≤ i
  | 0 => Nat.le_refl _
  | i + 1 => by
    have := lastN_len l i
    unfold lastN
    split
    · simp; exact this
    · omega
/-- The sheet that a list makes. -/
def sheet (l : List Cn) : List Cn := lastE (stab l)
theorem sheet_len (l : List Cn) : (sheet l).length ≤ l.length := by
  have := lastN_len (stab l) (stab l).length
  rw [stab_len] at this
  unfold sheet lastE
  rw [stab_len]
  exact this
end Go.Fd
namespace Go.Proofs
open Go.RowKit Go.Wi Go.Fd Go.Sort
/-- A thing that is read whole. -/
theorem Fd.Cs.load {P : Program} {w : World} {ad : Option Addr} {n cap : Nat} {l : List Cn} (h : Cs w (.slice ad n cap) l) {i : Nat} (hi : i < l.length) : ∃ g o, ad = some ⟨g, o, none⟩ ∧ Sem.run P (loadCellsFrom ⟨g, o + i * 3, none⟩ 0 3 #[]) w = .ok (cnE l[i]!).toArray w := by
  obtain ⟨g, o, e, h1, h2, h3⟩ := h.at hi
  refine ⟨g, o, e, ?_⟩
  refine run_loadCellsFrom_list P _ _ _ 3 rfl ?_
  rw [getElem!_pos l i hi]
  intro j v hv
  rw [Addr.add_mid]
  match j, hv with
  | 0, hv => cases hv; exact h1
  | 1, hv => cases hv; exact h2
  | 2, hv => cases hv; exact h3
theorem Fd.row_grow {w : World} {B n k : Nat} {T : TypeId} {V : Value} {cs : List Value} (h : w.ownsRow B T k V n cs) (m : Nat) (os : Array Obj) : (grow (w.drewN m) os).ownsRow B T k V n cs := by
  refine ⟨h.1, ?_⟩
  rcases h.2 with h0 | ⟨g, cap, cur, e, hB, hb, h1⟩
  · exact .inl h0
  · exact .inr ⟨g, cap, cur, e, hB, by rw [heap_grow_old _ _ (show g < (w.drewN m).heap.size from block_lt hb)]; exact hb, h1⟩
theorem Fd.below_grow {B : Nat} {w w1 : World} (h : Below B w w1) (hB : B ≤ w1.heap.size) (m : Nat) (os : Array Obj) : Below B w (grow (w1.drewN m) os) :=
  ⟨h.os, h.tape, h.output, by rw [size_grow]; exact Nat.le_trans h.size (Nat.le_add_right _ _), fun k hk => by
    rw [heap_grow_old _ _ (show k < (w1.drewN m).heap.size from Nat.lt_of_lt_of_le hk hB)]
    exact h.block k hk⟩
theorem Fd.cs_one {w : World} {g : Nat} {x : Cn} {T : TypeId} (h : w.heap[g]? = some (.cells #[.string x.room, .int .i64 x.un, .int .i64 x.hi] T (0, 0))) : Cs w (.slice (some ⟨g, 0, none⟩) 1 1) [x] :=
  ⟨some ⟨g, 0, none⟩, 1, rfl, Nat.le_refl _, (fun e => by cases e), .inr ⟨g, 0, rfl, block_lt h, fun j u hu => by
    rw [cell_of_row _ _ _ _ _ _ h, Nat.zero_add]
    simpa [cnCells, cnE] using hu⟩⟩
theorem Fd.row_past {w w' : World} {B n k C : Nat} {T : TypeId} {V : Value} {cs : List Value} (h : w.ownsRow B T k V n cs) (g : Below C w w') (hC : w.heap.size ≤ C) : w'.ownsRow B T k V n cs := by
  refine ⟨h.1, ?_⟩
  rcases h.2 with h0 | ⟨b, cap, cur, e, hB, hb, h1⟩
  · exact .inl h0
  · exact .inr ⟨b, cap, cur, e, hB, by rw [g.block b (Nat.lt_of_lt_of_le (block_lt hb) hC)]; exact hb, h1⟩
theorem Fd.row_mono {w : World} {B B' n k : Nat} {T : TypeId} {V : Value} {cs : List Value} (h : w.ownsRow B T k V n cs) (hB : B' ≤ B) : w.ownsRow B' T k V n cs := by
  refine ⟨h.1, ?_⟩
  rcases h.2 with h0 | ⟨b, cap, cur, e, hb, h1⟩
  · exact .inl h0
  · exact .inr ⟨b, cap, cur, e, Nat.le_trans hB hb, h1⟩
set_option maxRecDepth 20000 in
set_option maxHeartbeats 1000000 in
theorem Tryz.lastOfEach_any {w : World} {V : Value} {l : List Cn} (h : Cs w V l) (hV : ∀ k, V.ownBlock = some k → k < w.heap.size) (hl : l.length ≤ 4398046511104) :
    Calls Tryz.prog 41 #[V, .func (.func 33) #[] #[]] w fun e w' => ∃ V', e = .returned V' ∧ w'.ownsRow w.heap.size 39 3 V' (lastE l).length (cnCells (lastE l)) ∧ Below w.heap.size w w' := by
  obtain ⟨ad, cap, rfl⟩ := h.is
  have HC : Hid (Cs w (.slice ad l.length cap) l) := h
  have HV : Hid _ := hV
  have HL : Hid (l.length ≤ 4398046511104) := hl
  have hN : l.length < 9223372036854775807 := by omega
  have hmx : Tryz.prog.follows .mixedOrders = true := by kernel_rfl
  clear h hV hl
  go_enter Tryz.func41, Tryz.ntmps41
  go_wp2
  go_loopw [5, 6, 7, 10] (fun R _ _ iv wr => ∃ i : Nat, iv = .int .i64 i ∧ i ≤ l.length ∧ wr.ownsRow w.heap.size 39 3 R (lastN l i).length (cnCells (lastN l i)) ∧ Below w.heap.size w wr) (fun _ _ _ iv _ => l.length - (intOf iv).toNat)
  case atStart => exact ⟨0, rfl, Nat.zero_le _, World.ownsRow_nil _ _ _ _, Below.refl _ _⟩
  case round =>
    obtain ⟨i, rfl, hi, hrow, hbel⟩ := hrel
    have HR : Hid _ := hrow
    have HB : Hid (Below w.heap.size w wr) := hbel
    clear hrow hbel
    by_cases hlt : i < l.length
    · have q : (i : Int) < (l.length : Int) := by omega
      have HC2 := HC.out.below HB.out HV.out
      obtain ⟨g, o, rfl, c1, c2, c3⟩ := HC2.at hlt
      rw [← getElem!_pos l i hlt] at c1 c2 c3
      generalize hx : l[i]! = x at *
      clear HC2
      go_upto_region 5 with (fail)
      obtain ⟨wq, hwq⟩ : ∃ W, W = wr.alloc (.cells #[.string x.room, .int .i64 x.un, .int .i64 x.hi] 39) := ⟨_, rfl⟩
      have hb1 : Below wr.heap.size wr wq := by rw [hwq]; exact (Below.refl _ wr).alloc (Nat.le_refl _) _
      have hbq : Below w.heap.size w wq := HB.out.trans (hb1.mono HB.out.size)
      have hrq : wq.ownsRow w.heap.size 39 3 u5 (lastN l i).length (cnCells (lastN l i)) := Fd.row_past HR.out hb1 (Nat.le_refl _)
      have hbx : wq.heap[wr.heap.size]? = some (.cells #[.string x.room, .int .i64 x.un, .int .i64 x.hi] 39 (0, 0)) := by rw [hwq]; exact heap_alloc_new _ _
      have hzq : wr.heap.size < wq.heap.size := block_lt hbx
      have x0 : ∀ n os, (grow (wq.drewN n) os).cell? ⟨wr.heap.size, 0, none⟩ = some (.string x.room) := cell_grown hzq (cell_of_row _ _ _ _ _ _ hbx)
      have x1 : ∀ n os, (grow (wq.drewN n) os).cell? ⟨wr.heap.size, 1, none⟩ = some (.int .i64 x.un) := cell_grown hzq (cell_of_row _ _ _ _ _ _ hbx)
      have x2 : ∀ n os, (grow (wq.drewN n) os).cell? ⟨wr.heap.size, 2, none⟩ = some (.int .i64 x.hi) := cell_grown hzq (cell_of_row _ _ _ _ _ _ hbx)
      have HCq := HC.out.below hbq HV.out
      rw [← hwq]
      have HB2 : Hid (Below w.heap.size w wq) := hbq
      have HR2 : Hid (wq.ownsRow w.heap.size 39 3 u5 (lastN l i).length (cnCells (lastN l i))) := hrq
      generalize wr.heap.size = bx at *
      clear hwq hb1 hbq hrq hbx c1 c2 c3 HR HB
      have HLn : Hid ((lastN l i).length + 1 ≤ 4398046511104) := by have := lastN_len l i; have := HL.out; show _ ≤ _; omega
      by_cases hend : i + 1 = l.length
      · have q2 : (i : Int) + 1 = (l.length : Int) := by omega
        have HS : Hid (lastN l (i + 1) = lastN l i ++ [x]) := by show _ = _; rw [lastN, if_pos (.inl hend), hx]
        have hw1 : IntKind.i64.wrap (l.length : Int) = (l.length : Int) := by rw [IntKind.wrap_i64]; omega
        clear HCq
        have HR3 : Hid (wq.drew.ownsRow w.heap.size 39 3 u5 (lastN l i).length (cnCells (lastN l i))) := by have := Fd.row_grow HR2.out 1 #[]; rwa [grow_empty] at this
        have HB3 : Hid (Below w.heap.size w wq.drew) := HB2.out.drew
        have y0 : wq.drew.cell? ⟨bx, 0, none⟩ = some (.string x.room) := by have := x0 1 #[]; rwa [grow_empty] at this
        have y1 : wq.drew.cell? ⟨bx, 1, none⟩ = some (.int .i64 x.un) := by have := x1 1 #[]; rwa [grow_empty] at this
        have y2 : wq.drew.cell? ⟨bx, 2, none⟩ = some (.int .i64 x.hi) := by have := x2 1 #[]; rwa [grow_empty] at this
        clear x0 x1 x2
        go_big_region_o
        generalize wq.drew = wz at *
        go_wp2_with (first
                  | (at_builtin; refine Tryz.appCn Tryz.underlying22 rfl _ _ rfl (Fd.row_past HR3.out ((Below.refl _ _).alloc (Nat.le_refl _) _) (Nat.le_refl _)) (by rw [World.size_alloc]; exact Nat.le_succ_of_le HB3.out.size) rfl (Fd.cs_one (heap_alloc_new _ _)) rfl HLn.out ?_; intro v1 w2 hr2 hb2)
                  | fail)
        go_roundw
        case rel => exact ⟨i + 1, by first | (simp; done) | (simp; omega), by omega, by rw [HS.out]; simpa using hr2, (HB3.out.alloc HB3.out.size _).trans hb2⟩
        case measure => simp [intOf]; omega
      · have hlt2 : i + 1 < l.length := by omega
        have q2 : ¬ ((i : Int) + 1 = (l.length : Int)) := by omega
        have q3 : (i : Int) + 1 < (l.length : Int) := by omega
        have hw1 : (((i : Int) + 1) == (l.length : Int)) = false := by simpa using q2
        have hwp : IntKind.i64.wrap ((i : Int) + 1) = (i : Int) + 1 := by rw [IntKind.wrap_i64]; omega
        have hnn : (0 : Int) ≤ (i : Int) + 1 := by omega
        have htn : ((i : Int) + 1).toNat = i + 1 := by omega
        obtain ⟨g', o', e', d1, d2, d3⟩ := HCq.at hlt2
        injection e' with e'
        injection e' with e1 e2
        subst e1 e2
        rw [← getElem!_pos l (i + 1) hlt2] at d1 d2 d3
        have hgl : g < wq.heap.size := Nat.lt_of_lt_of_le (HV.out g rfl) HB2.out.size
        have HS : Hid (lastN l (i + 1) = if cnC x l[i + 1]! ≠ 0 then lastN l i ++ [x] else lastN l i) := by
          show _ = _
          rw [lastN, hx]
          by_cases hc : cnC x l[i + 1]! ≠ 0
          · rw [if_pos hc, if_pos (.inr hc)]
          · rw [if_neg hc, if_neg (fun e => e.elim hend hc)]
        generalize l[i + 1]! = y at *
        have z0 : ∀ n os, (grow (wq.drewN n) os).cell? ⟨g, o + (i + 1) * 3, none⟩ = some (.string y.room) := cell_grown hgl d1
        have z1 : ∀ n os, (grow (wq.drewN n) os).cell? ⟨g, o + (i + 1) * 3 + 1, none⟩ = some (.int .i64 y.un) := cell_grown hgl d2
        have z2 : ∀ n os, (grow (wq.drewN n) os).cell? ⟨g, o + (i + 1) * 3 + 2, none⟩ = some (.int .i64 y.hi) := cell_grown hgl d3
        have hcmp : ∀ n os, Calls Tryz.prog 33 #[.agg #[.string x.room, .int .i64 x.un, .int .i64 x.hi], .agg #[.string y.room, .int .i64 y.un, .int .i64 y.hi]] (grow (wq.drewN n) os) fun e w' => e = .returned (.int .i64 (cnC x y)) ∧ ∃ q os', w' = grow ((grow (wq.drewN n) os).drewN q) os' := fun n os => Tryz.byRoom_any x y _
        clear HCq d1 d2 d3
        generalize cnC x y = c at *
        go_quiet_grown (first | (go_at_call 33; refine Calls.grown_of (hcmp _ _)))
        have HR3 : Hid ((grow (wq.drewN nq) osq).ownsRow w.heap.size 39 3 u5 (lastN l i).length (cnCells (lastN l i))) := Fd.row_grow HR2.out nq osq
        have HB3 : Hid (Below w.heap.size w (grow (wq.drewN nq) osq)) := Fd.below_grow HB2.out HB2.out.size nq osq
        have y0 := x0 nq osq
        have y1 := x1 nq osq
        have y2 := x2 nq osq
        clear x0 x1 x2 z0 z1 z2 hcmp
        generalize grow (wq.drewN nq) osq = wz at *
        by_cases hc : c = 0
        · subst hc
          rw [if_neg (by simp)] at HS
          go_wp2
          go_roundw
          case rel => exact ⟨i + 1, by simp, by omega, by rw [HS.out]; exact HR3.out, HB3.out⟩
          case measure => simp [intOf]; omega
        · rw [if_pos hc] at HS
          have hc' : (c != 0) = true := by simpa using hc
          go_wp2_with (first
                    | (at_builtin; refine Tryz.appCn Tryz.underlying22 rfl _ _ rfl (Fd.row_past HR3.out ((Below.refl _ _).alloc (Nat.le_refl _) _) (Nat.le_refl _)) (by rw [World.size_alloc]; exact Nat.le_succ_of_le HB3.out.size) rfl (Fd.cs_one (heap_alloc_new _ _)) rfl HLn.out ?_; intro v1 w2 hr2 hb2)
                    | fail)
          go_roundw
          case rel => exact ⟨i + 1, by first | (simp; done) | (simp; omega), by omega, by rw [HS.out]; simpa using hr2, (HB3.out.alloc HB3.out.size _).trans hb2⟩
          case measure => simp [intOf]; omega
    · have q : ¬ (i : Int) < (l.length : Int) := by omega
      have e : i = l.length := by omega
      subst e
      go_wp2
      go_ret
      exact ⟨_, rfl, HR.out, HB.out⟩
set_option maxRecDepth 20000 in
set_option maxHeartbeats 1000000 in
theorem Tryz.sheetOf_any {w : World} {V : Value} {l : List Cn} (h : Cs w V l) (hV : ∀ k, V.ownBlock = some k → k < w.heap.size) (hl : l.length ≤ 4398046511104) :
    Calls Tryz.prog 20 #[V] w fun e w' => ∃ V', e = .returned V' ∧ w'.ownsRow w.heap.size 39 3 V' (sheet l).length (cnCells (sheet l)) ∧ Below w.heap.size w w' := by
  have hc := Tryz.clone_cn h hV (by omega)
  have HL : Hid (l.length ≤ 4398046511104) := hl
  clear h hV hl
  go_enter Tryz.func20, Tryz.ntmps20
  go_upto_region 2 with (first
    | (go_at_call 39; refine hc.mono ?_; clear hc; rintro e w1 ⟨V1, rfl, hr1, hb1⟩)
    | fail)
  have hs := Tryz.sort_row hr1 HL.out
  have hV1 : ∀ k, V1.ownBlock = some k → w.heap.size ≤ k := fun k e => (hr1.lt k e).1
  clear hr1
  go_upto_region 3 with (first
    | (go_at_call 40; refine hs.mono ?_; clear hs; rintro e w2 ⟨rfl, hr2, hg2⟩)
    | fail)
  have hb2 : Below w.heap.size w w2 := hb1.grown hg2 hb1.size hV1
  rw [← stab_len l] at hr2
  have hlo := Tryz.lastOfEach_any (Cs.ofRow hr2) (fun k e => (hr2.lt k e).2) (by rw [stab_len]; have := HL.out; omega)
  clear hr2 hg2 hb1 hV1
  go_wp2_with (first
    | (go_at_call 41; refine hlo.mono ?_; clear hlo; rintro e w3 ⟨V3, rfl, hr3, hb3⟩)
    | fail)
  go_ret
  exact ⟨V3, rfl, Fd.row_mono hr3 hb2.size, hb2.trans (hb3.mono hb2.size)⟩
end Go.Proofs
