/-
  does, at one journal: what it leaves.
-/
import Derived.Test.YtkoojpaanpmgeaaKn
namespace Go.Proofs
open Go.RowKit Go.Dk
/-- One thing was done; the state that it tells. -/
structure Try.Did (own : Nat → Prop) (w w' : World) (y x q g a : Nat) (snap : List UInt8) (recs : List (List UInt8)) (n f : Nat) (st : Value) (ts : List UInt8) (tr : List (List UInt8)) : Prop where
  ex : ∃ own' s, Try.JD w' own' y x s q g a snap recs ∧ s.n = n ∧ s.falls = f ∧ (∀ k, own' k → own k ∨ w.heap.size ≤ k) ∧ Try.Sta w' (fun k => ¬ own' k ∧ k ≠ y ∧ w.heap.size ≤ k) st ts tr
  wo : Dk.Wo (fun k => own k ∨ k = y) w w'
theorem Dk.row_type {w : World} {b : Nat} {C : Array Value} {T T' : TypeId} {fr : Nat × Nat} (hb : w.heap[b]? = some (.cells C T fr)) (hT : T ≠ T') {v : Value} {m lo : Nat} {xs : List Value} (hr : w.ownsRow lo T' 1 v m xs) (k : Nat) (e : v.ownBlock = some k) : k ≠ b := by
  rintro rfl
  rcases hr.2 with ⟨e1, _⟩ | ⟨g', cap, cur, e1, _, e2, _⟩
  · rw [e1] at e; cases e
  · rw [e1] at e
    injection e with e
    simp at e
    subst e
    rw [hb] at e2
    injection e2 with e2
    injection e2 with _ e3 _
    exact hT e3
theorem Try.Did.of {own : Nat → Prop} {w w2 w3 : World} {y x q g a n f : Nat} {snap : List UInt8} {recs : List (List UInt8)} {st : Value} {ts : List UInt8} {tr : List (List UInt8)} (hw : Below w.heap.size w w2) (hlt : ∀ k, own k → k < w.heap.size) (hy : y < w.heap.size)
    (hj : Try.JDs own w2 w3 y x q g a snap recs n f) (hst : Try.Sta w2 (fun k => w.heap.size ≤ k) st ts tr) (res : Nat) (h1 : w.heap.size ≤ res) {C : Array Value} (h2 : w2.heap[res]? = some (.cells C 28 (0, 0))) (u v : Value) :
    Try.Did own w ((w3.setCell ⟨res, 0, none⟩ u).setCell ⟨res, 1, none⟩ v) y x q g a snap recs n f st ts tr := by
  obtain ⟨own', s', j1, j2, j3, j4⟩ := hj.ex
  have hres := Dk.block_lt h2
  have hs2 := hw.size
  have hs3 := hj.wo.size
  have hwo : Dk.Wo (fun k => k = res) w3 ((w3.setCell ⟨res, 0, none⟩ u).setCell ⟨res, 1, none⟩ v) := (((Dk.Wo.refl (fun k => k = res) w3).setCell res 0 _ (.inl rfl)).setCell res 1 _ (.inl rfl))
  have hne : ∀ k, own' k → k ≠ res := fun k e => by
    rcases j4 k e with e1 | e1
    · have := hlt k e1; omega
    · omega
  refine ⟨⟨own', s', ⟨j1.dsk.keep (fun k e => hwo.block k (j1.dsk.lt k e) (hne k e)) hwo.size, j1.jn.wo hwo (by omega), j1.ny, j1.ho, j1.can⟩, j2, j3, fun k e => ?_, ?_⟩, ?_⟩
  · rcases j4 k e with e1 | e1
    · exact .inl e1
    · exact .inr (by omega)
  · obtain ⟨rv, e1, m2, m3⟩ := hst
    have hrow := Dk.row_type h2 (by decide) m2
    have hno : ∀ k, rv.ownBlock = some k → ¬ own' k := fun k e e2 => by
      have h5 := m3 k e
      have h6 := (m2.lt k e).2
      rcases j4 k e2 with e3 | e3
      · have := hlt k e3; omega
      · omega
    refine ⟨rv, e1, Dk.row_heap m2 fun k e => ?_, fun k e => ⟨hno k e, by have := m3 k e; omega, m3 k e⟩⟩
    have h5 := m3 k e
    have h6 := (m2.lt k e).2
    refine (hwo.block k (by omega) (hrow k e)).trans (hj.wo.block k h6 fun e2 => ?_)
    rcases e2 with e2 | e2
    · have := hlt k e2; omega
    · omega
  · have hA : Dk.Wo (fun k => own k ∨ k = y) w w2 := (Dk.Wo.refl _ w).below hw (Nat.le_refl _)
    exact ((hA.trans hj.wo).setCell res 0 _ (.inr h1)).setCell res 1 _ (.inr h1)
/-- The world behind the boxes of does's own. -/
def Try.Dw (w : World) (snap : List UInt8) (rv : Value) (c ag : Bool) (sz lk : Int) : World :=
  ((w.alloc (.cells #[.string ⟨snap.toArray⟩, rv] 28)).alloc (.cells #[.bool c, .bool ag, .int .i64 sz, .int .i64 lk] 52)).alloc (.cells #[.string ⟨#[]⟩, .slice none 0 0] 28)
theorem Try.Dw_facts (w : World) (snap : List UInt8) (rv : Value) (c ag : Bool) (sz lk : Int) :
    (Try.Dw w snap rv c ag sz lk).heap[w.heap.size]? = some (.cells #[.string ⟨snap.toArray⟩, rv] 28 (0, 0)) ∧ (Try.Dw w snap rv c ag sz lk).heap[w.heap.size + 1]? = some (.cells #[.bool c, .bool ag, .int .i64 sz, .int .i64 lk] 52 (0, 0)) ∧ (Try.Dw w snap rv c ag sz lk).heap[w.heap.size + 1 + 1]? = some (.cells #[.string ⟨#[]⟩, .slice none 0 0] 28 (0, 0)) ∧ (Try.Dw w snap rv c ag sz lk).heap.size = w.heap.size + 1 + 1 + 1 ∧ Below w.heap.size w (Try.Dw w snap rv c ag sz lk) := by
  refine ⟨?_, ?_, ?_, by simp [Try.Dw], (((Below.refl w.heap.size w).alloc (Nat.le_refl _) _).alloc (by simp) _).alloc (by simp; omega) _⟩
  · exact (Below.heap_alloc _ _ _ (by simp; omega)).trans ((Below.heap_alloc _ _ _ (by simp)).trans (heap_alloc_new w _))
  · refine (Below.heap_alloc _ _ _ (by simp)).trans ?_
    have := heap_alloc_new (w.alloc (.cells #[.string ⟨snap.toArray⟩, rv] 28)) (.cells #[.bool c, .bool ag, .int .i64 sz, .int .i64 lk] 52)
    simpa using this
  · have := heap_alloc_new ((w.alloc (.cells #[.string ⟨snap.toArray⟩, rv] 28)).alloc (.cells #[.bool c, .bool ag, .int .i64 sz, .int .i64 lk] 52)) (.cells #[.string ⟨#[]⟩, .slice none 0 0] 28)
    rw [show ((w.alloc (.cells #[.string ⟨snap.toArray⟩, rv] 28)).alloc (.cells #[.bool c, .bool ag, .int .i64 sz, .int .i64 lk] 52)).heap.size = w.heap.size + 1 + 1 by simp] at this
    exact this
set_option maxHeartbeats 2000000 in
set_option maxRecDepth 20000 in
theorem Try.does_nothing {snap : List UInt8} {rv : Value} (hrv : ∃ ad l cap, rv = .slice ad l cap) (sz lk : Int) (i : Int) (xv yv : Value) (w : World) :
    Calls Try.prog 24 #[xv, yv, .agg #[.string ⟨snap.toArray⟩, rv], .agg #[.bool true, .bool true, .int .i64 sz, .int .i64 lk], .int .i64 i] w fun r w' => r = .returned (.tuple #[.agg #[.string ⟨snap.toArray⟩, rv], .int .i64 0]) ∧ Below w.heap.size w w' := by
  obtain ⟨ad, l, cap, rfl⟩ := hrv
  obtain ⟨f0, f1, f2, fs, fb⟩ := Try.Dw_facts w snap (.slice ad l cap) true true sz lk
  generalize hW : Try.Dw w snap (.slice ad l cap) true true sz lk = W0 at *
  unfold Try.Dw at hW
  have n0 := cell_of_row _ _ 0 _ _ _ f0
  have n1 := cell_of_row _ _ 1 _ _ _ f0
  have o0 := cell_of_row _ _ 0 _ _ _ f1
  have o1 := cell_of_row _ _ 1 _ _ _ f1
  have r0 := cell_of_row _ _ 0 _ _ _ f2
  have r1 := cell_of_row _ _ 1 _ _ _ f2
  have z0 := frozen_of_row _ _ 0 _ _ f2
  have z1 := frozen_of_row _ _ 1 _ _ f2
  simp only [List.getElem?_toArray, List.getElem?_cons_zero, List.getElem?_cons_succ] at n0 n1 o0 o1 r0 r1
  go_enter Try.func24, Try.ntmps24
  go_wp2
  have hC := Dk.two_cells f2 (.string ⟨snap.toArray⟩) (.slice ad l cap)
  have g0 := cell_of_row _ _ 0 _ _ _ hC
  have g1 := cell_of_row _ _ 1 _ _ _ hC
  simp only [List.getElem?_toArray, List.getElem?_cons_zero, List.getElem?_cons_succ] at g0 g1
  refine bodyPost_ret (v := .tuple #[.agg #[.string ⟨snap.toArray⟩, .slice ad l cap], .int .i64 0]) (by simp [results, go_sem, g0, g1]) rfl ?_
  exact ⟨rfl, (fb.setCell (by show w.heap.size ≤ w.heap.size + 1 + 1; omega) _).setCell (by show w.heap.size ≤ w.heap.size + 1 + 1; omega) _⟩
set_option maxHeartbeats 2000000 in
set_option maxRecDepth 20000 in
theorem Try.does_append {w : World} {own : Nat → Prop} {y x q g a : Nat} {s : DS} {snap : List UInt8} {recs : List (List UInt8)} {P : Nat → Prop} {ad : Option Addr} {cap : Nat} (h : Try.JD w own y x s (q + 3000) g a snap recs) (hst : Try.Sta w P (.agg #[.string ⟨snap.toArray⟩, .slice ad recs.length cap]) snap recs) (sz lk : Int) (h1 : -9223372036854775808 ≤ sz ∧ sz ≤ 9223372036854775807) (i : Nat) (hi : i < 1000) (L : Nat) (hL : L = 1 + Dk.pickN sz 150) (hf : Dk.fits s.n (body snap recs).length L = true) :
    Calls Try.prog 24 #[.pointer (some ⟨x, 0, none⟩), .pointer (some ⟨y, 0, none⟩), .agg #[.string ⟨snap.toArray⟩, .slice ad recs.length cap], .agg #[.bool false, .bool false, .int .i64 sz, .int .i64 lk], .int .i64 i] w fun r w' => ∃ ad' cap' d, r = .returned (.tuple #[.agg #[.string ⟨snap.toArray⟩, .slice ad' (recs.length + 1) cap'], .int .i64 0]) ∧ d.length = L ∧ Try.Did own w w' y x q g a snap (recs ++ [d]) s.n s.falls (.agg #[.string ⟨snap.toArray⟩, .slice ad' (recs.length + 1) cap']) snap (recs ++ [d]) := by
  obtain ⟨f0, f1, f2, fs, fb⟩ := Try.Dw_facts w snap (.slice ad recs.length cap) false false sz lk
  have hby := Try.bytes_any ⟨false, false, sz, lk⟩ h1 i hi (Try.Dw w snap (.slice ad recs.length cap) false false sz lk)
  have hrl := h.ho.few
  simp only [Dk.Do.len, ← hL] at hby
  have HJ : Hid _ := h
  have HST : Hid (Try.Sta w P (.agg #[.string ⟨snap.toArray⟩, .slice ad recs.length cap]) snap recs) := hst
  clear h hst hL
  generalize hW : Try.Dw w snap (.slice ad recs.length cap) false false sz lk = W0 at *
  unfold Try.Dw at hW
  have n0 := cell_of_row _ _ 0 _ _ _ f0
  have n1 := cell_of_row _ _ 1 _ _ _ f0
  have o0 := cell_of_row _ _ 0 _ _ _ f1
  have o1 := cell_of_row _ _ 1 _ _ _ f1
  have o2 := cell_of_row _ _ 2 _ _ _ f1
  have o3 := cell_of_row _ _ 3 _ _ _ f1
  simp only [List.getElem?_toArray, List.getElem?_cons_zero, List.getElem?_cons_succ] at n0 n1 o0 o1 o2 o3
  go_enter Try.func24, Try.ntmps24
  go_wp2_with (first
    | (go_at_call 25; refine hby.mono ?_; clear hby; rintro e w1 ⟨gb, d, rfl, hd, hsrc, hb1, hgb⟩; have hN1 := (hb1.block _ (by omega)).trans f0; have m0 := cell_of_row _ _ 0 _ _ _ hN1; have m1 := cell_of_row _ _ 1 _ _ _ hN1; have hO1 := (hb1.block _ (by omega)).trans f1; have p0 := cell_of_row _ _ 0 _ _ _ hO1; simp only [List.getElem?_toArray, List.getElem?_cons_zero, List.getElem?_cons_succ] at m0 m1 p0; have hcv := Try.conv_src hsrc; have hbw1 : Below w.heap.size w w1 := fb.trans (hb1.mono (by omega)); have hwi := Try.with_any hrl (Try.Sta.below HST.out hbw1) d)
    | (go_at_call 12; refine hwi.mono ?_; clear hwi; rintro e w2 ⟨v2, rfl, hS2, hb2⟩; have hbw2 : Below w.heap.size w w2 := hbw1.trans (hb2.mono hbw1.size); obtain ⟨rv2, rfl, hr2, hp2⟩ := hS2; obtain ⟨ad2, cap2, rfl, -⟩ := Dk.row_form hr2; rw [List.length_append, List.length_singleton] at hr2 hp2; simp only [List.length_append, List.length_singleton]; have hap := (HJ.out.below hbw2).append _ d (hsrc.up hb2) (by rw [hd]; exact hf))
    | (go_at_call 11; refine hap.mono ?_; clear hap; rintro e w3 ⟨rfl, hj⟩; have hz1 := hb1.size; have hz2 := hb2.size; have hd2 := (hb2.block _ (by omega)).trans ((hb1.block _ (by omega)).trans f2); have hlo : ∀ k, own k → k < w.heap.size := HJ.out.dsk.lt; have hyl := Dk.block_lt HJ.out.jn; have hr3 := (hj.wo.block (w.heap.size + 1 + 1) (by omega) (fun e => by rcases e with e | e; (have := hlo _ e; omega); omega)).trans hd2; have r0 := cell_of_row _ _ 0 _ _ _ hr3; have r1 := cell_of_row _ _ 1 _ _ _ hr3; have z0 := frozen_of_row _ _ 0 _ _ hr3; have z1 := frozen_of_row _ _ 1 _ _ hr3; simp only [List.getElem?_toArray, List.getElem?_cons_zero, List.getElem?_cons_succ] at r0 r1; have HR3 : Hid _ := hr3; have HD2 : Hid _ := hd2; have HJD : Hid _ := hj; have HR2 : Hid (w2.ownsRow 0 9 1 (.slice ad2 (recs.length + 1) cap2) (recs.length + 1) (Dk.strs (recs ++ [d]))) := hr2; have HP2 : Hid _ := hp2; have HBW : Hid _ := hbw2; clear hr3 hd2 hj hr2 hp2)
    | fail)
  have hC := Dk.two_cells HR3.out (.string ⟨snap.toArray⟩) (.slice ad2 (recs.length + 1) cap2)
  have g0 := cell_of_row _ _ 0 _ _ _ hC
  have g1 := cell_of_row _ _ 1 _ _ _ hC
  simp only [List.getElem?_toArray, List.getElem?_cons_zero, List.getElem?_cons_succ] at g0 g1
  refine bodyPost_ret (v := .tuple #[.agg #[.string ⟨snap.toArray⟩, .slice ad2 (recs.length + 1) cap2], .int .i64 0]) (by simp [results, go_sem, g0, g1]) rfl ?_
  refine ⟨ad2, cap2, d, rfl, hd, Try.Did.of HBW.out hlo hyl HJD.out ⟨_, rfl, ?_, fun k e => ?_⟩ (w.heap.size + 1 + 1) (by omega) HD2.out _ _⟩
  · rw [List.length_append]; exact HR2.out
  · have := HP2.out k e
    have := hbw1.size
    omega
set_option maxHeartbeats 2000000 in
set_option maxRecDepth 20000 in
theorem Try.does_full {w : World} {own : Nat → Prop} {y x q g a : Nat} {s : DS} {snap : List UInt8} {recs : List (List UInt8)} {P : Nat → Prop} {ad : Option Addr} {cap : Nat} (h : Try.JD w own y x s q g a snap recs) (hst : Try.Sta w P (.agg #[.string ⟨snap.toArray⟩, .slice ad recs.length cap]) snap recs) (sz lk : Int) (h1 : -9223372036854775808 ≤ sz ∧ sz ≤ 9223372036854775807) (i : Nat) (hi : i < 1000) (L : Nat) (hL : L = 1 + Dk.pickN sz 150) (hf : Dk.fits s.n (body snap recs).length L = false) :
    Calls Try.prog 24 #[.pointer (some ⟨x, 0, none⟩), .pointer (some ⟨y, 0, none⟩), .agg #[.string ⟨snap.toArray⟩, .slice ad recs.length cap], .agg #[.bool false, .bool false, .int .i64 sz, .int .i64 lk], .int .i64 i] w fun r w' => ∃ ad' cap', r = .returned (.tuple #[.agg #[.string ⟨snap.toArray⟩, .slice ad' (recs.length + 1) cap'], .int .i64 51]) ∧ Below w.heap.size w w' := by
  obtain ⟨f0, f1, f2, fs, fb⟩ := Try.Dw_facts w snap (.slice ad recs.length cap) false false sz lk
  have hby := Try.bytes_any ⟨false, false, sz, lk⟩ h1 i hi (Try.Dw w snap (.slice ad recs.length cap) false false sz lk)
  have hrl := h.ho.few
  have hp := Dk.pickN_lt sz (n := 150) (by omega)
  have hLb : 1 ≤ L ∧ L ≤ 150 := by omega
  simp only [Dk.Do.len, ← hL] at hby
  have HJ : Hid _ := h
  have HST : Hid (Try.Sta w P (.agg #[.string ⟨snap.toArray⟩, .slice ad recs.length cap]) snap recs) := hst
  clear h hst hL
  generalize hW : Try.Dw w snap (.slice ad recs.length cap) false false sz lk = W0 at *
  unfold Try.Dw at hW
  have n0 := cell_of_row _ _ 0 _ _ _ f0
  have n1 := cell_of_row _ _ 1 _ _ _ f0
  have o0 := cell_of_row _ _ 0 _ _ _ f1
  have o1 := cell_of_row _ _ 1 _ _ _ f1
  have o2 := cell_of_row _ _ 2 _ _ _ f1
  have o3 := cell_of_row _ _ 3 _ _ _ f1
  simp only [List.getElem?_toArray, List.getElem?_cons_zero, List.getElem?_cons_succ] at n0 n1 o0 o1 o2 o3
  go_enter Try.func24, Try.ntmps24
  go_wp2_with (first
    | (go_at_call 25; refine hby.mono ?_; clear hby; rintro e w1 ⟨gb, d, rfl, hd, hsrc, hb1, hgb⟩; have hN1 := (hb1.block _ (by omega)).trans f0; have m0 := cell_of_row _ _ 0 _ _ _ hN1; have m1 := cell_of_row _ _ 1 _ _ _ hN1; have hO1 := (hb1.block _ (by omega)).trans f1; have p0 := cell_of_row _ _ 0 _ _ _ hO1; simp only [List.getElem?_toArray, List.getElem?_cons_zero, List.getElem?_cons_succ] at m0 m1 p0; have hcv := Try.conv_src hsrc; have hbw1 : Below w.heap.size w w1 := fb.trans (hb1.mono (by omega)); have hwi := Try.with_any hrl (Try.Sta.below HST.out hbw1) d)
    | (go_at_call 12; refine hwi.mono ?_; clear hwi; rintro e w2 ⟨v2, rfl, hS2, hb2⟩; have hbw2 : Below w.heap.size w w2 := hbw1.trans (hb2.mono hbw1.size); obtain ⟨rv2, rfl, hr2, hp2⟩ := hS2; obtain ⟨ad2, cap2, rfl, -⟩ := Dk.row_form hr2; rw [List.length_append, List.length_singleton] at hr2 hp2; simp only [List.length_append, List.length_singleton]; have hap := (HJ.out.below hbw2).full (some ⟨gb, 0, none⟩) L L (by omega) hf; rw [if_neg (by omega)] at hap)
    | (go_at_call 11; refine hap.mono ?_; clear hap; rintro e w3 ⟨rfl, hb3⟩; have hz1 := hb1.size; have hz2 := hb2.size; have hr3 := (hb3.block _ (by omega)).trans ((hb2.block _ (by omega)).trans ((hb1.block _ (by omega)).trans f2)); have r0 := cell_of_row _ _ 0 _ _ _ hr3; have r1 := cell_of_row _ _ 1 _ _ _ hr3; have z0 := frozen_of_row _ _ 0 _ _ hr3; have z1 := frozen_of_row _ _ 1 _ _ hr3; simp only [List.getElem?_toArray, List.getElem?_cons_zero, List.getElem?_cons_succ] at r0 r1; have HR3 : Hid _ := hr3; have HB : Hid (Below w.heap.size w w3) := hbw2.trans (hb3.mono hbw2.size); clear hr3 hr2 hp2)
    | fail)
  have hC := Dk.two_cells HR3.out (.string ⟨snap.toArray⟩) (.slice ad2 (recs.length + 1) cap2)
  have g0 := cell_of_row _ _ 0 _ _ _ hC
  have g1 := cell_of_row _ _ 1 _ _ _ hC
  simp only [List.getElem?_toArray, List.getElem?_cons_zero, List.getElem?_cons_succ] at g0 g1
  refine bodyPost_ret (v := .tuple #[.agg #[.string ⟨snap.toArray⟩, .slice ad2 (recs.length + 1) cap2], .int .i64 51]) (by simp [results, go_sem, g0, g1]) rfl ?_
  exact ⟨ad2, cap2, rfl, (HB.out.setCell (by show w.heap.size ≤ w.heap.size + 1 + 1; omega) _).setCell (by show w.heap.size ≤ w.heap.size + 1 + 1; omega) _⟩
theorem Dk.Src.block {w w' : World} {g n c : Nat} {d : List UInt8} (h : Dk.Src w (.slice (some ⟨g, 0, none⟩) n c) d) (hb : w'.heap[g]? = w.heap[g]?) (hs : w.heap.size ≤ w'.heap.size) : Dk.Src w' (.slice (some ⟨g, 0, none⟩) n c) d := by
  obtain ⟨ad, cap, e, h1⟩ := h.ex
  refine ⟨ad, cap, e, h1.imp id ?_⟩
  rintro ⟨sb, so, e1, e2, e3⟩
  subst e1
  cases e
  exact ⟨g, 0, rfl, Nat.lt_of_lt_of_le e2 hs, fun j u hj => (World.cell?_of_block hb).trans (e3 j u hj)⟩
set_option maxHeartbeats 2000000 in
set_option maxRecDepth 20000 in
theorem Try.does_compact {w : World} {own : Nat → Prop} {y x q g a : Nat} {s : DS} {snap : List UInt8} {recs : List (List UInt8)} {ad : Option Addr} {cap : Nat} (h : Try.JD w own y x s (q + 3000) g a snap recs) (hg : g < 999999999) (hH : 150 ≤ 64 * half s.n) (sz lk : Int) (h1 : -9223372036854775808 ≤ sz ∧ sz ≤ 9223372036854775807) (i : Nat) (hi : i < 1000) (L : Nat) (hL : L = 1 + Dk.pickN sz 150) :
    Calls Try.prog 24 #[.pointer (some ⟨x, 0, none⟩), .pointer (some ⟨y, 0, none⟩), .agg #[.string ⟨snap.toArray⟩, .slice ad recs.length cap], .agg #[.bool true, .bool false, .int .i64 sz, .int .i64 lk], .int .i64 i] w fun r w' => ∃ d, r = .returned (.tuple #[.agg #[.string ⟨d.toArray⟩, .slice none 0 0], .int .i64 0]) ∧ d.length = L ∧ Try.Did own w w' y x q (g + 1) (1 - a) d [] s.n s.falls (.agg #[.string ⟨d.toArray⟩, .slice none 0 0]) d [] := by
  obtain ⟨f0, f1, f2, fs, fb⟩ := Try.Dw_facts w snap (.slice ad recs.length cap) true false sz lk
  have hby := Try.bytes_any ⟨true, false, sz, lk⟩ h1 i hi (Try.Dw w snap (.slice ad recs.length cap) true false sz lk)
  have hp := Dk.pickN_lt sz (n := 150) (by omega)
  have hLb : 1 ≤ L ∧ L ≤ 150 := by omega
  simp only [Dk.Do.len, ← hL] at hby
  have HJ : Hid _ := h
  clear h hL hp
  generalize hW : Try.Dw w snap (.slice ad recs.length cap) true false sz lk = W0 at *
  unfold Try.Dw at hW
  have o0 := cell_of_row _ _ 0 _ _ _ f1
  have o1 := cell_of_row _ _ 1 _ _ _ f1
  have o2 := cell_of_row _ _ 2 _ _ _ f1
  have o3 := cell_of_row _ _ 3 _ _ _ f1
  simp only [List.getElem?_toArray, List.getElem?_cons_zero, List.getElem?_cons_succ] at o0 o1 o2 o3
  go_enter Try.func24, Try.ntmps24
  go_wp2_with (first
    | (go_at_call 25; refine hby.mono ?_; clear hby; rintro e w1 ⟨gb, d, rfl, hd, hsrc, hb1, hgb⟩; have hO1 := (hb1.block _ (by omega)).trans f1; have p0 := cell_of_row _ _ 0 _ _ _ hO1; simp only [List.getElem?_toArray, List.getElem?_cons_zero] at p0)
    | fail)
  have hglt : gb < w1.heap.size := by
    obtain ⟨_, hc⟩ := hsrc.cell
    rcases hc with rfl | ⟨sb, so, e, hlt, _⟩
    · simp at hd; omega
    · cases e; exact hlt
  have hbw1 : Below w.heap.size w w1.drew := (fb.trans (hb1.mono (by omega))).drew
  have hcv := Try.conv_src (hsrc.up (Below.refl w1.heap.size w1).drew)
  have hco := (HJ.out.below hbw1).compact _ d (hsrc.up (Below.refl w1.heap.size w1).drew) (by omega) hg
  have hz1 := hb1.size
  have hlo : ∀ k, own k → k < w.heap.size := HJ.out.dsk.lt
  have hyl := Dk.block_lt HJ.out.jn
  have hd1 : w1.drew.heap[w.heap.size + 1 + 1]? = _ := (hb1.block _ (by omega)).trans f2
  have HD1 : Hid _ := hd1
  clear hd1
  go_region_with (first
    | (go_at_call 13; refine hco.mono ?_; clear hco; rintro e w3 ⟨rfl, hj⟩; have hks : ∀ k, w.heap.size ≤ k → k < w1.heap.size → w3.heap[k]? = w1.heap[k]? := fun k hk hk1 => hj.wo.block k hk1 (fun e => by rcases e with e | e; (have := hlo _ e; omega); omega); have hcv3 := Try.conv_src (hsrc.block (hks gb (by omega) hglt) hj.wo.size); have hr3 := (hks (w.heap.size + 1 + 1) (by omega) (by omega)).trans HD1.out; have r0 := cell_of_row _ _ 0 _ _ _ hr3; have r1 := cell_of_row _ _ 1 _ _ _ hr3; have z0 := frozen_of_row _ _ 0 _ _ hr3; have z1 := frozen_of_row _ _ 1 _ _ hr3; simp only [List.getElem?_toArray, List.getElem?_cons_zero, List.getElem?_cons_succ] at r0 r1; have HJD : Hid _ := hj; have HR3 : Hid _ := hr3; clear hj hr3 hks)
    | fail)
  all_goals
    go_wp2
    have hC := Dk.two_cells HR3.out (.string ⟨d.toArray⟩) (.slice none 0 0)
    have g0 := cell_of_row _ _ 0 _ _ _ hC
    have g1 := cell_of_row _ _ 1 _ _ _ hC
    simp only [List.getElem?_toArray, List.getElem?_cons_zero, List.getElem?_cons_succ] at g0 g1
    refine bodyPost_ret (v := .tuple #[.agg #[.string ⟨d.toArray⟩, .slice none 0 0], .int .i64 0]) (by simp [results, go_sem, g0, g1]) rfl ?_
    exact ⟨d, rfl, hd, Try.Did.of hbw1 hlo hyl HJD.out (Try.sta_lit _ _ _) (w.heap.size + 1 + 1) (by omega) HD1.out _ _⟩
end Go.Proofs
