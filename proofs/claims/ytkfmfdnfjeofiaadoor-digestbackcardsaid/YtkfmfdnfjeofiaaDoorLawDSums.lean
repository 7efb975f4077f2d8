/-
  DigestSums, walked.
-/
import Derived.Test.YtkfmfdnfjeofiaaDoorIv
namespace Go.Proofs
open Go.RowKit Go.Wi Go.Dg
/-- The first bytes of a list that was lent. -/
theorem Dg.ob_first {w : World} {B g N : Nat} {l r : List UInt8} (h : Ob w B (.slice (some ⟨g, 0, none⟩) N N) (l ++ r)) : Ob w B (.slice (some ⟨g, 0, none⟩) l.length N) l := by
  have h1 := Ob.take h l.length (by rw [List.length_append]; omega)
  rwa [List.take_left] at h1
set_option maxRecDepth 20000 in
set_option maxHeartbeats 1000000 in
theorem Tryd.digestSumsWalk (s : ByteArray) (hs : s.size ≤ 140737488351232) (w : World) (hT : Tryd.Tq w) :
    Calls Tryd.prog 6 #[.string s] w fun e w' => e = .returned (.bool true) ∧ Below w.heap.size w w' := by
  have HT : Hid _ := hT
  have hsh := Tryd.shown_any w hT
  obtain ⟨D, hD⟩ : ∃ D, D = Dg.sum s.toList := ⟨_, rfl⟩
  have hDl : D.length = 32 := by rw [hD]; exact Dg.sum_len _
  have l32 : (Lib.byteCells D).length = 32 := by rw [byteCells_len]; exact hDl
  have HD : Hid (D = Dg.sum s.toList) := hD
  obtain ⟨T, hTt⟩ : ∃ T, T = s.toList.map (· + 1) := ⟨_, rfl⟩
  have HTt : Hid (T = s.toList.map (· + 1)) := hTt
  obtain ⟨E, hE⟩ : ∃ E, E = Dg.sum T := ⟨_, rfl⟩
  have hEl : E.length = 32 := by rw [hE]; exact Dg.sum_len _
  have l32' : (Lib.byteCells E).length = 32 := by rw [byteCells_len]; exact hEl
  have HE : Hid (E = Dg.sum T) := hE
  obtain ⟨N, hN⟩ : ∃ N, N = s.size + 80 := ⟨_, rfl⟩
  have HN : Hid (N = s.size + 80) := hN
  have hsl := Dg.list_len s
  have Hsl : Hid (s.toList.length = s.size) := hsl
  have q1 : (s.size : Int) ≤ (N : Int) := by omega
  have q2 : (0 : Int) ≤ (s.size : Int) := by omega
  have q3 : ¬ N = 0 := by omega
  clear hT hD hTt hE hN hsl
  go_enter Tryd.func6, Tryd.ntmps6
  go_upto_region 5 with (first
    | (go_at_call 9; refine hsh.mono ?_; clear hsh; rintro z w1 ⟨rfl, hb1⟩; have HB1 : Hid _ := hb1; clear hb1; have hle := Tryd.lent_any s (by omega) w1; rw [← HN.out] at hle)
    | (go_at_call 13; refine hle.mono ?_; clear hle; rintro z w2 ⟨rfl, ho2, hb2⟩; have H2 : Hid (Ob w2 w1.heap.size (.slice (some ⟨w1.heap.size, 0, none⟩) N N) (s.toList ++ List.replicate 80 201) ∧ Below w1.heap.size w1 w2) := ⟨ho2, hb2⟩; clear ho2 hb2)
    | fail)
  have HB2 : Hid (Below w.heap.size w w2 ∧ w.heap.size ≤ w1.heap.size) := ⟨HB1.out.trans (H2.out.2.mono HB1.out.size), HB1.out.size⟩
  have H2o : Hid _ := H2.out.1
  clear H2 HB1
  generalize w1.heap.size = g at *
  have hsm := Tryd.sum_any (w := w2) (HT.out.below HB2.out.1 HT.out.sz) (Ob.bs (Dg.ob_first H2o.out)) (fun k e => (Ob.lt (Dg.ob_first H2o.out) k e).2) (by rw [Hsl.out]; omega)
  rw [← HD.out, Hsl.out] at hsm
  go_wp2_with (fail)
  refine hsm.mono ?_
  clear hsm
  rintro z w3 ⟨rfl, hb3⟩
  have st3 := Tryd.new32 w3 D hDl
  have H3 : Hid (Below w2.heap.size w2 w3) := hb3
  clear hb3
  go_upto_region 6 with (fail)
  obtain ⟨w4, hw4⟩ : ∃ w4, w4 = w3.alloc (.cells (Lib.byteCells D).toArray 32) := ⟨_, rfl⟩
  have H4 : Hid (Dg.Br 32 w4 w3.heap.size D ∧ Below w.heap.size w w4 ∧ Ob w4 g (.slice (some ⟨g, 0, none⟩) N N) (s.toList ++ List.replicate 80 201) ∧ g < w3.heap.size) := by
    have h1 : Below w2.heap.size w2 w4 := by rw [hw4]; exact H3.out.alloc H3.out.size _
    refine ⟨by rw [hw4]; exact heap_alloc_new w3 _, HB2.out.1.trans (h1.mono HB2.out.1.size), Ob.below H2o.out h1 (Nat.le_refl _), ?_⟩
    have h2 := (Ob.lt H2o.out g rfl).2
    have h3 := H3.out.size
    omega
  rw [← hw4]
  clear hw4 st3 H3 H2o
  generalize w3.heap.size = gD at *
  have Hlen : Hid ((s.toList ++ List.replicate 80 201).length = N) := (by show _ = _; rw [List.length_append, List.length_replicate, Hsl.out, HN.out])
  have hst := Tryd.still_any (w := w4) (B := g) (g := g) (cap := N) (s := s) (l := s.toList ++ List.replicate 80 201) 80 rfl (by rw [Hlen.out]; exact H4.out.2.2.1) (by rw [Hlen.out, HN.out]; omega)
  rw [Hlen.out] at hst
  go_upto_region 7 with (first | (go_at_call 17; refine hst.mono ?_; clear hst; rintro z w5 ⟨rfl, m5, rfl⟩) | fail)
  have H5 : Hid (Dg.Br 32 (w4.drewN m5) gD D ∧ Below w.heap.size w (w4.drewN m5) ∧ Ob (w4.drewN m5) g (.slice (some ⟨g, 0, none⟩) N N) (s.toList ++ List.replicate 80 201)) := ⟨H4.out.1, belowN H4.out.2.1 m5, Ob.drewN H4.out.2.2.1 m5⟩
  generalize w4.drewN m5 = w6 at *
  have htu := Tryd.lturned_any (w := w6) (B := g) (g := g) (cap := N) (l := s.toList) (Dg.ob_first H5.out.2.2) (by rw [Hsl.out]; omega)
  rw [← HTt.out, Hsl.out] at htu
  go_upto_region 8 with (first | (go_at_call 18; refine htu.mono ?_; clear htu; rintro z w7 ⟨rfl, ho7, hw7⟩; have H7 : Hid (Ob w7 g (.slice (some ⟨g, 0, none⟩) s.size N) T ∧ Wo (fun k => k = g) w6 w7) := ⟨ho7, hw7⟩; clear ho7 hw7) | fail)
  have H8 : Hid (Dg.Br 32 w7 gD D ∧ Below w.heap.size w w7 ∧ Ob w7 g (.slice (some ⟨g, 0, none⟩) s.size N) T) :=
    ⟨H5.out.1.keep (H7.out.2.block _ H5.out.1.lt (by have := H4.out.2.2.2; omega)), Wo.toBelow H5.out.2.1 H7.out.2 (fun k e => by rw [e]; exact HB2.out.2) (by have := HB2.out.1.size; have := H5.out.2.1.size; omega), H7.out.1⟩
  clear H7 H5
  have hTl : Hid (T.length = s.size) := (by show _ = _; rw [HTt.out, List.length_map, Hsl.out])
  have hsm := Tryd.sum_any (w := w7) (HT.out.below H8.out.2.1 HT.out.sz) (Ob.bs H8.out.2.2) (fun k e => (Ob.lt H8.out.2.2 k e).2) (by rw [hTl.out]; omega)
  rw [← HE.out] at hsm
  go_wp2_with (fail)
  refine hsm.mono ?_
  clear hsm
  rintro z w8 ⟨rfl, hb8⟩
  have st8 := Tryd.new32 w8 E hEl
  have HB8 : Hid (Below w7.heap.size w7 w8) := hb8
  clear hb8
  go_upto_region 9 with (fail)
  obtain ⟨w9, hw9⟩ : ∃ w9, w9 = w8.alloc (.cells (Lib.byteCells E).toArray 32) := ⟨_, rfl⟩
  have H9 : Hid (Dg.Br 32 w9 gD D ∧ Dg.Br 32 w9 w8.heap.size E ∧ Below w.heap.size w w9) := by
    have h1 : Below w7.heap.size w7 w9 := by rw [hw9]; exact HB8.out.alloc HB8.out.size _
    exact ⟨H8.out.1.keep (h1.block _ H8.out.1.lt), by rw [hw9]; exact heap_alloc_new w8 _, H8.out.2.1.trans (h1.mono H8.out.2.1.size)⟩
  rw [← hw9]
  clear hw9 st8 HB8 H8
  generalize w8.heap.size = gE at *
  have kD : ∀ W, Below w9.heap.size w9 W → Dg.Br 32 W gD D := fun W hW => H9.out.1.keep (hW.block _ H9.out.1.lt)
  have kE : ∀ W, Below w9.heap.size w9 W → Dg.Br 32 W gE E := fun W hW => H9.out.2.1.keep (hW.block _ H9.out.2.1.lt)
  refine wp_region_quiet (C := fun W => Below w9.heap.size w9 W) (by kernel_rfl) (by kernel_rfl) ⟨rfl, rfl, rfl, Nat.le_refl _, fun _ _ => rfl⟩ ?_
  dsimp only
  refine Go.Lq.q_valW (v := .bool true) (by kernel_rfl) (fun _ _ => by kernel_rfl) ?_
  try simp only [Act.put, List.setIfInBounds_toArray, List.set_cons_zero, List.set_cons_succ]
  refine Go.Lq.q_valW (v := .bool true) (by kernel_rfl) (fun _ _ => by kernel_rfl) ?_
  try simp only [Act.put, List.setIfInBounds_toArray, List.set_cons_zero, List.set_cons_succ]
  refine Go.Lq.q_valW (v := .bool true) (by kernel_rfl) (fun _ _ => by kernel_rfl) ?_
  try simp only [Act.put, List.setIfInBounds_toArray, List.set_cons_zero, List.set_cons_succ]
  refine Go.Lq.q_valW (v := .bool true) (by kernel_rfl) (fun _ _ => by kernel_rfl) ?_
  try simp only [Act.put, List.setIfInBounds_toArray, List.set_cons_zero, List.set_cons_succ]
  refine Go.Lq.q_valW (v := .bool true) (by kernel_rfl) (fun _ _ => by kernel_rfl) ?_
  try simp only [Act.put, List.setIfInBounds_toArray, List.set_cons_zero, List.set_cons_succ]
  refine Go.Lq.q_valW (v := .slice (some ⟨gD, 0, none⟩) 32 32) (by kernel_rfl) (fun W _ => by have sl := Tryd.sl32 gD W; exact Dg.run_sl0 rfl rfl sl) ?_
  try simp only [Act.put, List.setIfInBounds_toArray, List.set_cons_zero, List.set_cons_succ]
  refine Go.Lq.q_valW (v := .string ⟨D.toArray⟩) (by kernel_rfl) (fun W hW => by have cv := Tryd.str32 (kD W hW) hDl; exact Dg.run_conv rfl rfl cv) ?_
  try simp only [Act.put, List.setIfInBounds_toArray, List.set_cons_zero, List.set_cons_succ]
  refine Go.Lq.q_valW (v := .string s) (by kernel_rfl) (fun _ _ => by kernel_rfl) ?_
  try simp only [Act.put, List.setIfInBounds_toArray, List.set_cons_zero, List.set_cons_succ]
  refine Go.Lq.q_callW (v := .string ⟨D.toArray⟩) (f := 19) (args := #[.string s]) (by kernel_rfl) (fun _ _ => by kernel_rfl) (fun W hW => ?_) ?_
  · have h1 := Tryd.refSum_any s (by omega) W
    rw [← HD.out] at h1
    exact h1.mono fun _ _ ⟨h2, h3⟩ => ⟨h2, hW.trans (h3.mono hW.size)⟩
  try simp only [Act.put, List.setIfInBounds_toArray, List.set_cons_zero, List.set_cons_succ]
  refine Go.Lq.q_valW (v := .bool true) (by kernel_rfl) (fun W _ => by go_simp) ?_
  try simp only [Act.put, List.setIfInBounds_toArray, List.set_cons_zero, List.set_cons_succ]
  refine Go.Lq.q_valW (v := .bool true) (by kernel_rfl) (fun _ _ => by kernel_rfl) ?_
  try simp only [Act.put, List.setIfInBounds_toArray, List.set_cons_zero, List.set_cons_succ]
  refine Go.Lq.q_valW (v := .bool true) (by kernel_rfl) (fun _ _ => by kernel_rfl) ?_
  try simp only [Act.put, List.setIfInBounds_toArray, List.set_cons_zero, List.set_cons_succ]
  refine Go.Lq.q_valW (v := .slice (some ⟨gE, 0, none⟩) 32 32) (by kernel_rfl) (fun W _ => by have sl := Tryd.sl32 gE W; exact Dg.run_sl0 rfl rfl sl) ?_
  try simp only [Act.put, List.setIfInBounds_toArray, List.set_cons_zero, List.set_cons_succ]
  refine Go.Lq.q_valW (v := .string ⟨E.toArray⟩) (by kernel_rfl) (fun W hW => by have cv := Tryd.str32 (kE W hW) hEl; exact Dg.run_conv rfl rfl cv) ?_
  try simp only [Act.put, List.setIfInBounds_toArray, List.set_cons_zero, List.set_cons_succ]
  refine Go.Lq.q_valW (v := .string ⟨T.toArray⟩) (by kernel_rfl) (fun _ _ => by kernel_rfl) ?_
  try simp only [Act.put, List.setIfInBounds_toArray, List.set_cons_zero, List.set_cons_succ]
  refine Go.Lq.q_callW (v := .string ⟨E.toArray⟩) (f := 19) (args := #[.string ⟨T.toArray⟩]) (by kernel_rfl) (fun _ _ => by kernel_rfl) (fun W hW => ?_) ?_
  · have h1 := Tryd.refSum_any ⟨T.toArray⟩ (by show T.length ≤ _; rw [hTl.out]; omega) W
    rw [Dg.of_list, ← HE.out] at h1
    exact h1.mono fun _ _ ⟨h2, h3⟩ => ⟨h2, hW.trans (h3.mono hW.size)⟩
  try simp only [Act.put, List.setIfInBounds_toArray, List.set_cons_zero, List.set_cons_succ]
  refine Go.Lq.q_valW (v := .bool true) (by kernel_rfl) (fun W _ => by go_simp) ?_
  try simp only [Act.put, List.setIfInBounds_toArray, List.set_cons_zero, List.set_cons_succ]
  refine Go.Lq.q_valW (v := .bool true) (by kernel_rfl) (fun _ _ => by kernel_rfl) ?_
  try simp only [Act.put, List.setIfInBounds_toArray, List.set_cons_zero, List.set_cons_succ]
  refine Go.Lq.q_valW (v := .bool true) (by kernel_rfl) (fun _ _ => by kernel_rfl) ?_
  try simp only [Act.put, List.setIfInBounds_toArray, List.set_cons_zero, List.set_cons_succ]
  refine wpQuiet_nil ?_
  intro W hW
  go_wp2
  go_ret
  exact ⟨rfl, H9.out.2.2.trans (hW.mono H9.out.2.2.size)⟩
end Go.Proofs
