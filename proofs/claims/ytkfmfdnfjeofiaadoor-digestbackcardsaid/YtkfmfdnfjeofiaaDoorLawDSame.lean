/-
  DigestSame, walked.
-/
import Derived.Test.YtkfmfdnfjeofiaaDoorLawDSums
namespace Go.Proofs
open Go.RowKit Go.Wi Go.Dg
theorem Dg.text_inj {a b : ByteArray} : a.toList = b.toList ↔ a = b := ⟨fun h => by rw [← Dg.bytes_back a, h, Dg.bytes_back], fun h => by rw [h]⟩
theorem Dg.beq_text (a b : ByteArray) : (a.toList == b.toList) = decide (a = b) := by
  by_cases h : a = b
  · simp [h]
  · have h2 : ¬ a.toList = b.toList := fun e => h (Dg.text_inj.1 e)
    simp [h, h2]
theorem Dg.nilText : (⟨#[]⟩ : ByteArray).toList = [] := by rw [ByteArray.toList_eq]
theorem Dg.bs_nil (w : World) : Bs w (.slice none 0 0) [] := ⟨none, 0, rfl, Nat.le_refl _, fun _ => rfl, .inl rfl⟩
theorem Tryd.sl_to {g n N C : Nat} (hn : n ≤ C) (_h0 : ¬ C = 0) (W : World) : (Instr.sliceAt 24 (.slice (some ⟨g, 0, none⟩) N C) none (some (.int .i64 (n : Int))) none).run Tryd.prog W = .ok (.slice (some ⟨g, 0, none⟩) n C) W := by
  have h1 : (n : Int) ≤ C := by omega
  rw [run_sliceAt_slice (P := Tryd.prog) (w := W) 24 _ _ _ _ Tryd.underlying24, run_slice_h (P := Tryd.prog) (w := W) (ht := Tryd.underlying24) (kh := .i64) (h := n) (h0 := by omega) (h2 := h1)]
  have h2 : Tryd.prog.elem 24 = 5 := by kernel_rfl
  rw [h2, Tryd.szu8 W]
  simp [Result.andThen, sliced, Addr.add_mid]
set_option maxRecDepth 20000 in
set_option maxHeartbeats 1000000 in
theorem Tryd.digestSameWalk (a : ByteArray) (ha : a.size ≤ 140737488351232) (b : ByteArray) (hb : b.size ≤ 140737488351232) (w : World) (hT : Tryd.Tq w) :
    Calls Tryd.prog 4 #[.string a, .string b] w fun e w' => e = .returned (.bool true) ∧ Below w.heap.size w w' := by
  have hsh := Tryd.shown_any w hT
  obtain ⟨N, hN⟩ : ∃ N, N = a.size + 80 := ⟨_, rfl⟩
  have HN : Hid (N = a.size + 80) := hN
  obtain ⟨M, hM⟩ : ∃ M, M = b.size + 80 := ⟨_, rfl⟩
  have HM : Hid (M = b.size + 80) := hM
  have Hal : Hid (a.toList.length = a.size) := Dg.list_len a
  have Hbl : Hid (b.toList.length = b.size) := Dg.list_len b
  have q1 : (a.size : Int) ≤ (N : Int) := by omega
  have q2 : (0 : Int) ≤ (a.size : Int) := by omega
  have q3 : (b.size : Int) ≤ (M : Int) := by omega
  have q4 : (0 : Int) ≤ (b.size : Int) := by omega
  have q5 : ¬ N = 0 := by omega
  have q6 : ¬ M = 0 := by omega
  clear hT hN hM
  go_enter Tryd.func4, Tryd.ntmps4
  go_upto_region 5 with (first
    | (go_at_call 9; refine hsh.mono ?_; clear hsh; rintro z w1 ⟨rfl, hb1⟩; have HB1 : Hid _ := hb1; clear hb1; have hle := Tryd.lent_any a (by omega) w1; rw [← HN.out] at hle)
    | (go_at_call 13; refine hle.mono ?_; clear hle; rintro z w2 ⟨rfl, ho2, hb2⟩; have H2 : Hid (Ob w2 w1.heap.size (.slice (some ⟨w1.heap.size, 0, none⟩) N N) (a.toList ++ List.replicate 80 201) ∧ Below w1.heap.size w1 w2) := ⟨ho2, hb2⟩; clear ho2 hb2)
    | fail)
  have hle := Tryd.lent_any b (by omega) w2
  rw [← HM.out] at hle
  go_upto_region 6 with (first
    | (go_at_call 13; refine hle.mono ?_; clear hle; rintro z w3 ⟨rfl, ho3, hb3⟩; have H3 : Hid (Ob w3 w2.heap.size (.slice (some ⟨w2.heap.size, 0, none⟩) M M) (b.toList ++ List.replicate 80 201) ∧ Below w2.heap.size w2 w3) := ⟨ho3, hb3⟩; clear ho3 hb3)
    | fail)
  have H4 : Hid (Below w.heap.size w w3 ∧ Bs w3 (.slice (some ⟨w1.heap.size, 0, none⟩) a.size N) a.toList ∧ Bs w3 (.slice (some ⟨w2.heap.size, 0, none⟩) b.size M) b.toList) := by
    have h1 := Ob.bs (Dg.ob_first (Ob.below H2.out.1 H3.out.2 (Nat.le_refl _)))
    have h2 := Ob.bs (Dg.ob_first H3.out.1)
    rw [Hal.out] at h1
    rw [Hbl.out] at h2
    have h3 := HB1.out.trans (H2.out.2.mono HB1.out.size)
    exact ⟨h3.trans (H3.out.2.mono h3.size), h1, h2⟩
  have HX : Hid (w1.heap.size < w3.heap.size ∧ w2.heap.size < w3.heap.size) := (by
    have h1 := (Ob.lt H2.out.1 w1.heap.size rfl).2
    have h2 := (Ob.lt H3.out.1 w2.heap.size rfl).2
    exact ⟨by omega, h2⟩)
  clear H2 H3 HB1
  generalize w1.heap.size = g at *
  generalize w2.heap.size = g2 at *
  have hs3 : a.size ≤ N := by have := HN.out; omega
  have hs4 : b.size ≤ M := by have := HM.out; omega
  have Hla : Hid (a.toList.length ≤ 1000000000000000) := (by show _ ≤ _; rw [Hal.out]; omega)
  have k1 : ∀ n, Calls Tryd.prog 14 #[.slice none 0 0, .slice (some ⟨g, 0, none⟩) a.size N] (w3.drewN n) fun e w' => e = .returned (.bool (decide (a = ⟨#[]⟩))) ∧ ∃ m, w' = w3.drewN m := fun n =>
    (Tryd.same_any' (w := w3.drewN n) (Dg.bs_nil _) (H4.out.2.1.keep fun _ _ => rfl) (by decide)).mono fun _ _ ⟨h1, m, h2⟩ => ⟨by rw [h1]; congr 2; exact decide_eq_decide.2 ⟨fun e => Dg.text_inj.1 (e.symm.trans Dg.nilText.symm), fun e => by rw [e]; exact Dg.nilText.symm⟩, n + m, by rw [h2, World.drewN_drewN]⟩
  have k2 : ∀ n, Calls Tryd.prog 14 #[.slice (some ⟨g, 0, none⟩) a.size N, .slice none 0 0] (w3.drewN n) fun e w' => e = .returned (.bool (decide (a = ⟨#[]⟩))) ∧ ∃ m, w' = w3.drewN m := fun n =>
    (Tryd.same_any' (w := w3.drewN n) (H4.out.2.1.keep fun _ _ => rfl) (Dg.bs_nil _) Hla.out).mono fun _ _ ⟨h1, m, h2⟩ => ⟨by rw [h1]; congr 2; exact decide_eq_decide.2 ⟨fun e => Dg.text_inj.1 (e.trans Dg.nilText.symm), fun e => by rw [e]; exact Dg.nilText⟩, n + m, by rw [h2, World.drewN_drewN]⟩
  have k3 : ∀ n, Calls Tryd.prog 14 #[.slice none 0 0, .slice none 0 0] (w3.drewN n) fun e w' => e = .returned (.bool true) ∧ ∃ m, w' = w3.drewN m := fun n =>
    (Tryd.same_any' (w := w3.drewN n) (Dg.bs_nil _) (Dg.bs_nil _) (by decide)).mono fun _ _ ⟨h1, m, h2⟩ => ⟨by rw [h1]; rfl, n + m, by rw [h2, World.drewN_drewN]⟩
  obtain ⟨p, hp⟩ : ∃ p : Bool, p = decide (a = ⟨#[]⟩) := ⟨_, rfl⟩
  rw [← hp] at k1 k2
  go_cut [8] (fun v wx => v = .bool true ∧ ∃ n, wx = w3.drewN n)
  case first =>
    have k1' := k1 0
    change Calls Tryd.prog 14 #[.slice none 0 0, .slice (some ⟨g, 0, none⟩) a.size N] w3 _ at k1'
    have hee : a.toList.isEmpty = p := by
      rw [hp]
      by_cases hae : a = ⟨#[]⟩
      · simp [hae]
      · simp only [hae, decide_false]
        rw [List.isEmpty_eq_false_iff]
        exact fun e => hae (Dg.text_inj.1 (e.trans Dg.nilText.symm))
    clear hp
    cases p
    all_goals
      go_wp2_with (fail)
      refine k1'.mono ?_
      rintro z Z1 ⟨rfl, m1, rfl⟩
      go_wp2_with (fail)
      refine (k2 m1).mono ?_
      rintro z Z2 ⟨rfl, m2, rfl⟩
      go_wp2_with (fail)
      refine (k3 m2).mono ?_
      rintro z Z3 ⟨rfl, m3, rfl⟩
      go_wp2_with (fail)
      go_meet
      case rel => exact ⟨rfl, m3, rfl⟩
  case rest =>
    obtain ⟨rfl, n0, rfl⟩ := hcut
    clear k1 k2 k3 hp
    have k4 : ∀ W, (∃ n, W = w3.drewN n) → Bs W (.slice (some ⟨g, 0, none⟩) a.size N) a.toList := fun W ⟨n, e⟩ => by rw [e]; exact H4.out.2.1.keep fun _ _ => rfl
    have k5 : ∀ W, (∃ n, W = w3.drewN n) → Bs W (.slice (some ⟨g2, 0, none⟩) b.size M) b.toList := fun W ⟨n, e⟩ => by rw [e]; exact H4.out.2.2.keep fun _ _ => rfl
    obtain ⟨q, hq⟩ : ∃ q : Bool, q = decide (a = b) := ⟨_, rfl⟩
    have Hq : Hid (decide (a.toList = b.toList) = q) := (by show _ = _; rw [hq]; exact decide_eq_decide.2 Dg.text_inj)
    have Hq2 : Hid (q = decide (a = b)) := hq
    clear hq
    go_upto_region 7 with (fail)
    refine wp_region_quiet (C := fun W => ∃ n, W = w3.drewN n) (by kernel_rfl) (by kernel_rfl) ⟨n0 + 1, rfl⟩ ?_
    dsimp only
    refine Go.Lq.q_valW (v := .bool true) (by kernel_rfl) (fun _ _ => by kernel_rfl) ?_
    try simp only [Act.put, List.setIfInBounds_toArray, List.set_cons_zero, List.set_cons_succ]
    refine Go.Lq.q_valW (v := .bool true) (by kernel_rfl) (fun _ _ => by kernel_rfl) ?_
    try simp only [Act.put, List.setIfInBounds_toArray, List.set_cons_zero, List.set_cons_succ]
    refine Go.Lq.q_valW (v := .bool true) (by kernel_rfl) (fun _ _ => by kernel_rfl) ?_
    try simp only [Act.put, List.setIfInBounds_toArray, List.set_cons_zero, List.set_cons_succ]
    refine Go.Lq.q_valW (v := .bool true) (by kernel_rfl) (fun _ _ => by kernel_rfl) ?_
    try simp only [Act.put, List.setIfInBounds_toArray, List.set_cons_zero, List.set_cons_succ]
    refine Go.Lq.q_valW (v := .bool true) (by kernel_rfl) (fun _ _ => by kernel_rfl) ?_
    try simp only [Act.put, List.setIfInBounds_toArray, List.set_cons_zero, List.set_cons_succ]
    refine Go.Lq.q_valW (v := .slice (some ⟨g, 0, none⟩) N N) (by kernel_rfl) (fun _ _ => by kernel_rfl) ?_
    try simp only [Act.put, List.setIfInBounds_toArray, List.set_cons_zero, List.set_cons_succ]
    refine Go.Lq.q_valW (v := .string a) (by kernel_rfl) (fun _ _ => by kernel_rfl) ?_
    try simp only [Act.put, List.setIfInBounds_toArray, List.set_cons_zero, List.set_cons_succ]
    refine Go.Lq.q_valW (v := .int .i64 (a.size : Int)) (by kernel_rfl) (fun W _ => by go_simp) ?_
    try simp only [Act.put, List.setIfInBounds_toArray, List.set_cons_zero, List.set_cons_succ]
    refine Go.Lq.q_valW (v := .slice (some ⟨g, 0, none⟩) a.size N) (by kernel_rfl) (fun W _ => by have sl := Tryd.sl_to (g := g) (n := a.size) (N := N) (C := N) hs3 q5 W; exact Dg.run_slH rfl rfl rfl sl) ?_
    try simp only [Act.put, List.setIfInBounds_toArray, List.set_cons_zero, List.set_cons_succ]
    refine Go.Lq.q_valW (v := .slice (some ⟨g2, 0, none⟩) M M) (by kernel_rfl) (fun _ _ => by kernel_rfl) ?_
    try simp only [Act.put, List.setIfInBounds_toArray, List.set_cons_zero, List.set_cons_succ]
    refine Go.Lq.q_valW (v := .string b) (by kernel_rfl) (fun _ _ => by kernel_rfl) ?_
    try simp only [Act.put, List.setIfInBounds_toArray, List.set_cons_zero, List.set_cons_succ]
    refine Go.Lq.q_valW (v := .int .i64 (b.size : Int)) (by kernel_rfl) (fun W _ => by go_simp) ?_
    try simp only [Act.put, List.setIfInBounds_toArray, List.set_cons_zero, List.set_cons_succ]
    refine Go.Lq.q_valW (v := .slice (some ⟨g2, 0, none⟩) b.size M) (by kernel_rfl) (fun W _ => by have sl := Tryd.sl_to (g := g2) (n := b.size) (N := M) (C := M) hs4 q6 W; exact Dg.run_slH rfl rfl rfl sl) ?_
    try simp only [Act.put, List.setIfInBounds_toArray, List.set_cons_zero, List.set_cons_succ]
    refine Go.Lq.q_callW (v := .bool q) (f := 14) (args := #[.slice (some ⟨g, 0, none⟩) a.size N, .slice (some ⟨g2, 0, none⟩) b.size M]) (by kernel_rfl) (fun _ _ => by kernel_rfl) (fun W hW => ?_) ?_
    · have h1 := Tryd.same_any' (w := W) (k4 W hW) (k5 W hW) Hla.out
      rw [Hq.out] at h1
      exact h1.mono fun _ _ ⟨h2, m, h3⟩ => ⟨h2, by obtain ⟨n, e⟩ := hW; exact ⟨n + m, by rw [h3, e, World.drewN_drewN]⟩⟩
    try simp only [Act.put, List.setIfInBounds_toArray, List.set_cons_zero, List.set_cons_succ]
    refine Go.Lq.q_valW (v := .string a) (by kernel_rfl) (fun _ _ => by kernel_rfl) ?_
    try simp only [Act.put, List.setIfInBounds_toArray, List.set_cons_zero, List.set_cons_succ]
    refine Go.Lq.q_valW (v := .string b) (by kernel_rfl) (fun _ _ => by kernel_rfl) ?_
    try simp only [Act.put, List.setIfInBounds_toArray, List.set_cons_zero, List.set_cons_succ]
    refine Go.Lq.q_valW (v := .bool q) (by kernel_rfl) (fun W _ => by rw [Hq2.out]; go_simp; exact Dg.beq_text a b) ?_
    try simp only [Act.put, List.setIfInBounds_toArray, List.set_cons_zero, List.set_cons_succ]
    refine Go.Lq.q_valW (v := .bool true) (by kernel_rfl) (fun W _ => by cases q <;> go_simp) ?_
    try simp only [Act.put, List.setIfInBounds_toArray, List.set_cons_zero, List.set_cons_succ]
    refine Go.Lq.q_valW (v := .bool true) (by kernel_rfl) (fun _ _ => by kernel_rfl) ?_
    try simp only [Act.put, List.setIfInBounds_toArray, List.set_cons_zero, List.set_cons_succ]
    refine Go.Lq.q_valW (v := .bool true) (by kernel_rfl) (fun _ _ => by kernel_rfl) ?_
    try simp only [Act.put, List.setIfInBounds_toArray, List.set_cons_zero, List.set_cons_succ]
    refine Go.Lq.q_valW (v := .slice (some ⟨g, 0, none⟩) N N) (by kernel_rfl) (fun _ _ => by kernel_rfl) ?_
    try simp only [Act.put, List.setIfInBounds_toArray, List.set_cons_zero, List.set_cons_succ]
    refine Go.Lq.q_valW (v := .string a) (by kernel_rfl) (fun _ _ => by kernel_rfl) ?_
    try simp only [Act.put, List.setIfInBounds_toArray, List.set_cons_zero, List.set_cons_succ]
    refine Go.Lq.q_valW (v := .int .i64 (a.size : Int)) (by kernel_rfl) (fun W _ => by go_simp) ?_
    try simp only [Act.put, List.setIfInBounds_toArray, List.set_cons_zero, List.set_cons_succ]
    refine Go.Lq.q_valW (v := .slice (some ⟨g, 0, none⟩) a.size N) (by kernel_rfl) (fun W _ => by have sl := Tryd.sl_to (g := g) (n := a.size) (N := N) (C := N) hs3 q5 W; exact Dg.run_slH rfl rfl rfl sl) ?_
    try simp only [Act.put, List.setIfInBounds_toArray, List.set_cons_zero, List.set_cons_succ]
    refine Go.Lq.q_valW (v := .slice (some ⟨g, 0, none⟩) N N) (by kernel_rfl) (fun _ _ => by kernel_rfl) ?_
    try simp only [Act.put, List.setIfInBounds_toArray, List.set_cons_zero, List.set_cons_succ]
    refine Go.Lq.q_valW (v := .string a) (by kernel_rfl) (fun _ _ => by kernel_rfl) ?_
    try simp only [Act.put, List.setIfInBounds_toArray, List.set_cons_zero, List.set_cons_succ]
    refine Go.Lq.q_valW (v := .int .i64 (a.size : Int)) (by kernel_rfl) (fun W _ => by go_simp) ?_
    try simp only [Act.put, List.setIfInBounds_toArray, List.set_cons_zero, List.set_cons_succ]
    refine Go.Lq.q_valW (v := .slice (some ⟨g, 0, none⟩) a.size N) (by kernel_rfl) (fun W _ => by have sl := Tryd.sl_to (g := g) (n := a.size) (N := N) (C := N) hs3 q5 W; exact Dg.run_slH rfl rfl rfl sl) ?_
    try simp only [Act.put, List.setIfInBounds_toArray, List.set_cons_zero, List.set_cons_succ]
    refine Go.Lq.q_callW (v := .bool true) (f := 14) (args := #[.slice (some ⟨g, 0, none⟩) a.size N, .slice (some ⟨g, 0, none⟩) a.size N]) (by kernel_rfl) (fun _ _ => by kernel_rfl) (fun W hW => ?_) ?_
    · have h1 := Tryd.same_any' (w := W) (k4 W hW) (k4 W hW) Hla.out
      rw [show decide (a.toList = a.toList) = true by simp] at h1
      exact h1.mono fun _ _ ⟨h2, m, h3⟩ => ⟨h2, by obtain ⟨n, e⟩ := hW; exact ⟨n + m, by rw [h3, e, World.drewN_drewN]⟩⟩
    try simp only [Act.put, List.setIfInBounds_toArray, List.set_cons_zero, List.set_cons_succ]
    refine Go.Lq.q_valW (v := .bool true) (by kernel_rfl) (fun _ _ => by kernel_rfl) ?_
    try simp only [Act.put, List.setIfInBounds_toArray, List.set_cons_zero, List.set_cons_succ]
    refine Go.Lq.q_valW (v := .bool true) (by kernel_rfl) (fun _ _ => by kernel_rfl) ?_
    try simp only [Act.put, List.setIfInBounds_toArray, List.set_cons_zero, List.set_cons_succ]
    refine wpQuiet_nil ?_
    intro W hW
    obtain ⟨n, rfl⟩ := hW
    go_wp2
    go_ret
    exact ⟨rfl, belowN H4.out.1 n⟩
end Go.Proofs
