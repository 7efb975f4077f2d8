/-
  A step: New.
-/
import Derived.Test.YtnfpocpeglfdbaaDyU
import Derived.Test.YtnfpocpeglfdbaaDyG
import Derived.Deep.DeepCutAuto
namespace Go.Proofs
open Go.RowKit Go.Dk
theorem Dk.Pin.push {c : Nat} {ps : List Dk.Pq} (h : Dk.Pin c ps) (p : Dk.Pq) (hl : ps.length < 5) (h1 : p.t = p.s ∧ Ok (c + 1) p.s) : Dk.Pin (c + 1) (ps ++ [p]) := by
  refine ⟨by simp; omega, fun i q hq => ?_⟩
  by_cases hi : i < ps.length
  · rw [List.getElem?_append_left hi] at hq
    exact ⟨(h.ok i q hq).1, (h.ok i q hq).2.up (by omega)⟩
  · have hi2 : i = ps.length := by
      have := (List.getElem?_eq_some_iff.1 hq).1
      simp at this
      omega
    subst hi2
    rw [List.getElem?_append_right (Nat.le_refl _), Nat.sub_self] at hq
    simp at hq
    subst hq
    exact h1
set_option maxRecDepth 4000 in
set_option maxHeartbeats 8000000 in
theorem Try.step_new {B : Nat} {w0 w : World} {wb : Nat} {G : Dk.Gs} {ps : List Dk.Pq} {H c : Nat} (h : Try.Zw B w0 w wb G ps H Dk.r0 Dk.b0) (hP : Dk.Pin c ps) (N q : Int) (b : ByteArray) (ck ct : Int) :
    Calls Try.prog 5 #[.pointer (some ⟨wb, 0, none⟩), .agg #[.int .i64 1, .int .i64 N, .int .i64 q, .string b, .int .i64 ck, .int .i64 ct]] w fun e w' => e = .returned (.bool true) ∧ Try.Stp B w0 wb G c H w' := by
  have HP : Hid (Dk.Pin c ps) := hP
  obtain ⟨W1, hW1⟩ : ∃ W1 : World, W1 = w.alloc (.cells #[.int .i64 1, .int .i64 N, .int .i64 q, .string b, .int .i64 ck, .int .i64 ct] 33) := ⟨_, rfl⟩
  have hb1 : Below w.heap.size w W1 := by rw [hW1]; exact (Below.refl _ w).alloc (Nat.le_refl _) _
  have hx1 : W1.heap[w.heap.size]? = some (.cells #[.int .i64 1, .int .i64 N, .int .i64 q, .string b, .int .i64 ck, .int .i64 ct] 33 (0, 0)) := by rw [hW1]; exact heap_alloc_new w _
  have HZ1 : Hid (Try.Zw B w0 W1 wb G ps H Dk.r0 Dk.b0) := h.below hb1
  have HW : Hid (W1 = w.alloc (.cells #[.int .i64 1, .int .i64 N, .int .i64 q, .string b, .int .i64 ck, .int .i64 ct] 33)) := hW1
  clear h hb1 hP hW1
  go_enter Try.func5, Try.ntmps5
  go_upto_region 1 with fail
  rw [← HW.out]
  clear HW
  generalize w.heap.size = ob at *
  have a0 := cell_of_row W1 ob 0 _ _ _ hx1
  have a2 := cell_of_row W1 ob 2 _ _ _ hx1
  by_cases hq : 8 ≤ q ∧ q ≤ 4096
  · obtain ⟨n, rfl⟩ : ∃ n : Nat, q = (n : Int) := ⟨q.toNat, by omega⟩
    have Hn : Hid (8 ≤ n ∧ n ≤ 4096) := by show _ ∧ _; omega
    have h1 := Try.new_ok W1 n Hn.out.1 Hn.out.2
    clear hq
    go_upto_region 3 with (first
      | (go_at_call 7; refine h1.mono ?_; clear h1; rintro e w2 ⟨x, l, t, rfl, hm2, hb2, hx2, hl2, ht2⟩)
      | fail)
    have hx21 := (hb2.block ob (Dk.block_lt hx1)).trans hx1
    have a4 := cell_of_row w2 ob 2 _ _ _ hx21
    have h2 := Try.rNew_ok w2 n Hn.out.1 Hn.out.2
    have Hb2 : Hid (Below W1.heap.size W1 w2) := hb2
    have hd2 : Try.Dsk w2 (fun k => W1.heap.size ≤ k ∧ k < w2.heap.size) x (Dk.new n) := ⟨⟨l, t, _, hm2, fun k e => ⟨(by rcases e with e | e | e | e <;> (first | omega | (cases e))), hm2.foot_lt k e⟩⟩, fun k e => e.2⟩
    have HD2 : Hid (Try.Dsk w2 (fun k => W1.heap.size ≤ k ∧ k < w2.heap.size) x (Dk.new n)) := hd2
    clear hd2 hm2 hb2 hx2 hl2 ht2 hx1 a0 a2
    go_upto_region 4 with (first
      | (go_at_call 8; refine h2.mono ?_; clear h2; rintro e w3 ⟨y, Lv, rfl, hm3, hb3, hy3, hl3⟩)
      | fail)
    clear hx21 a4
    have hr3 : Try.Rf w3 (fun k => w2.heap.size ≤ k ∧ k < w3.heap.size) y (Dk.new n) := ⟨⟨Lv, _, 0, 0, 0, hm3, fun k e => ⟨(by rcases e with e | e | e <;> (first | omega | exact hl3 k e | (cases e))), hm3.foot_lt k e⟩⟩, fun k e => e.2⟩
    have hd3 := HD2.out.keep (w' := w3) (fun k e => hb3.block k e.2) hb3.size
    have hb13 : Below W1.heap.size W1 w3 := Hb2.out.trans (hb3.mono Hb2.out.size)
    have Hb13 : Hid (Below W1.heap.size W1 w3) := hb13
    have HD3 : Hid (Try.Dsk w3 (fun k => W1.heap.size ≤ k ∧ k < w2.heap.size) x (Dk.new n)) := hd3
    have HR3 : Hid (Try.Rf w3 (fun k => w2.heap.size ≤ k ∧ k < w3.heap.size) y (Dk.new n)) := hr3
    have Hs2 : Hid (W1.heap.size ≤ w2.heap.size) := Hb2.out.size
    have HZ3 : Hid (Try.Zw B w0 w3 wb G ps H Dk.r0 Dk.b0) := HZ1.out.below hb13
    obtain ⟨ad, cap, kv, hrow, hcap, hlr, hne⟩ := HZ1.out.lrow2
    have hrow3 := (hb13.block wb (Dk.block_lt hrow)).trans hrow
    have l0 := cell_of_row w3 wb 0 _ _ _ hrow3
    have HR0 : Hid (w3.heap[wb]? = some (.cells #[.slice ad ps.length cap, kv] 28 (0, 0))) := hrow3
    have HRW : Hid (W1.heap[wb]? = some (.cells #[.slice ad ps.length cap, kv] 28 (0, 0))) := hrow
    have HLR : Hid (W1.ownsRow 0 44 2 (.slice ad ps.length cap) ps.length (Dk.pcs ps)) := hlr
    have HNE : Hid ((Value.slice ad ps.length cap).ownBlock ≠ some wb) := hne
    clear hm3 hb3 hy3 hl3 hr3 hd3 hb13 HD2 Hb2 hrow hrow3 hlr hne
    by_cases hl5 : ps.length < 5
    · have q0 : (ps.length : Int) < 5 := by omega
      obtain ⟨W4, hW4⟩ : ∃ W4 : World, W4 = w3.alloc (.cells #[.pointer (some ⟨x, 0, none⟩), .pointer (some ⟨y, 0, none⟩)] 44) := ⟨_, rfl⟩
      have hb4 : Below w3.heap.size w3 W4 := by rw [hW4]; exact (Below.refl _ w3).alloc (Nat.le_refl _) _
      have hn4 : W4.heap[w3.heap.size]? = some (.cells #[.pointer (some ⟨x, 0, none⟩), .pointer (some ⟨y, 0, none⟩)] 44 (0, 0)) := by rw [hW4]; exact heap_alloc_new w3 _
      have hb14 : Below W1.heap.size W1 W4 := Hb13.out.trans (hb4.mono Hb13.out.size)
      have hlr4 := Dk.row_heap HLR.out fun k e => hb14.block k (HLR.out.lt k e).2
      have hr4 : W4.heap[wb]? = _ := (hb4.block wb (Dk.block_lt HR0.out)).trans HR0.out
      have hend : ∀ g cap' w5, w5.ownsRow 0 44 2 (.slice (some ⟨g, 0, none⟩) (ps.length + 1) cap') (ps.length + 1) (Dk.pcs (ps ++ [⟨x, y, Dk.new n, Dk.new n⟩])) → W4.grownBy w5 (Value.slice ad ps.length cap).ownBlock → ((Value.slice ad ps.length cap).ownBlock = some g ∨ g = W4.heap.size) → w5.frozen? ⟨wb, 0, none⟩ = false ∧ (∃ u, w5.cell? ⟨wb, 0, none⟩ = some u) ∧ Try.Zw B w0 (w5.setCell ⟨wb, 0, none⟩ (.slice (some ⟨g, 0, none⟩) (ps.length + 1) cap')) wb G (ps ++ [⟨x, y, Dk.new n, Dk.new n⟩]) H Dk.r0 Dk.b0 := fun g cap' w5 r1 r2 r3 => by
        have hw5 := (r2.block wb (Dk.block_lt hr4) (fun e => HNE.out e.symm)).trans hr4
        refine ⟨frozen_of_row w5 wb 0 _ _ hw5, ⟨_, cell_of_row w5 wb 0 _ _ _ hw5⟩, ?_⟩
        exact HZ1.out.push (p := ⟨x, y, Dk.new n, Dk.new n⟩) HRW.out hb14 (HD3.out.keep (fun k e => hb4.block k (HD3.out.lt k e)) hb4.size) (HR3.out.keep (fun k e => hb4.block k (HR3.out.lt k e)) hb4.size) (fun k e => e.1) (fun k e => ⟨Nat.le_trans Hs2.out e.1, fun e2 => by omega⟩) r2 rfl r1 (r3.elim .inl fun e => .inr (Nat.le_of_eq e.symm))
      clear hb4 hb14 hr4 HR0 HLR HZ1 HZ3 HRW HNE HD3 HR3 Hb13
      go_upto_region 8 with (first
        | (rw [← hW4]; at_builtin; refine Try.appPair (by rfl) _ _ (by rfl) (w := W4) (H := w3.heap.size) (V := .slice ad ps.length cap) (p := ⟨x, y, Dk.new n, Dk.new n⟩) hlr4 (by rfl) hn4 (by rfl) (by omega) ?_; intro g c5 w5 r1 r2 r3; obtain ⟨s1, ⟨u5, s2⟩, s3⟩ := hend g c5 w5 r1 r2 r3; clear hend)
        | fail)
      go_wp2_with fail
      go_ret
      exact ⟨by simp, _, _, s3, HP.out.push _ hl5 ⟨rfl, (Ok.new Hn.out.2).up (by omega)⟩, by omega⟩
    · have q0 : ¬ (ps.length : Int) < 5 := by omega
      go_wp2_with fail
      go_ret
      exact ⟨by simp, _, _, HZ3.out, HP.out.up, by omega⟩
  · have h1 := Try.new_no W1 q hq
    have h2 := Try.rNew_no W1 q hq
    clear hq
    go_wp2_with (first
      | (go_at_call 7; refine h1.mono ?_; clear h1; rintro e w5 ⟨rfl, e5⟩; have e6 := e5.symm; clear e5; subst e6)
      | (go_at_call 8; refine h2.mono ?_; clear h2; rintro e w5 ⟨rfl, e5⟩; have e6 := e5.symm; clear e5; subst e6)
      | fail)
    go_ret
    exact ⟨by simp, _, _, HZ1.out, HP.out.up, by omega⟩
end Go.Proofs
