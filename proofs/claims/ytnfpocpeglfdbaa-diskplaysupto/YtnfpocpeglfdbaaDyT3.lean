/-
  A step: write.
-/
import Derived.Test.YtnfpocpeglfdbaaDyS
namespace Go.Proofs
open Go.RowKit Go.Dk
set_option maxRecDepth 4000 in
set_option maxHeartbeats 8000000 in
theorem Try.step_write {B : Nat} {w0 w : World} {wb : Nat} {G : Dk.Gs} {ps : List Dk.Pq} {H c : Nat} (h : Try.Zw B w0 w wb G ps H Dk.r0 Dk.b0) (hP : Dk.Pin c ps) (hc : c ≤ 400000) (hH : H ≤ 250000000) (hps : ¬ ps.length = 0) (N q : Int) (b : ByteArray) (ck ct : Int) (hb : b.size ≤ 1048576) (hN : -9223372036854775808 ≤ N ∧ N ≤ 9223372036854775807) (hq : q ≤ 9223372036854775807) :
    Calls Try.prog 5 #[.pointer (some ⟨wb, 0, none⟩), .agg #[.int .i64 3, .int .i64 N, .int .i64 q, .string b, .int .i64 ck, .int .i64 ct]] w fun e w' => e = .returned (.bool true) ∧ Try.Stp B w0 wb G c H w' := by
  have HP : Hid (Dk.Pin c ps ∧ c ≤ 400000 ∧ H ≤ 250000000 ∧ b.size ≤ 1048576 ∧ q ≤ 9223372036854775807) := ⟨hP, hc, hH, hb, hq⟩
  obtain ⟨j, hj⟩ : ∃ j, j = Dk.pickN N ps.length := ⟨_, rfl⟩
  have hjl : j < ps.length := by rw [hj]; exact Dk.pickN_lt N (by omega)
  have Hl : Hid (j < ps.length) := hjl
  obtain ⟨p, hp⟩ : ∃ p, ps[j]? = some p := ⟨_, List.getElem?_eq_getElem hjl⟩
  have Hp : Hid (ps[j]? = some p) := hp
  have Hpo : Hid (p.t = p.s ∧ Ok c p.s) := hP.ok j p hp
  obtain ⟨W1, hW1⟩ : ∃ W1 : World, W1 = w.alloc (.cells #[.int .i64 3, .int .i64 N, .int .i64 q, .string b, .int .i64 ck, .int .i64 ct] 33) := ⟨_, rfl⟩
  have hb1 : Below w.heap.size w W1 := by rw [hW1]; exact (Below.refl _ w).alloc (Nat.le_refl _) _
  have hx1 : W1.heap[w.heap.size]? = some (.cells #[.int .i64 3, .int .i64 N, .int .i64 q, .string b, .int .i64 ck, .int .i64 ct] 33 (0, 0)) := by rw [hW1]; exact heap_alloc_new w _
  have hZ1 := h.guest hb1 hx1 (Nat.le_refl _)
  have HW : Hid (W1 = w.alloc (.cells #[.int .i64 3, .int .i64 N, .int .i64 q, .string b, .int .i64 ck, .int .i64 ct] 33)) := hW1
  have HG : Hid (∀ x, x ∈ G → x ∈ (w.heap.size, (.cells #[.int .i64 3, .int .i64 N, .int .i64 q, .string b, .int .i64 ck, .int .i64 ct] 33 (0, 0) : Obj)) :: G) := fun x e => .tail _ e
  have m2 : (w.heap.size, (.cells #[.int .i64 3, .int .i64 N, .int .i64 q, .string b, .int .i64 ck, .int .i64 ct] 33 (0, 0) : Obj)) ∈ (w.heap.size, (.cells #[.int .i64 3, .int .i64 N, .int .i64 q, .string b, .int .i64 ck, .int .i64 ct] 33 (0, 0) : Obj)) :: G := .head _
  generalize (w.heap.size, (.cells #[.int .i64 3, .int .i64 N, .int .i64 q, .string b, .int .i64 ck, .int .i64 ct] 33 (0, 0) : Obj)) :: G = G2 at hZ1 HG m2
  have hpk : ∀ W : World, Calls Try.prog 9 #[.int .i64 N, .int .i64 ps.length] W fun e w' => e = .returned (.int .i64 j) ∧ w' = W := fun W => by
    rw [hj]
    exact Try.pick_any N ps.length (by omega) (by have := hP.len; omega) hN.1 hN.2 W
  obtain ⟨ad, cap, l0, hcap, hpl⟩ := hZ1.lrow
  obtain ⟨g, rfl, l1, l2⟩ := hpl j p hp
  obtain ⟨L, hL⟩ : ∃ L, L = ps.length := ⟨_, rfl⟩
  rw [← hL] at l0 hcap hps hjl hpk
  have q0 : ¬ (L : Int) = 0 := by omega
  have q1 : (j : Int) < (L : Int) := by omega
  have q2 : (0 : Int) ≤ (j : Int) := by omega
  clear h hb1 hP hc hH hb hN hq hj hp hW1 hpl hps hL
  go_enter Try.func5, Try.ntmps5
  go_upto_region 1 with fail
  rw [← HW.out]
  clear HW
  generalize w.heap.size = ob at *
  have M : Hid ((ob, (.cells #[.int .i64 3, .int .i64 N, .int .i64 q, .string b, .int .i64 ck, .int .i64 ct] 33 (0, 0) : Obj)) ∈ G2) := m2
  clear m2
  have a0 := cell_of_row W1 ob 0 _ _ _ hx1
  have a1 := cell_of_row W1 ob 1 _ _ _ hx1
  go_upto_region 11 with fail
  have n1 := World.new_ne W1 _ l0
  have n2 := World.new_ne W1 _ l1
  have n4 := World.new_ne W1 _ a1
  go_region_held3 (fun W => W.cell? ⟨wb, 0, none⟩ = some (.slice (some ⟨g, 0, none⟩) L cap) ∧ W.cell? ⟨ob, 1, none⟩ = some (.int .i64 N) ∧ W.cell? ⟨g, j * 2, none⟩ = some (.pointer (some ⟨p.d, 0, none⟩)) ∧ W.cell? ⟨g, j * 2 + 1, none⟩ = some (.pointer (some ⟨p.r, 0, none⟩))) (first | assumption | exact ⟨l0, a1, l1, l2⟩ | go_keep) (first
    | (go_at_call 9; refine (hpk _).mono ?_; rintro e W2 ⟨rfl, e2⟩; have e3 := e2.symm; clear e2; subst e3)
    | fail)
  all_goals
    have hb2 : Below W1.heap.size W1 (W1.alloc (.cells #[.pointer (some ⟨p.d, 0, none⟩), .pointer (some ⟨p.r, 0, none⟩)] 44)).drew := ((Below.refl _ W1).alloc (Nat.le_refl _) _).drew
    have hx2 : (W1.alloc (.cells #[.pointer (some ⟨p.d, 0, none⟩), .pointer (some ⟨p.r, 0, none⟩)] 44)).drew.heap[W1.heap.size]? = some (.cells #[.pointer (some ⟨p.d, 0, none⟩), .pointer (some ⟨p.r, 0, none⟩)] 44 (0, 0)) := heap_alloc_new W1 _
    have hZ2 := hZ1.guest hb2 hx2 (Nat.le_refl _)
    have m1 : (W1.heap.size, (.cells #[.pointer (some ⟨p.d, 0, none⟩), .pointer (some ⟨p.r, 0, none⟩)] 44 (0, 0) : Obj)) ∈ (W1.heap.size, (.cells #[.pointer (some ⟨p.d, 0, none⟩), .pointer (some ⟨p.r, 0, none⟩)] 44 (0, 0) : Obj)) :: G2 := .head _
    have m3 : (ob, (.cells #[.int .i64 3, .int .i64 N, .int .i64 q, .string b, .int .i64 ck, .int .i64 ct] 33 (0, 0) : Obj)) ∈ (W1.heap.size, (.cells #[.pointer (some ⟨p.d, 0, none⟩), .pointer (some ⟨p.r, 0, none⟩)] 44 (0, 0) : Obj)) :: G2 := .tail _ M.out
    have m4 : ∀ x, x ∈ G → x ∈ (W1.heap.size, (.cells #[.pointer (some ⟨p.d, 0, none⟩), .pointer (some ⟨p.r, 0, none⟩)] 44 (0, 0) : Obj)) :: G2 := fun x e => .tail _ (HG.out x e)
    clear HG M hb2 hx2
    generalize (W1.heap.size, (.cells #[.pointer (some ⟨p.d, 0, none⟩), .pointer (some ⟨p.r, 0, none⟩)] 44 (0, 0) : Obj)) :: G2 = G3 at hZ2 m1 m3 m4
    clear l0 l1 l2 hpk a0 a1 n1 n2 n4 hx1 q0 q1 q2 hjl hcap
    clear hZ1
    generalize (W1.alloc (.cells #[.pointer (some ⟨p.d, 0, none⟩), .pointer (some ⟨p.r, 0, none⟩)] 44)).drew = W2 at *
    generalize W1.heap.size = vb at *
    have M1 : Hid ((vb, (.cells #[.pointer (some ⟨p.d, 0, none⟩), .pointer (some ⟨p.r, 0, none⟩)] 44 (0, 0) : Obj)) ∈ G3) := m1
    have M3 : Hid ((ob, (.cells #[.int .i64 3, .int .i64 N, .int .i64 q, .string b, .int .i64 ck, .int .i64 ct] 33 (0, 0) : Obj)) ∈ G3) := m3
    have HG3 : Hid (∀ x, x ∈ G → x ∈ G3) := m4
    clear m1 m3 m4
    have HK : ∀ (W : World) (ps' : List Dk.Pq), Try.Zw B w0 W wb G3 ps' H Dk.r0 Dk.b0 → (W.cell? ⟨vb, 0, none⟩ = some (.pointer (some ⟨p.d, 0, none⟩)) ∧ W.cell? ⟨vb, 1, none⟩ = some (.pointer (some ⟨p.r, 0, none⟩))) ∧ (W.cell? ⟨ob, 0, none⟩ = some (.int .i64 3) ∧ W.cell? ⟨ob, 2, none⟩ = some (.int .i64 q) ∧ W.cell? ⟨ob, 3, none⟩ = some (.string b) ∧ W.cell? ⟨ob, 4, none⟩ = some (.int .i64 ck) ∧ W.cell? ⟨ob, 5, none⟩ = some (.int .i64 ct) ∧ W.cell? ⟨ob, 1, none⟩ = some (.int .i64 N)) := fun W ps' hz => by
      have e1 := hz.at M1.out
      have e2 := hz.at M3.out
      dsimp only at e1 e2
      exact ⟨⟨cell_of_row W vb 0 _ _ _ e1, cell_of_row W vb 1 _ _ _ e1⟩, cell_of_row W ob 0 _ _ _ e2, cell_of_row W ob 2 _ _ _ e2, cell_of_row W ob 3 _ _ _ e2, cell_of_row W ob 4 _ _ _ e2, cell_of_row W ob 5 _ _ _ e2, cell_of_row W ob 1 _ _ _ e2⟩
    obtain ⟨⟨d0, d1⟩, o0, o2, o3, o4, o5, o1⟩ := HK _ _ hZ2
    have h1 := Try.write_any hZ2 Hp.out Hpo.out.1 Hpo.out.2 (by have := HP.out.2.1; omega) 3 N q b ck ct HP.out.2.2.2.1 (by have := HP.out.2.2.1; omega)
    clear HK hZ2
    go_wp2_with (first
      | (go_at_call 11; refine h1.mono ?_; clear h1; rintro e w5 ⟨rfl, hZ5⟩)
      | fail)
    go_ret
    exact ⟨by simp, _, _, hZ5.less HG3.out, HP.out.1.set j _ ⟨rfl, Hpo.out.2.wr q b.data.toList⟩, by omega⟩

end Go.Proofs
