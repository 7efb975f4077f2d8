/-
  The world's calls: asked; the plain calls on all that stands.
-/
import Derived.Test.YtnfpocpeglfdbaaDyN
import Derived.Test.YtnfpocpeglfdbaaDyO
namespace Go.Proofs
open Go.RowKit Go.Dk
section
variable {B : Nat} {w0 w : World} {wb : Nat} {G : Dk.Gs} {ps : List Dk.Pq} {H : Nat} {rv : Nat → Value} {rb : Nat → List UInt8}
theorem Try.Zw.drawn (h : Try.Zw B w0 w wb G ps H rv rb) (n : Nat) : Try.Zw B w0 (w.drewN n) wb G ps H rv rb := h.below (Go.Wi.belowN (Below.refl _ _) n)
theorem Try.Zw.mem (h : Try.Zw B w0 w wb G ps H rv rb) {i : Nat} {p : Dk.Pq} (hp : ps[i]? = some p) : ∃ l t V, Try.Mem w p.d l t V p.s (Dk.lats p.s.n p.s.W) := by
  obtain ⟨tag, lv, kv, hs, g, -⟩ := h.ex
  obtain ⟨l, t, V, hm, -⟩ := (g.each i p hp).1.ex
  exact ⟨l, t, V, hm⟩
theorem Try.Zw.rfm (h : Try.Zw B w0 w wb G ps H rv rb) {i : Nat} {p : Dk.Pq} (hp : ps[i]? = some p) : ∃ Lv Wv a b c, Try.Rfm w p.r Lv Wv a b c p.t := by
  obtain ⟨tag, lv, kv, hs, g, -⟩ := h.ex
  obtain ⟨Lv, Wv, a, b, c, hm, -⟩ := (g.each i p hp).2.ex
  exact ⟨Lv, Wv, a, b, c, hm⟩
theorem Try.Zw.blocks (h : Try.Zw B w0 w wb G ps H rv rb) {i : Nat} {p : Dk.Pq} (hp : ps[i]? = some p) (n : Nat) : Calls Try.prog 39 #[.pointer (some ⟨p.d, 0, none⟩)] (w.drewN n) fun e w' => e = .returned (.int .i64 p.s.n) ∧ w' = w.drewN n := by
  obtain ⟨l, t, V, hm⟩ := (h.drawn n).mem hp
  exact Try.blocks_any hm
theorem Try.Zw.alive (h : Try.Zw B w0 w wb G ps H rv rb) {i : Nat} {p : Dk.Pq} (hp : ps[i]? = some p) (n : Nat) : Calls Try.prog 40 #[.pointer (some ⟨p.d, 0, none⟩)] (w.drewN n) fun e w' => e = .returned (.bool (!p.s.dead)) ∧ w' = w.drewN n := by
  obtain ⟨l, t, V, hm⟩ := (h.drawn n).mem hp
  exact Try.alive_any hm
theorem Try.Zw.falls (h : Try.Zw B w0 w wb G ps H rv rb) {i : Nat} {p : Dk.Pq} (hp : ps[i]? = some p) (n : Nat) : Calls Try.prog 42 #[.pointer (some ⟨p.d, 0, none⟩)] (w.drewN n) fun e w' => e = .returned (.int .i64 p.s.falls) ∧ w' = w.drewN n := by
  obtain ⟨l, t, V, hm⟩ := (h.drawn n).mem hp
  exact Try.falls_any hm
theorem Try.Zw.rblocks (h : Try.Zw B w0 w wb G ps H rv rb) {i : Nat} {p : Dk.Pq} (hp : ps[i]? = some p) (ht : p.t = p.s) (n : Nat) : Calls Try.prog 23 #[.pointer (some ⟨p.r, 0, none⟩)] (w.drewN n) fun e w' => e = .returned (.int .i64 p.s.n) ∧ w' = w.drewN n := by
  obtain ⟨Lv, Wv, a, b, c, hm⟩ := (h.drawn n).rfm hp
  rw [← ht]
  exact Try.rBlocks_any hm
theorem Try.Zw.ralive (h : Try.Zw B w0 w wb G ps H rv rb) {i : Nat} {p : Dk.Pq} (hp : ps[i]? = some p) (ht : p.t = p.s) (n : Nat) : Calls Try.prog 41 #[.pointer (some ⟨p.r, 0, none⟩)] (w.drewN n) fun e w' => e = .returned (.bool (!p.s.dead)) ∧ w' = w.drewN n := by
  obtain ⟨Lv, Wv, a, b, c, hm⟩ := (h.drawn n).rfm hp
  rw [← ht]
  exact Try.rAlive_any hm
theorem Try.Zw.rfalls (h : Try.Zw B w0 w wb G ps H rv rb) {i : Nat} {p : Dk.Pq} (hp : ps[i]? = some p) (ht : p.t = p.s) (n : Nat) : Calls Try.prog 43 #[.pointer (some ⟨p.r, 0, none⟩)] (w.drewN n) fun e w' => e = .returned (.int .i64 p.s.falls) ∧ w' = w.drewN n := by
  obtain ⟨Lv, Wv, a, b, c, hm⟩ := (h.drawn n).rfm hp
  rw [← ht]
  exact Try.rFalls_any hm
theorem Try.Zw.costs (h : Try.Zw B w0 w wb G ps H rv rb) {i : Nat} {p : Dk.Pq} (hp : ps[i]? = some p) : Calls Try.prog 37 #[.pointer (some ⟨p.d, 0, none⟩)] w fun e w' => e = .returned (.tuple #[.int .i64 p.s.wrote, .int .i64 p.s.synced]) ∧ Try.Zw B w0 w' wb G ps H rv rb := by
  obtain ⟨l, t, V, hm⟩ := h.mem hp
  exact (Try.costs_any hm).mono fun _ _ ⟨e1, n, e2⟩ => ⟨e1, by rw [e2]; exact h.drawn n⟩
theorem Try.Zw.rcosts (h : Try.Zw B w0 w wb G ps H rv rb) {i : Nat} {p : Dk.Pq} (hp : ps[i]? = some p) (ht : p.t = p.s) : Calls Try.prog 38 #[.pointer (some ⟨p.r, 0, none⟩)] w fun e w' => e = .returned (.tuple #[.int .i64 p.s.wrote, .int .i64 p.s.synced]) ∧ Try.Zw B w0 w' wb G ps H rv rb := by
  obtain ⟨Lv, Wv, a, b, c, hm⟩ := h.rfm hp
  rw [← ht]
  exact (Try.rCosts_any hm).mono fun _ _ ⟨e1, n, e2⟩ => ⟨e1, by rw [e2]; exact h.drawn n⟩
end
set_option maxRecDepth 4000 in
set_option maxHeartbeats 4000000 in
theorem Try.asked_any {B : Nat} {w0 w : World} {wb : Nat} {G : Dk.Gs} {ps : List Dk.Pq} {H : Nat} {rv : Nat → Value} {rb : Nat → List UInt8} (h : Try.Zw B w0 w wb G ps H rv rb) {i : Nat} {p : Dk.Pq} (hp : ps[i]? = some p) (ht : p.t = p.s) :
    Calls Try.prog 20 #[.agg #[.pointer (some ⟨p.d, 0, none⟩), .pointer (some ⟨p.r, 0, none⟩)]] w fun e w' => e = .returned (.bool true) ∧ Try.Zw B w0 w' wb G ps H rv rb := by
  have Hp : Hid (ps[i]? = some p) := hp
  have Ht : Hid (p.t = p.s) := ht
  obtain ⟨W1, hW1⟩ : ∃ W1 : World, W1 = w.alloc (.cells #[.pointer (some ⟨p.d, 0, none⟩), .pointer (some ⟨p.r, 0, none⟩)] 44) := ⟨_, rfl⟩
  have hb1 : Below w.heap.size w W1 := by rw [hW1]; exact (Below.refl _ w).alloc (Nat.le_refl _) _
  have hx1 : W1.heap[w.heap.size]? = some (.cells #[.pointer (some ⟨p.d, 0, none⟩), .pointer (some ⟨p.r, 0, none⟩)] 44 (0, 0)) := by rw [hW1]; exact heap_alloc_new w _
  have hZ1 := h.guest hb1 hx1 (Nat.le_refl _)
  have HW : Hid (W1 = w.alloc (.cells #[.pointer (some ⟨p.d, 0, none⟩), .pointer (some ⟨p.r, 0, none⟩)] 44)) := hW1
  have HG : Hid (∀ x, x ∈ G → x ∈ (w.heap.size, (.cells #[.pointer (some ⟨p.d, 0, none⟩), .pointer (some ⟨p.r, 0, none⟩)] 44 (0, 0) : Obj)) :: G) := fun x e => .tail _ e
  have m2 : (w.heap.size, (.cells #[.pointer (some ⟨p.d, 0, none⟩), .pointer (some ⟨p.r, 0, none⟩)] 44 (0, 0) : Obj)) ∈ (w.heap.size, (.cells #[.pointer (some ⟨p.d, 0, none⟩), .pointer (some ⟨p.r, 0, none⟩)] 44 (0, 0) : Obj)) :: G := .head _
  generalize (w.heap.size, (.cells #[.pointer (some ⟨p.d, 0, none⟩), .pointer (some ⟨p.r, 0, none⟩)] 44 (0, 0) : Obj)) :: G = G2 at hZ1 HG m2
  clear h hb1 hp ht hW1
  obtain ⟨E1, hE1⟩ : ∃ X : Int, X = (p.s.wrote : Int) := ⟨_, rfl⟩
  obtain ⟨E2, hE2⟩ : ∃ X : Int, X = (p.s.synced : Int) := ⟨_, rfl⟩
  obtain ⟨E3, hE3⟩ : ∃ X : Int, X = (p.s.n : Int) := ⟨_, rfl⟩
  obtain ⟨E4, hE4⟩ : ∃ X : Bool, X = (!p.s.dead) := ⟨_, rfl⟩
  obtain ⟨E5, hE5⟩ : ∃ X : Int, X = (p.s.falls : Int) := ⟨_, rfl⟩
  have h1 := hZ1.costs Hp.out
  rw [← hE1, ← hE2] at h1
  have HE : Hid (E1 = (p.s.wrote : Int) ∧ E2 = (p.s.synced : Int) ∧ E3 = (p.s.n : Int) ∧ E4 = (!p.s.dead) ∧ E5 = (p.s.falls : Int)) := ⟨hE1, hE2, hE3, hE4, hE5⟩
  clear hE1 hE2 hE3 hE4 hE5
  go_enter Try.func20, Try.ntmps20
  go_upto_region 1 with fail
  rw [← HW.out]
  clear HW
  generalize w.heap.size = vb at *
  have M : Hid ((vb, (.cells #[.pointer (some ⟨p.d, 0, none⟩), .pointer (some ⟨p.r, 0, none⟩)] 44 (0, 0) : Obj)) ∈ G2) := m2
  clear m2
  have a0 := cell_of_row W1 vb 0 _ _ _ hx1
  go_upto_region 2 with (first
    | (go_at_call 37; refine h1.mono ?_; clear h1; rintro e w2 ⟨rfl, hZ2⟩)
    | fail)
  have hx2 := hZ2.at M.out
  dsimp only at hx2
  have a1 := cell_of_row w2 vb 1 _ _ _ hx2
  have h2 := hZ2.rcosts Hp.out Ht.out
  rw [← HE.out.1, ← HE.out.2.1] at h2
  clear a0 hx1 hZ1
  go_upto_region 3 with (first
    | (go_at_call 38; refine h2.mono ?_; clear h2; rintro e w3 ⟨rfl, hZ3⟩)
    | fail)
  have hx3 := hZ3.at M.out
  dsimp only at hx3
  have b0 := cell_of_row w3 vb 0 _ _ _ hx3
  have b1 := cell_of_row w3 vb 1 _ _ _ hx3
  have k1 := hZ3.blocks Hp.out
  have k2 := hZ3.rblocks Hp.out Ht.out
  have k3 := hZ3.alive Hp.out
  have k4 := hZ3.ralive Hp.out Ht.out
  have k5 := hZ3.falls Hp.out
  have k6 := hZ3.rfalls Hp.out Ht.out
  simp only [← HE.out.2.2.1, ← HE.out.2.2.2.1, ← HE.out.2.2.2.2] at k1 k2 k3 k4 k5 k6
  clear a1 hx2 hZ2 hx3
  go_quiet (first
    | (go_at_call 39; exact Calls.quiet_of_same (k1 _))
    | (go_at_call 23; exact Calls.quiet_of_same (k2 _))
    | (go_at_call 40; exact Calls.quiet_of_same (k3 _))
    | (go_at_call 41; exact Calls.quiet_of_same (k4 _))
    | (go_at_call 42; exact Calls.quiet_of_same (k5 _))
    | (go_at_call 43; exact Calls.quiet_of_same (k6 _)) | fail)
  go_wp2
  go_ret
  exact ⟨by simp, (hZ3.drawn _).less HG.out⟩
end Go.Proofs
