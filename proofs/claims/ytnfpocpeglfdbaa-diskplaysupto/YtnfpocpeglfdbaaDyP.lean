/-
  The world's calls: read, write, asked.
-/
import Derived.Test.YtnfpocpeglfdbaaDyO
namespace Go.Proofs
open Go.RowKit Go.Dk
theorem Try.convR {w : World} {B n : Nat} {ad : Option Addr} {cap : Nat} {b : List UInt8} (h : w.ownsRow B 5 1 (.slice ad n cap) n (Lib.byteCells b)) : (convert 55 9 (.slice ad n cap)).run Try.prog w = .ok (.string ⟨b.toArray⟩) w := by
  have hl := h.1
  rw [Dk.byteCells_len, Nat.mul_one] at hl
  subst hl
  rcases h.2 with ⟨e, e0⟩ | ⟨g, c, cur, e, -⟩
  · obtain rfl := List.eq_nil_of_length_eq_zero e0
    cases e
    exact run_convert_bytes_string (P := Try.prog) w 55 9 5 none 0 0 Try.underlying55 Try.underlying5 Try.underlying9
  · cases e
    refine run_convert_bytes_back (P := Try.prog) w 55 9 5 ⟨g, 0, none⟩ cap b Try.underlying55 Try.underlying5 Try.underlying9 (fun j hj => ?_)
    exact h.cells (g := g) rfl j _ (Go.Wi.byteCell hj)
theorem Try.Zw.dread {B : Nat} {w0 w : World} {wb : Nat} {G : Dk.Gs} {ps : List Dk.Pq} {H : Nat} {rv : Nat → Value} {rb : Nat → List UInt8} (h : Try.Zw B w0 w wb G ps H rv rb) {i : Nat} {p : Dk.Pq} (hp : ps[i]? = some p) (q : Int) (j : Nat) (hj : j < 3) {X : List UInt8} {E : Int} (hX : X = p.s.rdB q) (hE : E = p.s.rdE q) :
    Calls Try.prog 25 #[.pointer (some ⟨p.d, 0, none⟩), .int .i64 q] w fun e w' => ∃ ad cap, e = .returned (.tuple #[.slice ad X.length cap, .int .i64 E]) ∧ Try.Zw B w0 w' wb G ps H (Dk.upd rv j (.slice ad X.length cap)) (Dk.upd rb j X) ∧ Below w.heap.size w w' := by
  subst hX hE
  obtain ⟨tag, lv, kv, hs, g, -⟩ := h.ex
  obtain ⟨hD, -⟩ := g.each i p hp
  obtain ⟨l, t, V, hm, -⟩ := hD.ex
  exact (Try.read_x hm q).mono fun _ _ ⟨ad, cap, e1, e2, e3⟩ => ⟨ad, cap, e1, h.row e3 e2 j hj, e3⟩
theorem Try.Zw.rread {B : Nat} {w0 w : World} {wb : Nat} {G : Dk.Gs} {ps : List Dk.Pq} {H : Nat} {rv : Nat → Value} {rb : Nat → List UInt8} (h : Try.Zw B w0 w wb G ps H rv rb) {i : Nat} {p : Dk.Pq} (hp : ps[i]? = some p) (ht : p.t = p.s) (q : Int) {X : List UInt8} {E : Int} (hX : X = p.s.rdB q) (hE : E = p.s.rdE q) :
    Calls Try.prog 26 #[.pointer (some ⟨p.r, 0, none⟩), .int .i64 q] w fun e w' => e = .returned (.tuple #[.string ⟨X.toArray⟩, .int .i64 E]) ∧ w' = w := by
  subst hX hE
  obtain ⟨tag, lv, kv, hs, g, -⟩ := h.ex
  obtain ⟨-, hR⟩ := g.each i p hp
  obtain ⟨Lv, Wv, a, b, c, hm, -⟩ := hR.ex
  rw [← ht]
  exact Try.rread_x hm q
theorem Try.Zw.conv {B : Nat} {w0 w : World} {wb : Nat} {G : Dk.Gs} {ps : List Dk.Pq} {H : Nat} {rv : Nat → Value} {rb : Nat → List UInt8} (h : Try.Zw B w0 w wb G ps H rv rb) (j : Nat) (hj : j < 3) {ad : Option Addr} {cap : Nat} {b : List UInt8} (hv : rv j = .slice ad b.length cap) (hb : rb j = b) : (convert 55 9 (.slice ad b.length cap)).run Try.prog w = .ok (.string ⟨b.toArray⟩) w := by
  obtain ⟨tag, lv, kv, hs, g, -⟩ := h.ex
  have h1 := (g.rows j hj).1
  rw [hv, hb] at h1
  exact Try.convR h1
def Dk.r0 : Nat → Value := fun _ => .slice none 0 0
def Dk.b0 : Nat → List UInt8 := fun _ => []
theorem Dk.rdB_len (s : DS) (i : Int) : (s.rdB i).length ≤ 64 := by
  unfold DS.rdB
  split
  · simp
  · split
    · unfold blk; simp; omega
    · simp
set_option maxRecDepth 4000 in
set_option maxHeartbeats 4000000 in
theorem Try.read_any {B : Nat} {w0 w : World} {wb : Nat} {G : Dk.Gs} {ps : List Dk.Pq} {H : Nat} (h : Try.Zw B w0 w wb G ps H Dk.r0 Dk.b0) {i : Nat} {p : Dk.Pq} (hp : ps[i]? = some p) (ht : p.t = p.s) (q : Int) (hH : H ≤ 300000000) :
    Calls Try.prog 10 #[.pointer (some ⟨wb, 0, none⟩), .agg #[.pointer (some ⟨p.d, 0, none⟩), .pointer (some ⟨p.r, 0, none⟩)], .int .i64 q] w fun e w' => e = .returned (.bool true) ∧ Try.Zw B w0 w' wb G ps (H + 12) Dk.r0 Dk.b0 := by
  have hb1 : Below w.heap.size w (w.alloc (.cells #[.pointer (some ⟨p.d, 0, none⟩), .pointer (some ⟨p.r, 0, none⟩)] 44)) := (Below.refl _ w).alloc (Nat.le_refl _) _
  have hx1 : (w.alloc (.cells #[.pointer (some ⟨p.d, 0, none⟩), .pointer (some ⟨p.r, 0, none⟩)] 44)).heap[w.heap.size]? = some (.cells #[.pointer (some ⟨p.d, 0, none⟩), .pointer (some ⟨p.r, 0, none⟩)] 44 (0, 0)) := heap_alloc_new w _
  have hZ1 := h.below hb1
  have Hp : Hid (ps[i]? = some p) := hp
  have Ht : Hid (p.t = p.s) := ht
  clear h hb1 hp ht
  obtain ⟨X1, hX1⟩ : ∃ X, X = p.s.rdB q := ⟨_, rfl⟩
  obtain ⟨X2, hX2⟩ : ∃ X, X = p.s.rdB (wrap64 (q + 1)) := ⟨_, rfl⟩
  obtain ⟨E1, hE1⟩ : ∃ X, X = p.s.rdE q := ⟨_, rfl⟩
  obtain ⟨E2, hE2⟩ : ∃ X, X = p.s.rdE (wrap64 (q + 1)) := ⟨_, rfl⟩
  have HX1 : Hid (X1 = p.s.rdB q) := hX1
  have HX2 : Hid (X2 = p.s.rdB (wrap64 (q + 1))) := hX2
  have HE1 : Hid (E1 = p.s.rdE q) := hE1
  have HE2 : Hid (E2 = p.s.rdE (wrap64 (q + 1))) := hE2
  have L1 : Hid (X1.length ≤ 64 ∧ X2.length ≤ 64) := ⟨by rw [hX1]; exact Dk.rdB_len _ _, by rw [hX2]; exact Dk.rdB_len _ _⟩
  clear hX1 hX2 hE1 hE2
  go_enter Try.func10, Try.ntmps10
  go_upto_region 1 with fail
  generalize hW1 : w.alloc _ = W1
  rw [hW1] at hx1 hZ1
  clear hW1
  generalize w.heap.size = vb at *
  have a0 := cell_of_row W1 vb 0 _ _ _ hx1
  have h1 := hZ1.dread Hp.out q 0 (by decide) HX1.out HE1.out
  clear hZ1
  go_upto_region 3 with (first
    | (go_at_call 25; refine h1.mono ?_; clear h1; rintro e w2 ⟨ad1, cap1, rfl, hZ2, hb2⟩; have hx2 := (hb2.block vb (Dk.block_lt hx1)).trans hx1; have a1 := cell_of_row w2 vb 1 _ _ _ hx2; have h2 := hZ2.rread Hp.out Ht.out q HX1.out HE1.out)
    | (go_at_call 26; refine h2.mono ?_; clear h2; rintro e w3 ⟨rfl, e3⟩; have e3' := e3.symm; clear e3; subst e3')
    | fail)
  have a2 := cell_of_row w2 vb 0 _ _ _ hx2
  have h3 := hZ2.dread Hp.out (wrap64 (q + 1)) 1 (by decide) HX2.out HE2.out
  clear hZ2 hb2 hx1 a0 a1
  go_upto_region 5 with (first
    | (go_at_call 25; refine h3.mono ?_; clear h3; rintro e w4 ⟨ad2, cap2, rfl, hZ4, hb4⟩; have hx4 := (hb4.block vb (Dk.block_lt hx2)).trans hx2; have a3 := cell_of_row w4 vb 1 _ _ _ hx4; have h4 := hZ4.rread Hp.out Ht.out (wrap64 (q + 1)) HX2.out HE2.out)
    | (go_at_call 26; refine h4.mono ?_; clear h4; rintro e w5 ⟨rfl, e3⟩; have e3' := e3.symm; clear e3; subst e3')
    | fail)
  have a4 := cell_of_row w4 vb 0 _ _ _ hx4
  have h5 := hZ4.dread Hp.out q 2 (by decide) HX1.out HE1.out
  clear hZ4 hb4 hx2 a2 a3
  go_upto_region 7 with (first
    | (go_at_call 25; refine h5.mono ?_; clear h5; rintro e w6 ⟨ad3, cap3, rfl, hZ6, hb6⟩; have hx6 := (hb6.block vb (Dk.block_lt hx4)).trans hx4; have a5 := cell_of_row w6 vb 1 _ _ _ hx6; have h6 := hZ6.rread Hp.out Ht.out q HX1.out HE1.out)
    | (go_at_call 26; refine h6.mono ?_; clear h6; rintro e w7 ⟨rfl, e3⟩; have e3' := e3.symm; clear e3; subst e3')
    | fail)
  have v1 := hZ6.conv 0 (by decide) (ad := ad1) (cap := cap1) (b := X1) rfl rfl
  have v2 := hZ6.conv 1 (by decide) (ad := ad2) (cap := cap2) (b := X2) rfl rfl
  have v3 := hZ6.conv 2 (by decide) (ad := ad3) (cap := cap3) (b := X1) rfl rfl
  have k1 := hZ6.keeps 0 (by decide) (by omega) (by show X1.length ≤ _; have := L1.out.1; omega) (V := .slice ad1 X1.length cap1) rfl
  clear hb6 hx4 hx6 a4 a5 hZ6
  go_upto_region 8 with fail
  clear v1 v2 v3
  go_wp2_with (first
    | (go_at_call 27; refine k1.mono ?_; clear k1; rintro e w8 ⟨⟨v8, rfl⟩, hZ8⟩; have k2 := hZ8.keeps 1 (by decide) (by omega) (by show X2.length ≤ _; have := L1.out.2; omega) (V := .slice ad2 X2.length cap2) rfl)
    | (go_at_call 27; refine k2.mono ?_; clear k2; rintro e w9 ⟨⟨v9, rfl⟩, hZ9⟩; have k3 := hZ9.keeps 2 (by decide) (by omega) (by show X1.length ≤ _; have := L1.out.1; omega) (V := .slice ad3 X1.length cap3) rfl)
    | (go_at_call 27; refine k3.mono ?_; clear k3; rintro e w10 ⟨⟨v10, rfl⟩, hZ10⟩)
    | fail)
  go_ret
  refine ⟨by simp, ?_⟩
  have e1 : Dk.upd (Dk.upd (Dk.upd (Dk.upd (Dk.upd (Dk.upd Dk.r0 0 (.slice ad1 X1.length cap1)) 1 (.slice ad2 X2.length cap2)) 2 (.slice ad3 X1.length cap3)) 0 (.slice none 0 0)) 1 (.slice none 0 0)) 2 (.slice none 0 0) = Dk.r0 := by
    funext m
    simp only [Dk.r0, Dk.upd]
    repeat' split
    all_goals first | rfl | contradiction
  have e2 : Dk.upd (Dk.upd (Dk.upd (Dk.upd (Dk.upd (Dk.upd Dk.b0 0 X1) 1 X2) 2 X1) 0 []) 1 []) 2 [] = Dk.b0 := by
    funext m
    simp only [Dk.b0, Dk.upd]
    repeat' split
    all_goals first | rfl | contradiction
  rw [← e1, ← e2]
  exact hZ10
end Go.Proofs
