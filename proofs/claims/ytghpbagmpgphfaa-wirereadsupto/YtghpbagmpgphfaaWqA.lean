/-
  The document's reader: how a count is read, plain; the reader in memory.
-/
import Derived.Test.YtghpbagmpgphfaaVk
namespace Go.Wi
/-- Seven bits of each byte, the first one the lowest. -/
def hz : List UInt8 → Nat
  | [] => 0
  | b :: r => b.toNat % 128 + 128 * hz r
theorem hz_app : ∀ (a b : List UInt8), hz (a ++ b) = hz a + 128 ^ a.length * hz b
  | [], b => by simp [hz]
  | x :: a, b => by
    simp only [List.cons_append, hz, List.length_cons]
    rw [hz_app a b, Nat.pow_succ, Nat.mul_add, Nat.add_assoc, ← Nat.mul_assoc 128, Nat.mul_comm 128 (128 ^ a.length)]
theorem hz_le : ∀ (l : List UInt8) (k : Nat), hz (l.drop k) ≤ hz l
  | [], k => by simp [hz]
  | b :: r, 0 => Nat.le_refl _
  | b :: r, k + 1 => by
    have := hz_le r k
    simp only [List.drop_succ_cons, hz]
    omega
theorem hz_drop {l : List UInt8} {k : Nat} (h : k < l.length) : hz (l.drop k) = l[k].toNat % 128 + 128 * hz (l.drop (k + 1)) := by
  rw [List.drop_eq_getElem_cons h, hz]
/-- The bytes that go on. -/
theorem rdC_run : ∀ (j : Nat) (l : List UInt8) (i acc : Nat), j ≤ l.length → i + j ≤ 9 → (∀ m (hm : m < l.length), m < j → 128 ≤ l[m].toNat) → rdC l i acc = rdC (l.drop j) (i + j) (acc + 128 ^ i * hz (l.take j))
  | 0, l, i, acc, _, _, _ => by simp [hz]
  | j + 1, [], i, acc, h, _, _ => by simp at h
  | j + 1, b :: r, i, acc, h, h9, hb => by
    have hb0 : 128 ≤ b.toNat := hb 0 (by simp) (by omega)
    rw [rdC, if_neg (by omega), if_neg (by omega), rdC_run j r (i + 1) _ (by simpa using h) (by omega) (fun m hm hlt => hb (m + 1) (by simpa using hm) (by omega))]
    simp only [List.drop_succ_cons, List.take_succ_cons, hz]
    rw [show i + 1 + j = i + (j + 1) by omega, Nat.pow_succ, Nat.mul_add, Nat.mul_comm (b.toNat % 128), Nat.add_assoc, Nat.mul_assoc]
/-- A count, where it ends. -/
theorem rdC_end {l : List UInt8} {j : Nat} (hj : j ≤ l.length) (h9 : j ≤ 9) (hb : ∀ m (hm : m < l.length), m < j → 128 ≤ l[m].toNat) :
    (j = l.length → rdC l 0 0 = .bad j) ∧ (∀ h : j < l.length, ((j = 9 ∧ 1 < l[j].toNat) ∨ (l[j].toNat = 0 ∧ 0 < j) → rdC l 0 0 = .bad j) ∧ (¬ ((j = 9 ∧ 1 < l[j].toNat) ∨ (l[j].toNat = 0 ∧ 0 < j)) → l[j].toNat < 128 → rdC l 0 0 = .ok (hz (l.take (j + 1))) (j + 1))) := by
  have h := rdC_run j l 0 0 hj (by omega) hb
  simp only [Nat.zero_add, Nat.pow_zero, Nat.one_mul] at h
  refine ⟨fun e => ?_, fun hlt => ⟨fun hc => ?_, fun hc hs => ?_⟩⟩
  · rw [h, e, List.drop_length, rdC]
  · rw [h, List.drop_eq_getElem_cons hlt, rdC, if_pos hc]
  · rw [h, List.drop_eq_getElem_cons hlt, rdC, if_neg hc, if_pos hs]
    congr 1
    rw [List.take_succ_eq_append_getElem hlt, hz_app]
    simp only [hz, List.length_take, Nat.min_eq_left hj]
    rw [Nat.mul_zero, Nat.add_zero, Nat.mul_comm]
theorem hz_lt {l : List UInt8} {j n k : Nat} (h : rdC l 0 0 = .ok n k) (e : n = hz (l.take (j + 1))) : hz (l.take (j + 1)) < 18446744073709551616 := by
  have := rdC_back l 0 0 n k h (by decide) (by omega)
  rw [← e]; exact this.2.2.2.1
/-- A fault's place, as the document keeps it. -/
def bad : Option Nat → Int
  | none => -1
  | some a => (a : Int)
end Go.Wi
namespace Go.Proofs
open Go.RowKit Go.Wi
/-- The document's reader. -/
structure Try.Xd (w : World) (own : Nat → Prop) (x : Nat) (s : Rs) : Prop where
  ex : ∃ V, w.heap[x]? = some (.cells #[V, .int .i64 s.p, .int .i64 (bad s.f)] 61 (0, 0)) ∧ Bs w V s.t ∧ V.ownBlock ≠ some x ∧ (∀ k, V.ownBlock = some k → own k)
  ox : own x
  lt : ∀ k, own k → k < w.heap.size
  inn : s.In
  len : s.t.length ≤ 140737488355328
theorem Try.Xd.keep {w w' : World} {own : Nat → Prop} {x : Nat} {s : Rs} (h : Try.Xd w own x s) (hk : ∀ k, own k → w'.heap[k]? = w.heap[k]?) (hs : w.heap.size ≤ w'.heap.size) : Try.Xd w' own x s := by
  obtain ⟨V, h1, h2, h3, h4⟩ := h.ex
  exact ⟨⟨V, (hk x h.ox).trans h1, h2.keep fun k e => hk k (h4 k e), h3, h4⟩, h.ox, fun k e => Nat.lt_of_lt_of_le (h.lt k e) hs, h.inn, h.len⟩
theorem Try.Xd.drewN {w : World} {own : Nat → Prop} {x : Nat} {s : Rs} (h : Try.Xd w own x s) (n : Nat) : Try.Xd (w.drewN n) own x s := h.keep (fun _ _ => rfl) (Nat.le_refl _)
/-- What a call of it leaves. -/
structure Try.XChg (own : Nat → Prop) (w w' : World) (x : Nat) (s : Rs) : Prop where
  rd : Try.Xd w' own x s
  wo : Wo (fun k => k = x) w w'
  sz : w'.heap.size = w.heap.size
theorem Try.XChg.refl {own : Nat → Prop} {w : World} {x : Nat} {s : Rs} (h : Try.Xd w own x s) : Try.XChg own w w x s := ⟨h, Wo.refl _ _, rfl⟩
theorem Try.XChg.drewN {own : Nat → Prop} {w w' : World} {x : Nat} {s : Rs} (h : Try.XChg own w w' x s) (n : Nat) : Try.XChg own w (w'.drewN n) x s := ⟨h.rd.drewN n, h.wo.drewN n, h.sz⟩
theorem Try.XChg.trans {own : Nat → Prop} {w w1 w2 : World} {x : Nat} {s s1 : Rs} (h : Try.XChg own w w1 x s1) (g : Try.XChg own w1 w2 x s) : Try.XChg own w w2 x s := ⟨g.rd, h.wo.trans g.wo, g.sz.trans h.sz⟩
/-- One of its cells is set. -/
theorem Try.Xd.set {w : World} {own : Nat → Prop} {x : Nat} {s : Rs} (h : Try.Xd w own x s) (i : Nat) (v : Int) (s' : Rs) (ht : s'.t = s.t) (hin : s'.In) (hc : ∀ V : Value, (#[V, .int .i64 s.p, .int .i64 (bad s.f)] : Array Value).setIfInBounds i (.int .i64 v) = #[V, .int .i64 s'.p, .int .i64 (bad s'.f)]) : Try.XChg own w (w.setCell ⟨x, i, none⟩ (.int .i64 v)) x s' := by
  obtain ⟨V, h1, h2, h3, h4⟩ := h.ex
  have hx2 := heap_setCell_same w x i _ 61 (.int .i64 v) h1
  rw [hc V] at hx2
  have hot : ∀ k, k ≠ x → (w.setCell ⟨x, i, none⟩ (.int .i64 v)).heap[k]? = w.heap[k]? := fun k hk => Below.heap_setCell w ⟨x, i, none⟩ _ k hk
  refine ⟨⟨⟨V, hx2, by rw [ht]; exact h2.keep fun k e => hot k (fun e1 => h3 (by rw [e, e1])), h3, h4⟩, h.ox, by simpa using h.lt, hin, by rw [ht]; exact h.len⟩, (Wo.refl _ w).setCell x i _ (.inl rfl), by simp⟩
theorem Try.Xd.setP {w : World} {own : Nat → Prop} {x : Nat} {s : Rs} (h : Try.Xd w own x s) (q : Nat) (v : Int) (hv : v = q) (hq : q ≤ s.t.length) : Try.XChg own w (w.setCell ⟨x, 1, none⟩ (.int .i64 v)) x { s with p := q } :=
  h.set 1 v _ rfl hq fun V => by subst hv; rfl
theorem Try.Xd.setF {w : World} {own : Nat → Prop} {x : Nat} {s : Rs} (h : Try.Xd w own x s) (a : Nat) (v : Int) (hv : v = a) : Try.XChg own w (w.setCell ⟨x, 2, none⟩ (.int .i64 v)) x { s with f := some a } :=
  h.set 2 v _ rfl h.inn fun V => by subst hv; rfl
set_option maxHeartbeats 1000000 in
theorem Try.xFails_any {w : World} {own : Nat → Prop} {x : Nat} {s : Rs} (h : Try.Xd w own x s) (a : Nat) :
    Calls Try.prog 35 #[.pointer (some ⟨x, 0, none⟩), .int .i64 a] w fun e w' => (∃ v, e = .returned v) ∧ Try.XChg own w w' x (s.fail a) := by
  obtain ⟨V, hx, -⟩ := h.ex
  have c2 := cell_of_row w x 2 _ _ _ hx
  have f2 : w.frozen? ⟨x, 2, none⟩ = false := frozen_of_row w x 2 _ _ hx
  have H : Hid _ := h
  clear hx h
  cases hf : s.f with
  | none =>
    rw [hf] at c2
    have c3 : w.cell? ⟨x, 2, none⟩ = some (.int .i64 (-1)) := c2
    have HF : Hid (s.fail a = { s with f := some a }) := by show s.fail a = _; unfold Rs.fail; rw [hf]
    clear c2 hf
    go_enter Try.func35, Try.ntmps35
    go_wp2
    go_end0
    exact ⟨⟨_, rfl⟩, by rw [HF.out]; exact H.out.setF a _ rfl⟩
  | some b =>
    rw [hf] at c2
    have c3 : w.cell? ⟨x, 2, none⟩ = some (.int .i64 (b : Int)) := c2
    have HF : Hid (s.fail a = s) := by show s.fail a = _; unfold Rs.fail; rw [hf]
    have q : ¬ (b : Int) < 0 := by omega
    clear c2 hf
    go_enter Try.func35, Try.ntmps35
    go_wp2
    go_end0
    exact ⟨⟨_, rfl⟩, by rw [HF.out]; exact Try.XChg.refl H.out⟩
end Go.Proofs
