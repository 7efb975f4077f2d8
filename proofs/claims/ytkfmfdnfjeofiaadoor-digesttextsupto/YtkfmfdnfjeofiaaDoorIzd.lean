/-
  'append' of texts, of rows of bytes, of one byte.
-/
import Derived.Test.YtkfmfdnfjeofiaaDoorIz
namespace Go.Proofs
open Go.RowKit Go.Wi Go.Dg
theorem Tryd.infoS : (Tryd.prog.info? 9).map (fun i => (i.zero, i.size, i.bytes)) = some (some (.string ⟨#[]⟩), 1, 16) := by kernel_rfl
theorem Tryd.infoL : (Tryd.prog.info? 24).map (fun i => (i.zero, i.size, i.bytes)) = some (some (.slice none 0 0), 1, 24) := by kernel_rfl
section
variable {ops : Array Oper} {rest : List Oper} {o : Oper} {a : Act} {Q : Exit → Act → World → Prop} {w : World} {B : Nat} {V : Value} {l : List Value}
theorem Tryd.appS (hgd : o.guard = none) (s y : Operand) (ho : o.op = .call { callee := .builtin .append, args := #[s, y], argTypes := #[75, 75] })
    (h : Ov w B V l) (hB : B ≤ w.heap.size) (hs : a.eval s = V) (xs : List Value) (k g0 : Nat) (hy : a.eval y = .slice (some ⟨g0, 0, none⟩) k k) (hk : k = xs.length) (h0 : 0 < k)
    (hnb : w.heap[g0]? = some (.cells xs.toArray 9 (0, 0))) (hone : ∀ u ∈ xs, u.oneCell' = true) (hlen : l.length + xs.length ≤ 1000)
    (hK : ∀ ad cap w1, Ov w1 B (.slice ad (l.length + k : Nat) cap) (l ++ xs) → ((∃ g, V = .slice (some ⟨g, 0, none⟩) l.length cap ∧ ad = some ⟨g, 0, none⟩ ∧ Wo (fun k => k = g) w w1) ∨ (Below w.heap.size w w1 ∧ ∀ k', (Value.slice ad (l.length + k : Nat) cap).ownBlock = some k' → w.heap.size ≤ k')) → wpList Tryd.prog ops Q rest (a.put o.dst (.slice ad (l.length + k : Nat) cap)) w1) : wpList Tryd.prog ops Q (o :: rest) a w := by
  obtain ⟨i0, hi0, hz0, hz1, hz2⟩ := info_parts Tryd.infoS
  exact Dg.appV hgd s y ho Tryd.underlying75 hi0 hz0 hz1 hz2 rfl h hB hs xs k g0 hy hk h0 hnb hone (by omega) (by unfold maxLen; omega) hK
theorem Tryd.appL (hgd : o.guard = none) (s y : Operand) (ho : o.op = .call { callee := .builtin .append, args := #[s, y], argTypes := #[74, 74] })
    (h : Ov w B V l) (hB : B ≤ w.heap.size) (hs : a.eval s = V) (x : Value) (g0 : Nat) (hy : a.eval y = .slice (some ⟨g0, 0, none⟩) 1 1)
    (hnb : w.heap[g0]? = some (.cells #[x] 24 (0, 0))) (hone : x.oneCell' = true) (hlen : l.length + 1 ≤ 1000)
    (hK : ∀ ad cap w1, Ov w1 B (.slice ad (l.length + 1 : Nat) cap) (l ++ [x]) → ((∃ g, V = .slice (some ⟨g, 0, none⟩) l.length cap ∧ ad = some ⟨g, 0, none⟩ ∧ Wo (fun k => k = g) w w1) ∨ (Below w.heap.size w w1 ∧ ∀ k', (Value.slice ad (l.length + 1 : Nat) cap).ownBlock = some k' → w.heap.size ≤ k')) → wpList Tryd.prog ops Q rest (a.put o.dst (.slice ad (l.length + 1 : Nat) cap)) w1) : wpList Tryd.prog ops Q (o :: rest) a w := by
  obtain ⟨i0, hi0, hz0, hz1, hz2⟩ := info_parts Tryd.infoL
  exact Dg.appV hgd s y ho Tryd.underlying74 hi0 hz0 hz1 hz2 rfl h hB hs [x] 1 g0 hy rfl (by decide) hnb (fun u hu => by rw [List.mem_singleton.1 hu]; exact hone) (by simp only [List.length_cons, List.length_nil]; omega) (by simp only [List.length_cons, List.length_nil]; unfold maxLen; omega) hK
theorem Tryd.appG (hgd : o.guard = none) (s y : Operand) (ho : o.op = .call { callee := .builtin .append, args := #[s, y], argTypes := #[24, 24] })
    {gl : List UInt8} (h : Ob w B V gl) (hB : B ≤ w.heap.size) (hs : a.eval s = V) (m : UInt8) (v : Value) (hv : v = .int .u8 ((m.toNat : Nat) : Int)) (g0 : Nat) (hy : a.eval y = .slice (some ⟨g0, 0, none⟩) 1 1)
    (hnb : w.heap[g0]? = some (.cells #[v] 5 (0, 0))) (hlen : gl.length + 1 ≤ 100000000)
    (hK : ∀ ad cap w1, Ob w1 B (.slice ad (gl.length + 1 : Nat) cap) (gl ++ [m]) → ((∃ g, V = .slice (some ⟨g, 0, none⟩) gl.length cap ∧ ad = some ⟨g, 0, none⟩ ∧ Wo (fun k => k = g) w w1) ∨ (Below w.heap.size w w1 ∧ ∀ k', (Value.slice ad (gl.length + 1 : Nat) cap).ownBlock = some k' → w.heap.size ≤ k')) → wpList Tryd.prog ops Q rest (a.put o.dst (.slice ad (gl.length + 1 : Nat) cap)) w1) : wpList Tryd.prog ops Q (o :: rest) a w := by
  subst hv
  obtain ⟨i0, hi0, hz0, hz1, hz2⟩ := info_parts Tryd.info8
  have hbl := byteCells_len gl
  refine Dg.appV hgd s y ho Tryd.underlying24 hi0 hz0 hz1 hz2 rfl h.ov hB hs (Lib.byteCells [m]) 1 g0 hy rfl (by decide) hnb (fun u hu => by rw [List.mem_singleton.1 hu]; rfl) (by rw [hbl]; show (gl.length + 1) * 1 ≤ _; omega) (by rw [hbl]; show gl.length + 1 ≤ _; unfold maxLen; omega) fun ad cap w1 h1 h2 => ?_
  rw [hbl] at h1 h2 ⊢
  rw [← byteCells_app] at h1
  exact hK ad cap w1 h1.ob h2
end
/-- The texts, in turns. -/
def Dg.tx (a b : ByteArray) (j : Nat) : ByteArray := if j % 2 = 0 then a else b
def Dg.txs (a b : ByteArray) (n : Nat) : List Value := (List.range n).map fun j => .string (Dg.tx a b j)
theorem Dg.txs_len (a b : ByteArray) (n : Nat) : (Dg.txs a b n).length = n := by simp [Dg.txs]
theorem Dg.txs_at (a b : ByteArray) {n j : Nat} (h : j < n) : (Dg.txs a b n)[j]? = some (.string (Dg.tx a b j)) := by simp [Dg.txs, h]
theorem Dg.txs_next (a b : ByteArray) (i : Nat) : Dg.txs a b (2 * i) ++ [.string a, .string b] = Dg.txs a b (2 * (i + 1)) := by
  have e1 : Dg.tx a b (2 * i) = a := by unfold Dg.tx; rw [if_pos (by omega)]
  have e2 : Dg.tx a b (2 * i + 1) = b := by unfold Dg.tx; rw [if_neg (by omega)]
  unfold Dg.txs
  rw [show 2 * (i + 1) = 2 * i + 1 + 1 by omega, List.range_succ, List.range_succ]
  simp [e1, e2]
theorem Dg.tx_size {a b : ByteArray} {n : Nat} (ha : a.size ≤ n) (hb : b.size ≤ n) (j : Nat) : (Dg.tx a b j).size ≤ n := by
  unfold Dg.tx
  split
  · exact ha
  · exact hb
/-- What Decode gives of a text, as bytes. -/
def Dg.got (t : ByteArray) : List UInt8 := ((dec t.toList).1).getD []
theorem Dg.got_len (t : ByteArray) : (Dg.got t).length ≤ t.size := by
  unfold Dg.got
  cases h : (dec t.toList).1 with
  | none => exact Nat.zero_le _
  | some o =>
    have h1 := enc_dec t.toList o (dec t.toList).2 (by rw [← h])
    obtain ⟨vs, p, e1, -, -, e4, -⟩ := enc_vals o
    have h2 : (enc o).length = vs.length := by rw [e1, List.length_map]
    rw [h1, Dg.list_len] at h2
    simp only [Option.getD_some]
    omega
end Go.Proofs
