/-
  Bits that are turned, plain; 'make' and 'copy' of bytes; a []byte that came in.
-/
import Derived.Test.YtghpbagmpgphfaaVk
namespace Go.Wi
open Go.RowKit
def Turned (b : List UInt8) (k i t : Nat) (c : List UInt8) : Prop :=
  c.length = b.length ∧ ∀ j, j < 8 * b.length → bit c j = (bit b j ^^ (decide (k ≤ j ∧ j < k + i) && t.testBit (j - k)))
theorem turned_0 (b : List UInt8) (k t : Nat) : Turned b k 0 t b := by
  refine ⟨rfl, fun j _ => ?_⟩
  have : ¬ (k ≤ j ∧ j < k + 0) := by omega
  rw [decide_eq_false this]; simp
theorem turned_skip {b : List UInt8} {k i t : Nat} {c : List UInt8} (h : Turned b k i t c) (ht : t.testBit i = false) : Turned b k (i + 1) t c := by
  refine ⟨h.1, fun j hj => ?_⟩
  rw [h.2 j hj]
  by_cases e : j = k + i
  · subst e
    have h1 : ¬ (k ≤ k + i ∧ k + i < k + i) := by omega
    have h2 : k + i - k = i := by omega
    rw [h2, ht]; simp
  · have : (k ≤ j ∧ j < k + i) ↔ (k ≤ j ∧ j < k + (i + 1)) := by omega
    simp only [this]
theorem bit_set (c : List UInt8) (q : Nat) (v : UInt8) (hq : q < c.length) (j : Nat) : bit (c.set q v) j = if j / 8 = q then v.toNat.testBit (j % 8) else bit c j := by
  unfold bit
  by_cases e : j / 8 = q
  · rw [if_pos e, e]
    simp [List.getD_eq_getElem?_getD, hq]
  · rw [if_neg e]
    simp only [List.getD_eq_getElem?_getD]
    rw [List.getElem?_set_ne (Ne.symm e)]
theorem turned_step {b : List UInt8} {k i t : Nat} {c : List UInt8} (h : Turned b k i t c) (ht : t.testBit i = true) (v : UInt8) (x : Nat) (hx : c[(k + i) / 8]? = some (UInt8.ofNat x)) (hx8 : x < 256) (hv : v.toNat = x ^^^ 2 ^ ((k + i) % 8)) : Turned b k (i + 1) t (c.set ((k + i) / 8) v) := by
  have hq := (List.getElem?_eq_some_iff.1 hx).1
  refine ⟨by rw [List.length_set]; exact h.1, fun j hj => ?_⟩
  rw [bit_set c _ v hq]
  by_cases e : j / 8 = (k + i) / 8
  · have hb : bit c j = x.testBit (j % 8) := by
      unfold bit
      rw [e, List.getD_eq_getElem?_getD, hx, Option.getD_some, UInt8.toNat_ofNat', Nat.mod_eq_of_lt (by omega)]
    rw [if_pos e, hv, Nat.testBit_xor, Nat.testBit_two_pow, ← hb, h.2 j hj]
    by_cases e2 : j = k + i
    · subst e2
      have h2 : k + i - k = i := by omega
      have h1 : ¬ (k ≤ k + i ∧ k + i < k + i) := by omega
      have h3 : k ≤ k + i ∧ k + i < k + (i + 1) := by omega
      rw [h2, ht]; simp
    · have h3 : ¬ (k + i) % 8 = j % 8 := by omega
      have h4 : (k ≤ j ∧ j < k + i) ↔ (k ≤ j ∧ j < k + (i + 1)) := by omega
      simp only [h3, h4, decide_false, Bool.xor_false]
  · rw [if_neg e, h.2 j hj]
    have h4 : (k ≤ j ∧ j < k + i) ↔ (k ≤ j ∧ j < k + (i + 1)) := by omega
    simp only [h4]
theorem bits_ext {a b : List UInt8} (hl : a.length = b.length) (h : ∀ j, j < 8 * a.length → bit a j = bit b j) : a = b := by
  apply List.ext_getElem hl
  intro q h1 h2
  apply UInt8.toNat_inj.1
  apply Nat.eq_of_testBit_eq
  intro r
  by_cases hr : r < 8
  · have := h (8 * q + r) (by omega)
    unfold bit at this
    rw [show (8 * q + r) / 8 = q by omega, show (8 * q + r) % 8 = r by omega] at this
    simpa [List.getD_eq_getElem?_getD, h1, h2] using this
  · have p8 : 256 ≤ 2 ^ r := Nat.pow_le_pow_right (n := 2) (i := 8) (by decide) (by omega)
    rw [Nat.testBit_lt_two_pow (by have := a[q].toNat_lt; omega), Nat.testBit_lt_two_pow (by have := b[q].toNat_lt; omega)]
theorem turned_sum {b : List UInt8} {k i t : Nat} {c : List UInt8} (h : Turned b k i t c) (hi : i ≤ 32) (hk : k + i ≤ 8 * b.length) : sum c ≠ sum b ↔ ∃ m, m < i ∧ t.testBit m = true := by
  constructor
  · intro hne
    by_cases he : ∃ m, m < i ∧ t.testBit m = true
    · exact he
    · refine absurd (congrArg sum (bits_ext h.1 fun j hj => ?_)) hne
      rw [h.2 j (by rw [← h.1]; exact hj)]
      by_cases e : k ≤ j ∧ j < k + i
      · have : t.testBit (j - k) = false := by
          cases hb : t.testBit (j - k) with
          | false => rfl
          | true => exact absurd ⟨j - k, by omega, hb⟩ he
        simp [this]
      · simp [e]
  · rintro ⟨m, hm, hb⟩ he
    have h1 := crc_lt c
    have h2 := crc_lt b
    have he' : crc c = crc b := by unfold sum at he; omega
    have h3 := crc_other c b h.1 k (fun j hj ho => by
      rw [h.2 j (by rw [← h.1]; exact hj)]
      have : ¬ (k ≤ j ∧ j < k + i) := by omega
      simp [this]) he' (k + m) (by rw [h.1]; omega)
    rw [h.2 (k + m) (by omega)] at h3
    have h4 : k ≤ k + m ∧ k + m < k + i := by omega
    have h5 : k + m - k = m := by omega
    rw [h5, hb] at h3
    simp [h4.2] at h3
end Go.Wi
namespace Go.Proofs
open Go.RowKit Go.Wi
theorem Try.size_u8 : (Try.prog.info? 5).map (·.size) = some 1 := by kernel_rfl
theorem Try.makeB {ops : Array Oper} {rest : List Oper} {o : Oper} {a : Act} {Q : Exit → Act → World → Prop} {w : World} (hgd : o.guard = none) (l c : Operand) (hop : o.op = Op.makeSlice 22 l c)
    (L : Int) (n : Nat) (hl : a.eval l = .int .i64 L) (hc : a.eval c = .int .i64 L) (hL : L = (n : Int)) (hn : n ≤ 140737488355328)
    (hK : ∀ w', w'.heap[w.heap.size]? = some (.cells (Lib.byteCells (List.replicate n 0)).toArray 5 (0, 0)) → Below w.heap.size w w' → wpList Try.prog ops Q rest (a.put o.dst (.slice (some ⟨w.heap.size, 0, none⟩) n n)) w') : wpList Try.prog ops Q (o :: rest) a w := by
  obtain ⟨i0, hi0, hz0, hz1, hz2⟩ := info_parts Try.info_u8
  refine wpList_make_full w hgd l c 22 hop w.heap.size 5 i0 (.int .u8 0) 1 Try.underlying22 hi0 hz0 hz1 .i64 .i64 L L n hl hc hL hL (by rw [hz2]; omega) (by unfold maxLen; omega) (Nat.le_refl _) ?_
  intro w' hown hg
  refine hK w' ?_ ((Below.refl _ w).grown hg (Nat.le_refl _) fun k e => by cases e)
  rcases hown.2 with ⟨e, _⟩ | ⟨g, cap, cur, e, _, hh, h1, h2, h3, h4⟩
  · cases e
  · cases e
    rw [hh]
    have e1 : cur.toList = (madeCells (Value.int .u8 0).cells (n * 1)).toList := by
      rw [← h4, List.take_of_length_le (by simp; omega)]
    have e2 : (madeCells (Value.int .u8 0).cells (n * 1)).toList = Lib.byteCells (List.replicate n 0) := by
      rw [show (Value.int .u8 0).cells = #[.int .u8 0] from rfl, toList_madeCells_one, Nat.mul_one]
      simp [Lib.byteCells]
    rw [e2] at e1
    rw [← e1]
theorem Try.copyB {w : World} (g : Nat) (D : List UInt8) (cap : Nat) (hg : w.heap[g]? = some (.cells (Lib.byteCells D).toArray 5 (0, 0)))
    (dn : Nat) (hdn : D.length = dn) {v : Value} {l : List UInt8} (hv : Bs w v l) (hl : l.length ≤ D.length) (B : Nat) (w0 : World) (hb : Below B w0 w) (hBg : B ≤ g) :
    ∃ w', (∀ ty, (Builtin.copy_ #[22, 22] ty #[.slice (some ⟨g, 0, none⟩) dn cap, v]).run Try.prog w = .ok (goInt l.length) w') ∧ w'.heap[g]? = some (.cells (Lib.byteCells (l ++ D.drop l.length)).toArray 5 (0, 0)) ∧ Below B w0 w' := by
  subst hdn
  obtain ⟨ad, cap2, rfl, hcap, hn, h1⟩ := hv.ex
  rcases h1 with rfl | ⟨sb, so, rfl, _, h2⟩
  · exact ⟨w, fun ty => run_copy_none (P := Try.prog) w _ _ ty 5 _ _ _ _ _ _ Try.underlying22 Try.size_u8 (by simp), by simpa using hg, hb⟩
  · have hrun := fun ty => run_copy_row (P := Try.prog) w 22 22 ty 5 g 0 D.length cap ⟨sb, so, none⟩ l.length cap2 (Lib.byteCells D).toArray 5 (Lib.byteCells l) Try.underlying22 Try.size_u8 hg (by rw [byteCells_len]; exact (Nat.min_eq_left hl).symm) (fun j u hj => by rw [Addr.add_mid]; exact h2 j u hj) (by simp [Lib.byteCells]; exact hl) (by
      intro u hu
      simp only [Lib.byteCells, List.mem_map] at hu
      obtain ⟨b, _, rfl⟩ := hu
      rfl)
    rw [byteCells_len] at hrun
    refine ⟨_, hrun, ?_, below_setRow hb hBg _⟩
    rw [setRow_heap w g _ _ 5 _ hg]
    simp [Lib.byteCells]
theorem Wi.Bs.up {w w' : World} {v : Value} {b : List UInt8} (h : Bs w v b) (g : Below w.heap.size w w') : Bs w' v b := by
  obtain ⟨ad, cap, rfl, hc, hn, h1⟩ := h.ex
  refine ⟨ad, cap, rfl, hc, hn, ?_⟩
  rcases h1 with h1 | ⟨gg, o, rfl, hg, h1⟩
  · exact .inl h1
  · exact .inr ⟨gg, o, rfl, Nat.lt_of_lt_of_le hg g.size, fun j u hu => (g.cell (p := ⟨gg, o + j, none⟩) hg).trans (h1 j u hu)⟩
/-- A block of bytes, whole or its head. -/
theorem Wi.bs_block {w : World} {g : Nat} {T : TypeId} {D : List UInt8} {fr : Nat × Nat} (h : w.heap[g]? = some (.cells (Lib.byteCells D).toArray T fr)) (n cap : Nat) (hn : n ≤ D.length) (hc : n ≤ cap) : Bs w (.slice (some ⟨g, 0, none⟩) n cap) (D.take n) := by
  have hl : (D.take n).length = n := by rw [List.length_take]; omega
  refine ⟨some ⟨g, 0, none⟩, cap, by rw [hl], by omega, (fun e => by cases e), .inr ⟨g, 0, rfl, block_lt h, fun j u hu => ?_⟩⟩
  have hj := (List.getElem?_eq_some_iff.1 hu).1
  rw [byteCells_len, hl] at hj
  simp only [World.cell?, h, Nat.zero_add]
  rw [byteCell (by omega)] at hu
  rw [List.getElem?_toArray, byteCell (by omega)]
  simpa using hu
end Go.Proofs
