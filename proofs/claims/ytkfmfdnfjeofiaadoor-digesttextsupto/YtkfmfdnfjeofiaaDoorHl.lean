/-
  The document's sum, plain: what words come to.
-/
import Derived.Test.YtkfmfdnfjeofiaaDoorHb
import Derived.KernelRfl
namespace Go.Dg
open Go.Proofs
theorem wrd_bits (a b c d : Nat) (ha : a < 256) (hb : b < 256) (hc : c < 256) (hd : d < 256) :
    IntKind.u32.wrap (IntKind.u32.wrap (IntKind.u32.wrap (IntKind.u32.wrap (IntKind.u32.wrap (a : Int) * 16777216) + IntKind.u32.wrap (IntKind.u32.wrap (b : Int) * 65536)) + IntKind.u32.wrap (IntKind.u32.wrap (c : Int) * 256)) + IntKind.u32.wrap (d : Int)) = ((a * 16777216 + b * 65536 + c * 256 + d : Nat) : Int) := by
  simp only [IntKind.wrap_u32]
  omega
theorem getD_bytes (m : ByteArray) (i : Nat) (h : i < m.size) : m.toList.getD i 0 = m[i] := by
  rw [ByteArray.toList_eq]
  have h2 : i < m.data.toList.length := h
  rw [List.getD_eq_getElem?_getD, List.getElem?_eq_getElem h2]
  rfl
theorem sched_snoc : ∀ (n : Nat) (w : List Nat), sched (n + 1) w = sched n w ++ [nxt (sched n w)]
  | 0, w => rfl
  | n + 1, w => by
    show sched (n + 1) (w ++ [nxt w]) = sched n (w ++ [nxt w]) ++ [nxt (sched n (w ++ [nxt w]))]
    rw [sched_snoc n]
theorem sched_len : ∀ (n : Nat) (w : List Nat), (sched n w).length = w.length + n
  | 0, w => rfl
  | n + 1, w => by
    show (sched n (w ++ [nxt w])).length = _
    rw [sched_len n, List.length_append]
    simp
    omega
def Small (l : List Nat) : Prop := ∀ n ∈ l, n < 4294967296
theorem Small.set {l : List Nat} (h : Small l) (i : Nat) {v : Nat} (hv : v < 4294967296) : Small (l.set i v) := fun n hn => by
  rcases List.mem_or_eq_of_mem_set hn with h1 | h1
  · exact h n h1
  · rw [h1]; exact hv
theorem Small.get {l : List Nat} (h : Small l) {i : Nat} (hi : i < l.length) : l[i] < 4294967296 := h _ (List.getElem_mem hi)
theorem take_set {l : List Nat} {t v : Nat} (ht : t < l.length) : (l.set t v).take (t + 1) = l.take t ++ [v] := by
  rw [List.take_add_one, List.take_set_of_le (Nat.le_refl _)]
  simp [ht]
theorem take_getD {l : List Nat} {t i : Nat} (hi : i < t) (ht : t ≤ l.length) : (l.take t).getD i 0 = l[i]'(by omega) := by
  rw [List.getD_eq_getElem?_getD, List.getElem?_take, if_pos hi, List.getElem?_eq_getElem (by omega)]
  rfl
theorem xor3 {a b c : Nat} (ha : a < 4294967296) (hb : b < 4294967296) (hc : c < 4294967296) : bits .xor .u32 (bits .xor .u32 (a : Int) (b : Int)) (c : Int) = ((a ^^^ b ^^^ c : Nat) : Int) := by
  rw [u32_xor_nat a b ha hb, u32_xor_nat _ c (Nat.xor_lt_two_pow (n := 32) ha hb) hc]
theorem nxt_bits {A B X Y : Nat} (_hA : A < 4294967296) (_hB : B < 4294967296) (hX : X < 4294967296) (hY : Y < 4294967296) :
    IntKind.u32.wrap (IntKind.u32.wrap (IntKind.u32.wrap ((A : Int) + (B : Int)) + bits .xor .u32 (bits .xor .u32 ((rot X 7 : Nat) : Int) ((rot X 18 : Nat) : Int)) ((X : Int) / 8)) + bits .xor .u32 (bits .xor .u32 ((rot Y 17 : Nat) : Int) ((rot Y 19 : Nat) : Int)) ((Y : Int) / 1024)) = (((A + B + sml X + smr Y) % 4294967296 : Nat) : Int) := by
  have h1 := xor3 (c := X / 8) (rot_lt (n := 7) hX) (rot_lt (n := 18) hX) (by omega)
  have h2 := xor3 (c := Y / 1024) (rot_lt (n := 17) hY) (rot_lt (n := 19) hY) (by omega)
  rw [Int.natCast_ediv] at h1 h2
  have e1 : (rot X 7 ^^^ rot X 18 ^^^ X / 8) = sml X := rfl
  have e2 : (rot Y 17 ^^^ rot Y 19 ^^^ Y / 1024) = smr Y := rfl
  rw [e1] at h1
  rw [e2] at h2
  have f1 : ((8 : Nat) : Int) = 8 := rfl
  have f2 : ((1024 : Nat) : Int) = 1024 := rfl
  rw [f1] at h1
  rw [f2] at h2
  rw [h1, h2]
  simp only [IntKind.wrap_u32]
  omega
theorem small_rounds : Small rounds := by
  intro n hn
  have h : rounds.all (fun n => decide (n < 4294967296)) = true := by kernel_rfl
  exact of_decide_eq_true (List.all_eq_true.1 h n hn)
end Go.Dg
namespace Go.Dg
theorem rnds_snoc : ∀ (l : List (Nat × Nat)) (k w : Nat) (s : S8), rnds (l ++ [(k, w)]) s = rnd (rnds l s) k w
  | [], _, _, _ => rfl
  | (_, _) :: r, k, w, _s => rnds_snoc r k w _
theorem zip_take {a b : List Nat} {t : Nat} (ha : t < a.length) (hb : t < b.length) : (a.zip b).take (t + 1) = (a.zip b).take t ++ [(a[t], b[t])] := by
  have h : t < (a.zip b).length := by rw [List.length_zip]; omega
  rw [List.take_add_one, List.getElem?_eq_getElem h, List.getElem_zip]
  rfl
theorem rnd_small {s : S8} (h : Small s.l) (k w : Nat) : Small (rnd s k w).l := fun n hn => by
  have h1 : ∀ x ∈ s.l, x < 4294967296 := h
  simp only [rnd, S8.l, List.mem_cons, List.not_mem_nil, or_false] at hn h1
  rcases hn with rfl | rfl | rfl | rfl | rfl | rfl | rfl | rfl
  · exact Nat.mod_lt _ (by decide)
  · exact h1 _ (by simp)
  · exact h1 _ (by simp)
  · exact h1 _ (by simp)
  · exact Nat.mod_lt _ (by decide)
  · exact h1 _ (by simp)
  · exact h1 _ (by simp)
  · exact h1 _ (by simp)
theorem S8.lt {s : S8} (h : Small s.l) : s.a < 4294967296 ∧ s.b < 4294967296 ∧ s.c < 4294967296 ∧ s.d < 4294967296 ∧ s.e < 4294967296 ∧ s.f < 4294967296 ∧ s.g < 4294967296 ∧ s.h < 4294967296 :=
  ⟨h _ (by simp [S8.l]), h _ (by simp [S8.l]), h _ (by simp [S8.l]), h _ (by simp [S8.l]), h _ (by simp [S8.l]), h _ (by simp [S8.l]), h _ (by simp [S8.l]), h _ (by simp [S8.l])⟩
end Go.Dg
namespace Go.Dg
open Go.Proofs
theorem and_lt {a b : Nat} (hb : b < 4294967296) : a &&& b < 4294967296 := Nat.and_lt_two_pow (n := 32) _ hb
theorem or_lt {a b : Nat} (ha : a < 4294967296) (hb : b < 4294967296) : a ||| b < 4294967296 := Nat.or_lt_two_pow (n := 32) ha hb
theorem not_bits {c : Nat} (hc : c < 4294967296) : bits .xor .u32 (if IntKind.u32.signed = true then -1 else IntKind.u32.max) (c : Int) = ((4294967295 - c : Nat) : Int) := by
  have h := u32_xor_nat 4294967295 c (by decide) hc
  have e1 : (if IntKind.u32.signed = true then -1 else IntKind.u32.max) = ((4294967295 : Nat) : Int) := rfl
  have e2 : 4294967295 ^^^ c = 4294967295 - c := by
    apply Nat.eq_of_testBit_eq
    intro i
    rw [Nat.testBit_xor, show (4294967295 : Nat) - c = 2 ^ 32 - (c + 1) by omega, Nat.testBit_two_pow_sub_succ hc, show (4294967295 : Nat) = 2 ^ 32 - 1 by decide, Nat.testBit_two_pow_sub_one]
    by_cases hi : i < 32
    · simp [hi]
    · have : c.testBit i = false := Nat.testBit_lt_two_pow (Nat.lt_of_lt_of_le hc (Nat.pow_le_pow_right (n := 2) (by decide) (Nat.le_of_not_lt hi)))
      simp [hi, this]
  rw [e1, h, e2]
theorem one_bits {s : S8} (h : Small s.l) {k w : Nat} :
    (((s.h : Int) + bits .xor .u32 (bits .xor .u32 ((rot s.e 6 : Nat) : Int) ((rot s.e 11 : Nat) : Int)) ((rot s.e 25 : Nat) : Int) + bits .or .u32 (bits .and .u32 (s.e : Int) (s.f : Int)) (bits .and .u32 (bits .xor .u32 (if IntKind.u32.signed = true then -1 else IntKind.u32.max) (s.e : Int)) (s.g : Int)) + (k : Int)) % 4294967296 + (w : Int)) % 4294967296 = ((one s k w : Nat) : Int) := by
  obtain ⟨l0, l1, l2, l3, l4, l5, l6, l7⟩ := S8.lt h
  rw [xor3 (rot_lt l4) (rot_lt l4) (rot_lt l4), not_bits l4, u32_and_nat _ _ l4 l5, u32_and_nat _ _ (by omega) l6, u32_or_nat _ _ (and_lt l5) (and_lt l6)]
  unfold one
  omega
theorem two_bits {s : S8} (h : Small s.l) :
    (bits .xor .u32 (bits .xor .u32 ((rot s.a 2 : Nat) : Int) ((rot s.a 13 : Nat) : Int)) ((rot s.a 22 : Nat) : Int) + bits .or .u32 (bits .or .u32 (bits .and .u32 (s.a : Int) (s.b : Int)) (bits .and .u32 (s.a : Int) (s.c : Int))) (bits .and .u32 (s.b : Int) (s.c : Int))) % 4294967296 = ((two s : Nat) : Int) := by
  obtain ⟨l0, l1, l2, l3, l4, l5, l6, l7⟩ := S8.lt h
  rw [xor3 (rot_lt l0) (rot_lt l0) (rot_lt l0), u32_and_nat _ _ l0 l1, u32_and_nat _ _ l0 l2, u32_and_nat _ _ l1 l2, u32_or_nat _ _ (and_lt l1) (and_lt l2), u32_or_nat _ _ (or_lt (and_lt l1) (and_lt l2)) (and_lt l2)]
  unfold two
  omega
end Go.Dg
namespace Go.Dg
theorem set8 (a b c d e f g h : Nat) : ∀ (r : List Nat), r.length = 8 → (((((((r.set 0 a).set 1 b).set 2 c).set 3 d).set 4 e).set 5 f).set 6 g).set 7 h = [a, b, c, d, e, f, g, h]
  | [_, _, _, _, _, _, _, _], _ => rfl
  | [], hl | [_], hl | [_, _], hl | [_, _, _], hl | [_, _, _, _], hl | [_, _, _, _, _], hl | [_, _, _, _, _, _], hl | [_, _, _, _, _, _, _], hl => by simp at hl
  | _ :: _ :: _ :: _ :: _ :: _ :: _ :: _ :: _ :: _, hl => by simp at hl
end Go.Dg
