/-
  Laid together by merge.py of Ha Hb Hl.
-/
import Derived.Test.YtlfiebapfgpchaaGreatDoorSqV
import Derived.WalkKit
import Derived.KernelRfl
namespace Go.Dg
/-- A word turned. -/
def rot (x n : Nat) : Nat := x / 2 ^ n ||| x * 2 ^ (32 - n) % 4294967296
def starts : List Nat := [0x6a09e667, 0xbb67ae85, 0x3c6ef372, 0xa54ff53a, 0x510e527f, 0x9b05688c, 0x1f83d9ab, 0x5be0cd19]
def rounds : List Nat := [
  0x428a2f98, 0x71374491, 0xb5c0fbcf, 0xe9b5dba5, 0x3956c25b, 0x59f111f1, 0x923f82a4, 0xab1c5ed5, 0xd807aa98, 0x12835b01, 0x243185be, 0x550c7dc3, 0x72be5d74, 0x80deb1fe, 0x9bdc06a7, 0xc19bf174,
  0xe49b69c1, 0xefbe4786, 0x0fc19dc6, 0x240ca1cc, 0x2de92c6f, 0x4a7484aa, 0x5cb0a9dc, 0x76f988da, 0x983e5152, 0xa831c66d, 0xb00327c8, 0xbf597fc7, 0xc6e00bf3, 0xd5a79147, 0x06ca6351, 0x14292967,
  0x27b70a85, 0x2e1b2138, 0x4d2c6dfc, 0x53380d13, 0x650a7354, 0x766a0abb, 0x81c2c92e, 0x92722c85, 0xa2bfe8a1, 0xa81a664b, 0xc24b8b70, 0xc76c51a3, 0xd192e819, 0xd6990624, 0xf40e3585, 0x106aa070,
  0x19a4c116, 0x1e376c08, 0x2748774c, 0x34b0bcb5, 0x391c0cb3, 0x4ed8aa4a, 0x5b9cca4f, 0x682e6ff3, 0x748f82ee, 0x78a5636f, 0x84c87814, 0x8cc70208, 0x90befffa, 0xa4506ceb, 0xbef9a3f7, 0xc67178f2]
/-- Four bytes as a word. -/
def wrd (m : List UInt8) (t : Nat) : Nat := (m.getD (4 * t) 0).toNat * 16777216 + (m.getD (4 * t + 1) 0).toNat * 65536 + (m.getD (4 * t + 2) 0).toNat * 256 + (m.getD (4 * t + 3) 0).toNat
def sml (x : Nat) : Nat := rot x 7 ^^^ rot x 18 ^^^ x / 8
def smr (y : Nat) : Nat := rot y 17 ^^^ rot y 19 ^^^ y / 1024
/-- The word behind t of them. -/
def nxt (w : List Nat) : Nat := (w.getD (w.length - 16) 0 + w.getD (w.length - 7) 0 + sml (w.getD (w.length - 15) 0) + smr (w.getD (w.length - 2) 0)) % 4294967296
def sched : Nat → List Nat → List Nat
  | 0, w => w
  | n + 1, w => sched n (w ++ [nxt w])
def words (m : List UInt8) : List Nat := sched 48 ((List.range 16).map (wrd m))
/-- One round. -/
structure S8 where
  a : Nat
  b : Nat
  c : Nat
  d : Nat
  e : Nat
  f : Nat
  g : Nat
  h : Nat
def S8.l (s : S8) : List Nat := [s.a, s.b, s.c, s.d, s.e, s.f, s.g, s.h]
def one (s : S8) (k w : Nat) : Nat := (s.h + (rot s.e 6 ^^^ rot s.e 11 ^^^ rot s.e 25) + (s.e &&& s.f ||| (4294967295 - s.e) &&& s.g) + k + w) % 4294967296
def two (s : S8) : Nat := ((rot s.a 2 ^^^ rot s.a 13 ^^^ rot s.a 22) + (s.a &&& s.b ||| s.a &&& s.c ||| s.b &&& s.c)) % 4294967296
def rnd (s : S8) (k w : Nat) : S8 := ⟨(one s k w + two s) % 4294967296, s.a, s.b, s.c, (s.d + one s k w) % 4294967296, s.e, s.f, s.g⟩
def rnds : List (Nat × Nat) → S8 → S8
  | [], s => s
  | (k, w) :: r, s => rnds r (rnd s k w)
def addS (s v : S8) : S8 := ⟨(s.a + v.a) % 4294967296, (s.b + v.b) % 4294967296, (s.c + v.c) % 4294967296, (s.d + v.d) % 4294967296, (s.e + v.e) % 4294967296, (s.f + v.f) % 4294967296, (s.g + v.g) % 4294967296, (s.h + v.h) % 4294967296⟩
def blk (s : S8) (m : List UInt8) : S8 := addS s (rnds (rounds.zip (words m)) s)
def start : S8 := ⟨0x6a09e667, 0xbb67ae85, 0x3c6ef372, 0xa54ff53a, 0x510e527f, 0x9b05688c, 0x1f83d9ab, 0x5be0cd19⟩
def be8 (n : Nat) : List UInt8 := [56, 48, 40, 32, 24, 16, 8, 0].map fun k => UInt8.ofNat (n / 2 ^ k)
/-- What is filled up. -/
def fill (b : List UInt8) : List UInt8 := b ++ [128] ++ List.replicate ((119 - b.length % 64) % 64) 0 ++ be8 (b.length * 8)
/-- Something done with each 64 bytes. -/
def each64 {α : Type} (f : α → List UInt8 → α) : Nat → List UInt8 → α → α
  | 0, _, s => s
  | n + 1, m, s => each64 f n (m.drop 64) (f s (m.take 64))
theorem each64_succ {α : Type} (f : α → List UInt8 → α) (n : Nat) (m : List UInt8) (s : α) : each64 f (n + 1) m s = each64 f n (m.drop 64) (f s (m.take 64)) := rfl
def blks (n : Nat) (m : List UInt8) (s : S8) : S8 := each64 blk n m s
def wbytes (n : Nat) : List UInt8 := [UInt8.ofNat (n / 16777216), UInt8.ofNat (n / 65536), UInt8.ofNat (n / 256), UInt8.ofNat n]
def out (s : S8) : List UInt8 := s.l.flatMap wbytes
def sum (b : List UInt8) : List UInt8 := out (blks ((fill b).length / 64) (fill b) start)
def hexD (n : Nat) : UInt8 := if n < 10 then UInt8.ofNat (48 + n) else UInt8.ofNat (87 + n)
def hex (b : List UInt8) : List UInt8 := b.flatMap fun c => [hexD (c.toNat / 16), hexD (c.toNat % 16)]
theorem sum_abc : hex (sum [97, 98, 99]) = "ba7816bf8f01cfea414140de5dae2223b00361a396177a9cb410ff61f20015ad".toUTF8.toList := by kernel_rfl
theorem sum_none : hex (sum []) = "e3b0c44298fc1c149afbf4c8996fb92427ae41e4649b934ca495991b7852b855".toUTF8.toList := by kernel_rfl
def withB (k : List UInt8) (n : UInt8) : List UInt8 := k.map (· ^^^ n)
def key64 (key : List UInt8) : List UInt8 := let k := if 64 < key.length then sum key else key; k ++ List.replicate (64 - k.length) 0
def mac (key b : List UInt8) : List UInt8 := sum (withB (key64 key) 92 ++ sum (withB (key64 key) 54 ++ b))
theorem mac_jefe : hex ((mac "Jefe".toUTF8.toList "what do ya want for nothing?".toUTF8.toList).take 4) = "5bdcc146".toUTF8.toList := by kernel_rfl
theorem rot_lt {x n : Nat} (h : x < 4294967296) : rot x n < 4294967296 := by
  unfold rot
  exact Nat.or_lt_two_pow (n := 32) (Nat.lt_of_le_of_lt (Nat.div_le_self _ _) h) (Nat.mod_lt _ (by decide))
theorem sml_lt {x : Nat} (h : x < 4294967296) : sml x < 4294967296 := Nat.xor_lt_two_pow (n := 32) (Nat.xor_lt_two_pow (n := 32) (rot_lt h) (rot_lt h)) (by omega)
theorem smr_lt {x : Nat} (h : x < 4294967296) : smr x < 4294967296 := Nat.xor_lt_two_pow (n := 32) (Nat.xor_lt_two_pow (n := 32) (rot_lt h) (rot_lt h)) (by omega)
end Go.Dg

namespace Go.Proofs
open Go.RowKit Go.Wi Go.Dg
set_option maxRecDepth 20000 in
theorem Tryz.turned_any (x n : Nat) (hx : x < 4294967296) (hn : n ≤ 32) (w : World) :
    Calls Tryz.prog 98 #[.int .u32 (x : Int), .int .i64 (n : Int)] w fun e w' => e = .returned (.int .u32 ((rot x n : Nat) : Int)) ∧ ∃ m, w' = w.drewN m := by
  have h1 : ¬ (n : Int) < 0 := by omega
  have h2 : ¬ 32 - (n : Int) < 0 := by omega
  go_enter Tryz.func98, Tryz.ntmps98
  go_wp2
  go_quiet (fail)
  all_goals go_wp2
  all_goals go_ret
  refine ⟨?_, _, rfl⟩
  have h3 := u32_or_nat (x / 2 ^ n) (x * 2 ^ (32 - n) % 4294967296) (Nat.lt_of_le_of_lt (Nat.div_le_self _ _) hx) (Nat.mod_lt _ (by decide))
  have e1 : ((x / 2 ^ n : Nat) : Int) = (x : Int) / 2 ^ n := by rw [Int.natCast_ediv, Int.natCast_pow]; rfl
  have e2 : ((x * 2 ^ (32 - n) % 4294967296 : Nat) : Int) = (x : Int) * 2 ^ (32 - n) % 4294967296 := by rw [Int.natCast_emod, Int.natCast_mul, Int.natCast_pow]; rfl
  rw [e1, e2] at h3
  show Ending.returned (.int .u32 _) = _
  rw [h3]
  rfl
/-- Words in a block. -/
def Dg.Ar (T : TypeId) (w : World) (g : Nat) (l : List Nat) : Prop := w.heap[g]? = some (.cells (l.map fun (n : Nat) => Value.int .u32 (n : Int)).toArray T (0, 0))
theorem Dg.Ar.cell {T : TypeId} {w : World} {g : Nat} {l : List Nat} (h : Dg.Ar T w g l) {i : Nat} (hi : i < l.length) : w.cell? ⟨g, i, none⟩ = some (.int .u32 (l[i] : Int)) := by
  rw [cell_of_row _ _ _ _ _ _ h]
  simp [hi]
theorem Dg.Ar.frozen {T : TypeId} {w : World} {g : Nat} {l : List Nat} (h : Dg.Ar T w g l) (i : Nat) : w.frozen? ⟨g, i, none⟩ = false := by
  simp [World.frozen?, show w.heap[g]? = _ from h]
theorem Dg.Ar.set {T : TypeId} {w : World} {g : Nat} {l : List Nat} (h : Dg.Ar T w g l) (i v : Nat) : Dg.Ar T (w.setCell ⟨g, i, none⟩ (.int .u32 (v : Int))) g (l.set i v) := by
  obtain ⟨hlt, hk⟩ := Array.getElem?_eq_some_iff.1 h
  show (w.heap.modify g _)[g]? = _
  rw [Array.getElem?_eq_getElem (by rw [Array.size_modify]; exact hlt), Array.getElem_modify_self, hk]
  simp [List.map_set]
theorem Dg.Ar.keep {T : TypeId} {w w' : World} {g : Nat} {l : List Nat} (h : Dg.Ar T w g l) (e : w'.heap[g]? = w.heap[g]?) : Dg.Ar T w' g l := e.trans h
end Go.Proofs

namespace Go.Dg
open Go.Proofs
theorem wrd_bits (a b c d : Nat) (ha : a < 256) (hb : b < 256) (hc : c < 256) (hd : d < 256) :
    IntKind.u32.wrap (IntKind.u32.wrap (IntKind.u32.wrap (IntKind.u32.wrap (IntKind.u32.wrap (a : Int) * 16777216) + IntKind.u32.wrap (IntKind.u32.wrap (b : Int) * 65536)) + IntKind.u32.wrap (IntKind.u32.wrap (c : Int) * 256)) + IntKind.u32.wrap (d : Int)) = ((a * 16777216 + b * 65536 + c * 256 + d : Nat) : Int) := by
  simp only [IntKind.wrap_u32]
  omega
theorem getD_bytes (m : ByteArray) (i : Nat) (h : i < m.size) : m.toList.getD i 0 = m[i] := by
  rw [ByteArray.toList_eq]
  have h2 : i < m.data.toList.length := h
  rw [List.getD_eq_getElem?_getD, List.getElem?_eq_getElem h2]
  rfl
theorem sched_snoc : ∀ (n : Nat) (w : List Nat), sched (n + 1) w = sched n w ++ [nxt (sched n w)]
  | 0, w => rfl
  | n + 1, w => by
    show sched (n + 1) (w ++ [nxt w]) = sched n (w ++ [nxt w]) ++ [nxt (sched n (w ++ [nxt w]))]
    rw [sched_snoc n]
theorem sched_len : ∀ (n : Nat) (w : List Nat), (sched n w).length = w.length + n
  | 0, w => rfl
  | n + 1, w => by
    show (sched n (w ++ [nxt w])).length = _
    rw [sched_len n, List.length_append]
    simp
    omega
def Small (l : List Nat) : Prop := ∀ n ∈ l, n < 4294967296
theorem Small.set {l : List Nat} (h : Small l) (i : Nat) {v : Nat} (hv : v < 4294967296) : Small (l.set i v) := fun n hn => by
  rcases List.mem_or_eq_of_mem_set hn with h1 | h1
  · exact h n h1
  · rw [h1]; exact hv
theorem Small.get {l : List Nat} (h : Small l) {i : Nat} (hi : i < l.length) : l[i] < 4294967296 := h _ (List.getElem_mem hi)
theorem take_set {l : List Nat} {t v : Nat} (ht : t < l.length) : (l.set t v).take (t + 1) = l.take t ++ [v] := by
  rw [List.take_add_one, List.take_set_of_le (Nat.le_refl _)]
  simp [ht]
theorem take_getD {l : List Nat} {t i : Nat} (hi : i < t) (ht : t ≤ l.length) : (l.take t).getD i 0 = l[i]'(by omega) := by
  rw [List.getD_eq_getElem?_getD, List.getElem?_take, if_pos hi, List.getElem?_eq_getElem (by omega)]
  rfl
theorem xor3 {a b c : Nat} (ha : a < 4294967296) (hb : b < 4294967296) (hc : c < 4294967296) : bits .xor .u32 (bits .xor .u32 (a : Int) (b : Int)) (c : Int) = ((a ^^^ b ^^^ c : Nat) : Int) := by
  rw [u32_xor_nat a b ha hb, u32_xor_nat _ c (Nat.xor_lt_two_pow (n := 32) ha hb) hc]
theorem nxt_bits {A B X Y : Nat} (_hA : A < 4294967296) (_hB : B < 4294967296) (hX : X < 4294967296) (hY : Y < 4294967296) :
    IntKind.u32.wrap (IntKind.u32.wrap (IntKind.u32.wrap ((A : Int) + (B : Int)) + bits .xor .u32 (bits .xor .u32 ((rot X 7 : Nat) : Int) ((rot X 18 : Nat) : Int)) ((X : Int) / 8)) + bits .xor .u32 (bits .xor .u32 ((rot Y 17 : Nat) : Int) ((rot Y 19 : Nat) : Int)) ((Y : Int) / 1024)) = (((A + B + sml X + smr Y) % 4294967296 : Nat) : Int) := by
  have h1 := xor3 (c := X / 8) (rot_lt (n := 7) hX) (rot_lt (n := 18) hX) (by omega)
  have h2 := xor3 (c := Y / 1024) (rot_lt (n := 17) hY) (rot_lt (n := 19) hY) (by omega)
  rw [Int.natCast_ediv] at h1 h2
  have e1 : (rot X 7 ^^^ rot X 18 ^^^ X / 8) = sml X := rfl
  have e2 : (rot Y 17 ^^^ rot Y 19 ^^^ Y / 1024) = smr Y := rfl
  rw [e1] at h1
  rw [e2] at h2
  have f1 : ((8 : Nat) : Int) = 8 := rfl
  have f2 : ((1024 : Nat) : Int) = 1024 := rfl
  rw [f1] at h1
  rw [f2] at h2
  rw [h1, h2]
  simp only [IntKind.wrap_u32]
  omega
theorem small_rounds : Small rounds := by
  intro n hn
  have h : rounds.all (fun n => decide (n < 4294967296)) = true := by kernel_rfl
  exact of_decide_eq_true (List.all_eq_true.1 h n hn)
end Go.Dg
namespace Go.Dg
theorem rnds_snoc : ∀ (l : List (Nat × Nat)) (k w : Nat) (s : S8), rnds (l ++ [(k, w)]) s = rnd (rnds l s) k w
  | [], _, _, _ => rfl
  | (_, _) :: r, k, w, _s => rnds_snoc r k w _
theorem zip_take {a b : List Nat} {t : Nat} (ha : t < a.length) (hb : t < b.length) : (a.zip b).take (t + 1) = (a.zip b).take t ++ [(a[t], b[t])] := by
  have h : t < (a.zip b).length := by rw [List.length_zip]; omega
  rw [List.take_add_one, List.getElem?_eq_getElem h, List.getElem_zip]
  rfl
theorem rnd_small {s : S8} (h : Small s.l) (k w : Nat) : Small (rnd s k w).l := fun n hn => by
  have h1 : ∀ x ∈ s.l, x < 4294967296 := h
  simp only [rnd, S8.l, List.mem_cons, List.not_mem_nil, or_false] at hn h1
  rcases hn with rfl | rfl | rfl | rfl | rfl | rfl | rfl | rfl
  · exact Nat.mod_lt _ (by decide)
  · exact h1 _ (by simp)
  · exact h1 _ (by simp)
  · exact h1 _ (by simp)
  · exact Nat.mod_lt _ (by decide)
  · exact h1 _ (by simp)
  · exact h1 _ (by simp)
  · exact h1 _ (by simp)
theorem S8.lt {s : S8} (h : Small s.l) : s.a < 4294967296 ∧ s.b < 4294967296 ∧ s.c < 4294967296 ∧ s.d < 4294967296 ∧ s.e < 4294967296 ∧ s.f < 4294967296 ∧ s.g < 4294967296 ∧ s.h < 4294967296 :=
  ⟨h _ (by simp [S8.l]), h _ (by simp [S8.l]), h _ (by simp [S8.l]), h _ (by simp [S8.l]), h _ (by simp [S8.l]), h _ (by simp [S8.l]), h _ (by simp [S8.l]), h _ (by simp [S8.l])⟩
end Go.Dg
namespace Go.Dg
open Go.Proofs
theorem and_lt {a b : Nat} (hb : b < 4294967296) : a &&& b < 4294967296 := Nat.and_lt_two_pow (n := 32) _ hb
theorem or_lt {a b : Nat} (ha : a < 4294967296) (hb : b < 4294967296) : a ||| b < 4294967296 := Nat.or_lt_two_pow (n := 32) ha hb
theorem not_bits {c : Nat} (hc : c < 4294967296) : bits .xor .u32 (if IntKind.u32.signed = true then -1 else IntKind.u32.max) (c : Int) = ((4294967295 - c : Nat) : Int) := by
  have h := u32_xor_nat 4294967295 c (by decide) hc
  have e1 : (if IntKind.u32.signed = true then -1 else IntKind.u32.max) = ((4294967295 : Nat) : Int) := rfl
  have e2 : 4294967295 ^^^ c = 4294967295 - c := by
    apply Nat.eq_of_testBit_eq
    intro i
    rw [Nat.testBit_xor, show (4294967295 : Nat) - c = 2 ^ 32 - (c + 1) by omega, Nat.testBit_two_pow_sub_succ hc, show (4294967295 : Nat) = 2 ^ 32 - 1 by decide, Nat.testBit_two_pow_sub_one]
    by_cases hi : i < 32
    · simp [hi]
    · have : c.testBit i = false := Nat.testBit_lt_two_pow (Nat.lt_of_lt_of_le hc (Nat.pow_le_pow_right (n := 2) (by decide) (Nat.le_of_not_lt hi)))
      simp [hi, this]
  rw [e1, h, e2]
theorem one_bits {s : S8} (h : Small s.l) {k w : Nat} :
    (((s.h : Int) + bits .xor .u32 (bits .xor .u32 ((rot s.e 6 : Nat) : Int) ((rot s.e 11 : Nat) : Int)) ((rot s.e 25 : Nat) : Int) + bits .or .u32 (bits .and .u32 (s.e : Int) (s.f : Int)) (bits .and .u32 (bits .xor .u32 (if IntKind.u32.signed = true then -1 else IntKind.u32.max) (s.e : Int)) (s.g : Int)) + (k : Int)) % 4294967296 + (w : Int)) % 4294967296 = ((one s k w : Nat) : Int) := by
  obtain ⟨l0, l1, l2, l3, l4, l5, l6, l7⟩ := S8.lt h
  rw [xor3 (rot_lt l4) (rot_lt l4) (rot_lt l4), not_bits l4, u32_and_nat _ _ l4 l5, u32_and_nat _ _ (by omega) l6, u32_or_nat _ _ (and_lt l5) (and_lt l6)]
  unfold one
  omega
theorem two_bits {s : S8} (h : Small s.l) :
    (bits .xor .u32 (bits .xor .u32 ((rot s.a 2 : Nat) : Int) ((rot s.a 13 : Nat) : Int)) ((rot s.a 22 : Nat) : Int) + bits .or .u32 (bits .or .u32 (bits .and .u32 (s.a : Int) (s.b : Int)) (bits .and .u32 (s.a : Int) (s.c : Int))) (bits .and .u32 (s.b : Int) (s.c : Int))) % 4294967296 = ((two s : Nat) : Int) := by
  obtain ⟨l0, l1, l2, l3, l4, l5, l6, l7⟩ := S8.lt h
  rw [xor3 (rot_lt l0) (rot_lt l0) (rot_lt l0), u32_and_nat _ _ l0 l1, u32_and_nat _ _ l0 l2, u32_and_nat _ _ l1 l2, u32_or_nat _ _ (and_lt l1) (and_lt l2), u32_or_nat _ _ (or_lt (and_lt l1) (and_lt l2)) (and_lt l2)]
  unfold two
  omega
end Go.Dg
namespace Go.Dg
theorem set8 (a b c d e f g h : Nat) : ∀ (r : List Nat), r.length = 8 → (((((((r.set 0 a).set 1 b).set 2 c).set 3 d).set 4 e).set 5 f).set 6 g).set 7 h = [a, b, c, d, e, f, g, h]
  | [_, _, _, _, _, _, _, _], _ => rfl
  | [], hl | [_], hl | [_, _], hl | [_, _, _], hl | [_, _, _, _], hl | [_, _, _, _, _], hl | [_, _, _, _, _, _], hl | [_, _, _, _, _, _, _], hl => by simp at hl
  | _ :: _ :: _ :: _ :: _ :: _ :: _ :: _ :: _ :: _, hl => by simp at hl
end Go.Dg
