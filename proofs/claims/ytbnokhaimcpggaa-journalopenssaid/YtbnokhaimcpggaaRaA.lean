/-
  Laid together by packg.py of OaA OaB OaC OaD OaE.
-/
import Derived.Test.YtbnokhaimcpggaaDyB
import Derived.Test.YtbnokhaimcpggaaEb
import Derived.Test.YtbnokhaimcpggaaEa
import Derived.Laws.BitsAllLaws
import Derived.Deep.AppendLies
import Derived.Deep.DeepCutAuto
namespace Go.Proofs
open Go.RowKit Go.Dk
theorem Try.xHalf_any {w : World} {x : Nat} {Lv Wv : Value} {left k t : Int} {s : DS} (h : Try.Rfm w x Lv Wv left k t s) (h2 : 2 ≤ s.n) :
    Calls Try.prog 68 #[.pointer (some ⟨x, 0, none⟩)] w fun e w' => e = .returned (.int .i64 (half s.n : Nat)) ∧ w' = w := by
  have h1 := Try.rBlocks_any h
  have hn := h.n1
  have q0 : (((s.n : Nat) : Int) - 2).tdiv 2 = ((half s.n : Nat) : Int) := by
    unfold half
    rw [show ((s.n : Nat) : Int) - 2 = ((s.n - 2 : Nat) : Int) by omega]
    exact (Int.ofNat_tdiv _ 2).symm
  have hH : half s.n ≤ 2047 := by unfold half; omega
  have q1 : wrap64 ((half s.n : Nat) : Int) = ((half s.n : Nat) : Int) := by unfold wrap64; omega
  generalize half s.n = H at *
  generalize s.n = n at *
  clear h hH
  go_enter Try.func68, Try.ntmps68
  go_wp2_with (first
    | (go_at_call 8; refine h1.mono ?_; clear h1; rintro e w5 ⟨rfl, e5⟩; have e6 := e5.symm; clear e5; subst e6)
    | fail)
  go_ret
  exact ⟨by simp [q1], rfl⟩
theorem Try.xBlock_any {w : World} {x : Nat} {Lv Wv : Value} {left k t : Int} {s : DS} (h : Try.Rfm w x Lv Wv left k t s) (h2 : 2 ≤ s.n) (side : Nat) (hs : side ≤ 1) (p : Nat) (hp : p < 1000000000) :
    Calls Try.prog 84 #[.pointer (some ⟨x, 0, none⟩), .int .i64 side, .int .i64 p] w fun e w' => e = .returned (.int .i64 (ablk s.n side p : Nat)) ∧ w' = w := by
  have h1 := Try.xHalf_any h h2
  have hn := h.n1
  have hH : half s.n ≤ 2047 := by unfold half; omega
  have hA : (ablk s.n side p : Int) = 2 + (side : Int) * (half s.n : Int) + ((p / 64 : Nat) : Int) := by unfold ablk; push_cast; rfl
  rw [hA]
  have q0 : (p : Int).tdiv 64 = ((p / 64 : Nat) : Int) := (Int.ofNat_tdiv p 64).symm
  have q9 : (p : Int) / 64 = ((p / 64 : Nat) : Int) := by omega
  generalize half s.n = H at *
  generalize hP : p / 64 = P at *
  have hP2 : P < 1000000000 := by omega
  have hsw : side = 0 ∨ side = 1 := by omega
  have hmul : 0 ≤ (side : Int) * (H : Int) ∧ (side : Int) * (H : Int) ≤ 2047 := by rcases hsw with rfl | rfl <;> simp <;> omega
  generalize hM : (side : Int) * (H : Int) = M at *
  clear hP hsw h hA hH
  have wM : wrap64 M = M := by unfold wrap64; omega
  have wP : wrap64 (P : Int) = P := by unfold wrap64; omega
  have w2M : wrap64 (2 + M) = 2 + M := by unfold wrap64; omega
  have wA : wrap64 (2 + M + P) = 2 + M + P := by unfold wrap64; omega
  go_enter Try.func84, Try.ntmps84
  go_wp2_with (first
    | (go_at_call 68; refine h1.mono ?_; clear h1; rintro e w5 ⟨rfl, e5⟩; have e6 := e5.symm; clear e5; subst e6)
    | fail)
  go_ret
  exact ⟨rfl, rfl⟩
theorem Dk.xor64 (a b : Nat) (ha : a < 4294967296) (hb : b < 4294967296) : bits .xor .i64 (a : Int) (b : Int) = ((a ^^^ b : Nat) : Int) := by
  have hx : a ^^^ b < 2 ^ 32 := Nat.xor_lt_two_pow (by omega) (by omega)
  show IntKind.i64.wrap ((BitVec.ofInt 64 (a : Int) ^^^ BitVec.ofInt 64 (b : Int)).toNat : Int) = _
  have h1 : (BitVec.ofInt 64 (a : Int)).toNat = a := by rw [BitVec.toNat_ofInt]; omega
  have h2 : (BitVec.ofInt 64 (b : Int)).toNat = b := by rw [BitVec.toNat_ofInt]; omega
  rw [BitVec.toNat_xor, h1, h2, IntKind.wrap_i64]
  omega
theorem Dk.fnv64 (a : Nat) (c : UInt8) (ha : a < 4294967296) : (wrap64 (bits .xor .i64 (a : Int) (wrap64 (c.toNat : Int)) * 16777619)).tmod 4294967296 = ((fnvB a c : Nat) : Int) := by
  have hc := c.toNat_lt
  have hx : a ^^^ c.toNat < 2 ^ 32 := Nat.xor_lt_two_pow (by omega) (by omega)
  have e1 : wrap64 (c.toNat : Int) = (c.toNat : Int) := by unfold wrap64; omega
  rw [e1, Dk.xor64 a c.toNat ha (by omega)]
  unfold fnvB
  generalize a ^^^ c.toNat = X at *
  have e2 : wrap64 ((X : Int) * 16777619) = ((X * 16777619 : Nat) : Int) := by unfold wrap64; omega
  rw [e2]
  exact (Int.ofNat_tmod _ 4294967296).symm
theorem Try.xSum_any (w : World) (b : ByteArray) (hb : b.size < 1000000000) :
    Calls Try.prog 86 #[.string b] w fun e w' => e = .returned (.int .i64 (fnv b.data.toList : Nat)) ∧ w' = w := by
  go_enter Try.func86, Try.ntmps86
  go_wp2
  go_loopw [3, 4] (fun s i wr => ∃ k : Nat, k ≤ b.size ∧ i = .int .i64 k ∧ s = .int .i64 (fnv (b.data.toList.take k) : Nat) ∧ wr = w) (fun _ i _ => b.size - (intOf i).toNat)
  case atStart => exact ⟨0, by omega, rfl, by simp [fnv], rfl⟩
  case round =>
    obtain ⟨k, hk, rfl, rfl, rfl⟩ := hrel
    by_cases hkm : k < b.size
    · have q0 : (k : Int) < (b.size : Int) := by omega
      have hx := Dk.fnv64 (fnv (b.data.toList.take k)) b[k] (fnv_lt _)
      have hsn : fnv (b.data.toList.take (k + 1)) = fnvB (fnv (b.data.toList.take k)) b[k] := by
        rw [← fnv_snoc, show b[k] = b.data.toList[k]'(by simpa using hkm) from rfl, List.take_append_getElem]
      rw [← hsn] at hx
      have Hx : Hid _ := hx
      clear hx hsn
      go_wp2
      go_roundw
      case rel => exact ⟨k + 1, by omega, by go_num, by rw [Hx.out], trivial⟩
      case measure => simp [intOf]; omega
    · have q0 : ¬ (k : Int) < (b.size : Int) := by omega
      have hkk : k = b.size := by omega
      subst hkk
      have hl : b.data.toList.take b.size = b.data.toList := List.take_of_length_le (Nat.le_refl _)
      rw [hl]
      clear hl
      go_wp2
      go_ret
      exact ⟨rfl, rfl⟩
end Go.Proofs
namespace Go.Proofs
open Go.RowKit Go.Dk
theorem Dk.num_cons (b : List UInt8) (k : Nat) (h : k < b.length) : num (b.drop k) = b[k].toNat + 256 * num (b.drop (k + 1)) := by
  rw [List.drop_eq_getElem_cons h]; rfl
theorem Try.xNumber_any (w : World) (b : ByteArray) (hb : b.size ≤ 4) :
    Calls Try.prog 85 #[.string b] w fun e w' => e = .returned (.int .i64 (num b.data.toList : Nat)) ∧ w' = w := by
  go_enter Try.func85, Try.ntmps85
  go_wp2
  go_loopw [3, 4] (fun s i wr => ∃ k : Nat, k ≤ b.size ∧ i = .int .i64 ((k : Int) - 1) ∧ s = .int .i64 (num (b.data.toList.drop k) : Nat) ∧ wr = w) (fun _ i _ => (intOf i + 1).toNat)
  case atStart =>
    refine ⟨b.size, by omega, by go_num, ?_, rfl⟩
    rw [show b.data.toList.drop b.size = [] from List.drop_eq_nil_of_le (Nat.le_refl _)]
    rfl
  case round =>
    obtain ⟨k, hk, rfl, rfl, rfl⟩ := hrel
    by_cases hkm : 0 < k
    · obtain ⟨m, rfl⟩ : ∃ m, k = m + 1 := ⟨k - 1, by omega⟩
      have e0 : ((m + 1 : Nat) : Int) - 1 = (m : Int) := by omega
      rw [e0]
      have q0 : (0 : Int) ≤ (m : Int) := by omega
      have hsn := Dk.num_cons b.data.toList m hk
      have hc := b[m].toNat_lt
      have hnl := num_lt (b.data.toList.drop (m + 1))
      have hp : (256 : Nat) ^ (b.data.toList.drop (m + 1)).length ≤ 256 ^ 4 := Nat.pow_le_pow_right (by decide) (by rw [List.length_drop]; show b.size - (m + 1) ≤ 4; omega)
      have hq : wrap64 (wrap64 (256 * (num (b.data.toList.drop (m + 1)) : Int)) + wrap64 (b[m].toNat : Int)) = ((num (b.data.toList.drop m) : Nat) : Int) := by
        rw [hsn]
        show _ = ((b[m].toNat + 256 * num (b.data.toList.drop (m + 1)) : Nat) : Int)
        generalize num (b.data.toList.drop (m + 1)) = X at *
        generalize b[m].toNat = C at *
        unfold wrap64; omega
      have Hq : Hid _ := hq
      clear hq hsn hnl hp hc e0
      go_wp2
      go_roundw
      case rel => exact ⟨m, by omega, by go_num, by rw [Hq.out], trivial⟩
      case measure => simp [intOf]
    · have hk0 : k = 0 := by omega
      subst hk0
      have q0 : ¬ (0 : Int) ≤ ((0 : Nat) : Int) - 1 := by omega
      go_wp2
      go_ret
      exact ⟨by simp, rfl⟩
end Go.Proofs
namespace Go.Dk
theorem le_snoc : ∀ (k n : Nat), le (k + 1) n = le k n ++ [UInt8.ofNat (n / 256 ^ k)]
  | 0, n => by simp [le]
  | k + 1, n => by
    rw [le, le_snoc k (n / 256), le, List.cons_append, Nat.div_div_eq_div_mul, Nat.pow_succ, Nat.mul_comm (256 ^ k) 256]
end Go.Dk
namespace Go.Proofs
open Go.RowKit Go.Dk
/-- A row of bytes as a text. -/
theorem Try.xConv {w : World} {B n : Nat} {V : Value} {b : List UInt8} (h : w.ownsRow B 5 1 V n (Lib.byteCells b)) : (convert 22 9 V).run Try.prog w = .ok (.string ⟨b.toArray⟩) w := by
  have hl := h.1
  rw [Dk.byteCells_len, Nat.mul_one] at hl
  subst hl
  rcases h.2 with ⟨e, e0⟩ | ⟨g, c, cur, e, -⟩
  · obtain rfl := List.eq_nil_of_length_eq_zero e0
    subst e
    exact run_convert_bytes_string (P := Try.prog) w 22 9 5 none 0 0 Try.underlying22 Try.underlying5 Try.underlying9
  · subst e
    refine run_convert_bytes_back (P := Try.prog) w 22 9 5 ⟨g, 0, none⟩ c b Try.underlying22 Try.underlying5 Try.underlying9 (fun j hj => ?_)
    exact h.cells (g := g) rfl j _ (Dk.byteCell hj)
/-- 'append' of one byte. -/
theorem Try.xApp1 {ops : Array Oper} {rest : List Oper} {o : Oper} {a : Act} {Q : Exit → Act → World → Prop} (hgd : o.guard = none) (s y : Operand)
    (ho : o.op = .call { callee := .builtin .append, args := #[s, y], argTypes := #[22, 22] })
    {B : Nat} {w : World} {V : Value} {b : List UInt8} {n : Nat} (hrow : w.ownsRow B 5 1 V n (Lib.byteCells b)) (hB : B ≤ w.heap.size) (hlen : n ≤ 1000000) (x : UInt8) (z : Int) (hz : z = (x.toNat : Int)) (hs : a.eval s = V) (hy : a.eval y = .slice (some ⟨w.heap.size, 0, none⟩) 1 1)
    (hK : ∀ V' w', w'.ownsRow B 5 1 V' (n + 1) (Lib.byteCells (b ++ [x])) → Below B w w' → wpList Try.prog ops Q rest (a.put o.dst V') w') : wpList Try.prog ops Q (o :: rest) a (w.alloc (.cells #[.int .u8 z] 5)) := by
  subst hz
  obtain ⟨i0, hi0, hz0, hz1, hz2⟩ := info_parts Try.info_u8
  have hb : Below B w (w.alloc (.cells #[.int .u8 (x.toNat : Int)] 5)) := (Below.refl B w).alloc hB _
  have hb2 : Below w.heap.size w (w.alloc (.cells #[.int .u8 (x.toNat : Int)] 5)) := (Below.refl _ w).alloc (Nat.le_refl _) _
  have hrow1 := Dk.row_heap hrow fun k e => hb2.block k (hrow.lt k e).2
  have hsz : (w.alloc (.cells #[.int .u8 (x.toNat : Int)] 5)).heap.size = w.heap.size + 1 := by simp
  refine wpList_append_lies _ hgd s y 22 ho B 5 i0 _ 1 1 Try.underlying22 hi0 hz0 hz1 hz2 rfl (by omega) V n _ hs hrow1 ⟨w.heap.size, 0, none⟩ 1 1 [.int .u8 (x.toNat : Int)] hy rfl (World.news_of_block (heap_alloc_new w _)) (by simp [Value.oneCell']) (by omega) (by unfold maxLen; omega) (by omega) (by omega) _ rfl ?_
  intro g cap w' h1 h2 h3 h4
  have e : Lib.byteCells b ++ [.int .u8 (x.toNat : Int)] = Lib.byteCells (b ++ [x]) := by simp [Lib.byteCells]
  rw [e] at h1
  exact hK _ w' h1 (hb.grown h2 (by omega) fun k e1 => (hrow.lt k e1).1)
set_option maxHeartbeats 2000000 in
theorem Try.xLittle_any (w : World) (n : Nat) (hn : n < 9223372036854775807) (m : Nat) (hm : m ≤ 8) :
    Calls Try.prog 90 #[.int .i64 n, .int .i64 m] w fun e w' => e = .returned (.string ⟨(le m n).toArray⟩) ∧ Below w.heap.size w w' := by
  go_enter Try.func90, Try.ntmps90
  go_upto_region 3 with fail
  go_loopw [0, 5, 6] (fun q v i wr => ∃ k : Nat, k ≤ m ∧ q = .int .i64 (n / 256 ^ k : Nat) ∧ i = .int .i64 (k : Nat) ∧ wr.ownsRow w.heap.size 5 1 v k (Lib.byteCells (le k n)) ∧ Below w.heap.size w wr) (fun _ _ i _ => m - (intOf i).toNat)
  case atStart => exact ⟨0, by omega, by simp, rfl, World.ownsRow_nil _ _ _ _, Below.refl _ _⟩
  case round =>
    obtain ⟨k, hk, rfl, rfl, hrow, hb⟩ := hrel
    by_cases hkm : k < m
    · have q0 : (k : Int) < (m : Int) := by omega
      obtain ⟨X, hX⟩ : ∃ X, X = n / 256 ^ k := ⟨_, rfl⟩
      obtain ⟨Y, hY⟩ : ∃ Y, Y = n / 256 ^ (k + 1) := ⟨_, rfl⟩
      obtain ⟨U, hU⟩ : ∃ U, U = UInt8.ofNat X := ⟨_, rfl⟩
      rw [← hX]
      have hs := le_snoc k n
      rw [← hX, ← hU] at hs
      have hd : X / 256 = Y := by rw [hX, hY, Nat.div_div_eq_div_mul, Nat.pow_succ]
      have hXn : X ≤ n := by rw [hX]; exact Nat.div_le_self _ _
      have q1 : (X : Int).tmod 256 = ((X % 256 : Nat) : Int) := (Int.ofNat_tmod _ 256).symm
      have q2 : (X : Int).tdiv 256 = (Y : Int) := by rw [← hd]; exact (Int.ofNat_tdiv _ 256).symm
      have q3 : ((X % 256 : Nat) : Int) = (U.toNat : Int) := by rw [hU, UInt8.toNat_ofNat']
      have q4 := U.toNat_lt
      have hYn : Y ≤ n := by omega
      have HS : Hid (le (k + 1) n = le k n ++ [U]) := hs
      have HY : Hid (Y = n / 256 ^ (k + 1)) := hY
      have HQ : Hid (((X % 256 : Nat) : Int) = (U.toNat : Int)) := q3
      clear hs hd hX hY hU q3
      go_upto_region 6 with (first
        | (at_builtin; refine Try.xApp1 rfl _ _ rfl hrow hb.size (by omega) U _ (by have := HQ.out; first | omega | (unfold wrap8; omega) | (trace_state; sorry)) rfl rfl ?_; intro V2 w2 hrow2 hb2)
        | fail)
      rw [← HS.out] at hrow2
      have hb3 : Below w.heap.size w w2 := hb.trans hb2
      go_wp2
      go_roundw
      case rel => exact ⟨k + 1, by omega, by rw [← HY.out], by go_num, hrow2, hb3⟩
      case measure => simp [intOf]; omega
    · have q0 : ¬ (k : Int) < (m : Int) := by omega
      have hkk : k = m := by omega
      subst hkk
      have hc := Try.xConv hrow
      go_wp2
      go_ret
      exact ⟨rfl, hb⟩
end Go.Proofs
namespace Go.Proofs
open Go.RowKit Go.Dk
theorem Try.xMakeZ (n : Nat) (hn : n < 1000000) (w : World) : (Instr.makeSlice 22 (.int .i64 n) (.int .i64 n)).run Try.prog w = .ok (.slice (some ⟨w.heap.size, 0, none⟩) n n) (w.alloc (.cells (Lib.byteCells (List.replicate n 0)).toArray 5)) := by
  obtain ⟨i0, hi0, hz0, hz1, hz2⟩ := info_parts Try.info_u8
  have := run_make (P := Try.prog) w 22 5 i0 _ Try.underlying22 hi0 hz0 .i64 .i64 n n (by omega) (by omega) (by rw [hz2]; omega) (by omega)
  rw [this, hz1]
  have e := Dk.made (Z := (Value.int .u8 0).cells) n (.int .u8 0) (by decide) (fun j hj => by
    have : j = 0 := by simp [Value.cells] at hj; omega
    subst this; rfl)
  rw [Dk.zeros] at e
  rw [← e, show ((n : Int)).toNat = n from rfl, Nat.mul_one]
theorem Try.xNoughts_any (w : World) (n : Nat) (hn : n < 1000000) :
    Calls Try.prog 63 #[.int .i64 n] w fun e w' => e = .returned (.string ⟨(List.replicate n (0 : UInt8)).toArray⟩) ∧ Below w.heap.size w w' := by
  have hmk := Try.xMakeZ n hn w
  have hl : (List.replicate n (0 : UInt8)).length = n := List.length_replicate
  have hrow : (w.alloc (.cells (Lib.byteCells (List.replicate n (0 : UInt8))).toArray 5)).ownsRow 0 5 1 (.slice (some ⟨w.heap.size, 0, none⟩) n n) n (Lib.byteCells (List.replicate n (0 : UInt8))) :=
    ⟨by rw [Dk.byteCells_len, hl, Nat.mul_one], .inr ⟨w.heap.size, n, _, rfl, Nat.zero_le _, heap_alloc_new w _, Nat.le_refl _, by unfold maxLen; omega, by simp [Dk.byteCells_len], by rw [List.take_of_length_le (by simp [Dk.byteCells_len])]⟩⟩
  have hcv := Try.xConv hrow
  have hb : Below w.heap.size w (w.alloc (.cells (Lib.byteCells (List.replicate n (0 : UInt8))).toArray 5)) := (Below.refl _ w).alloc (Nat.le_refl _) _
  clear hrow hl
  generalize Lib.byteCells (List.replicate n (0 : UInt8)) = C at *
  go_enter Try.func63, Try.ntmps63
  go_wp2
  go_ret
  exact ⟨rfl, hb⟩
/-- The head's bytes, whatever its first byte. -/
def Dk.headB (first side gen : Nat) (snap : List UInt8) : List UInt8 := le 1 first ++ [111, 99, 115, 105, 110] ++ le 1 side ++ [0] ++ le 4 gen ++ le 4 snap.length ++ le 4 (fnv snap) ++ List.replicate 44 0
theorem Dk.strApp (a b : List UInt8) : (⟨a.toArray⟩ : ByteArray) ++ ⟨b.toArray⟩ = ⟨(a ++ b).toArray⟩ := by
  apply ByteArray.ext
  simp
set_option maxHeartbeats 4000000 in
theorem Try.xHead_any (w : World) (first side gen : Nat) (b : ByteArray) (h1 : first < 9223372036854775807) (h2 : side < 9223372036854775807) (h3 : gen < 9223372036854775807) (hb : b.size < 1000000000) :
    Calls Try.prog 89 #[.int .i64 first, .int .i64 side, .int .i64 gen, .string b] w fun e w' => e = .returned (.string ⟨(Dk.headB first side gen b.data.toList).toArray⟩) ∧ Below w.heap.size w w' := by
  have kl := fun (W : World) (n : Nat) (hn : n < 9223372036854775807) (m : Nat) (hm : m ≤ 8) => Try.xLittle_any W n hn m hm
  have kn := fun (W : World) (n : Nat) (hn : n < 1000000) => Try.xNoughts_any W n hn
  have ks := fun (W : World) => Try.xSum_any W b hb
  have hf := fnv_lt b.data.toList
  have z1 := le_len 1 first
  have z2 := le_len 1 side
  have z3 := le_len 4 gen
  have z4 := le_len 4 b.size
  have z5 := le_len 4 (fnv b.data.toList)
  have a1 := kl w first h1 1 (by decide)
  go_enter Try.func89, Try.ntmps89
  go_wp2_with (first
    | (go_at_call 90; refine a1.mono ?_; clear a1; rintro e w1 ⟨rfl, hb1⟩; have a2 := kl w1 side h2 1 (by decide))
    | (go_at_call 90; refine a2.mono ?_; clear a2; rintro e w2 ⟨rfl, hb2⟩; have a3 := kn w2 1 (by decide))
    | (go_at_call 63; refine a3.mono ?_; clear a3; rintro e w3 ⟨rfl, hb3⟩; have a4 := kl w3 gen h3 4 (by decide))
    | (go_at_call 90; refine a4.mono ?_; clear a4; rintro e w4 ⟨rfl, hb4⟩; have a5 := kl w4 b.size (by omega) 4 (by decide))
    | (go_at_call 90; refine a5.mono ?_; clear a5; rintro e w5 ⟨rfl, hb5⟩; have a6 := ks w5)
    | (go_at_call 86; refine a6.mono ?_; clear a6; rintro e w6 ⟨rfl, e6⟩; have e7 := e6.symm; clear e6; subst e7; have a7 := kl w5 (fnv b.data.toList) (by omega) 4 (by decide))
    | (go_at_call 90; refine a7.mono ?_; clear a7; rintro e w7 ⟨rfl, hb7⟩; have a8 := kn w7 44 (by decide))
    | (go_at_call 63; refine a8.mono ?_; clear a8; rintro e w8 ⟨rfl, hb8⟩)
    | fail)
  clear kl kn ks
  have hB : Below w.heap.size w w8 := hb1.trans ((hb2.trans ((hb3.trans ((hb4.trans ((hb5.trans ((hb7.trans (hb8.mono hb7.size)).mono hb5.size)).mono hb4.size)).mono hb3.size)).mono hb2.size)).mono hb1.size)
  go_ret
  refine ⟨?_, hB⟩
  have e : ∀ X Y : ByteArray, X = Y → Ending.returned (.string X) = Ending.returned (.string Y) := fun X Y h => by rw [h]
  refine e _ _ ?_
  apply ByteArray.ext
  have hsz : b.data.toList.length = b.size := rfl
  simp [Dk.headB, List.replicate]
end Go.Proofs
namespace Go.Proofs
open Go.RowKit Go.Dk
def Try.RecOk (row : List UInt8) (p : Nat) (e : Ending) : Prop := ∃ (D : ByteArray) (t : Bool), e = .returned (.tuple #[.string D, .bool t]) ∧ ((t = false ∧ recAt row p = none) ∨ (t = true ∧ recAt row p = some D.data.toList))
theorem Dk.extr (b : ByteArray) (i j : Nat) : (b.extract i j).data.toList = (b.data.toList.drop i).take (j - i) := by
  simp [ByteArray.data_extract, Array.toList_extract, List.extract_eq_take_drop]
set_option maxHeartbeats 4000000 in
theorem Try.xRecord_any (w : World) (b : ByteArray) (hb : b.size < 1000000) (p : Nat) (hp : p < 1000000) :
    Calls Try.prog 61 #[.string b, .int .i64 p] w fun e w' => Try.RecOk b.data.toList p e ∧ Below w.heap.size w w' := by
  have hl : b.data.toList.length = b.size := rfl
  by_cases h1 : b.size ≤ p + 7
  · have q1 : (b.size : Int) ≤ (p : Int) + 7 := by omega
    have hr : recAt b.data.toList p = none := by
      unfold recAt
      rw [if_pos (.inl (by omega))]
    have Hr : Hid _ := hr
    clear hr hl
    go_enter Try.func61, Try.ntmps61
    go_wp2_with fail
    go_ret2
    exact ⟨⟨_, _, rfl, .inl ⟨rfl, Hr.out⟩⟩, Below.refl _ _⟩
  have q1 : ¬ (b.size : Int) ≤ (p : Int) + 7 := by omega
  have hpl : p < b.size := by omega
  by_cases h2 : b[p] = 1
  · have q2 : (b[p].toNat : Int) = 1 := by rw [h2]; rfl
    have e2 : b.data.toList[p]? = some 1 := by
      rw [List.getElem?_eq_getElem (by omega), show b.data.toList[p]'(by omega) = b[p] from rfl, h2]
    obtain ⟨n, hn⟩ : ∃ n, n = num ((b.data.toList.drop (p + 1)).take 2) := ⟨_, rfl⟩
    obtain ⟨m, hm⟩ : ∃ m, m = num ((b.data.toList.drop (p + 3)).take 4) := ⟨_, rfl⟩
    have k1 := Try.xNumber_any w (b.extract (p + 1) (p + 3)) (by rw [ByteArray.size_extract]; omega)
    have k2 := Try.xNumber_any w (b.extract (p + 3) (p + 7)) (by rw [ByteArray.size_extract]; omega)
    rw [Dk.extr, show p + 3 - (p + 1) = 2 by omega, ← hn] at k1
    rw [Dk.extr, show p + 7 - (p + 3) = 4 by omega, ← hm] at k2
    have hn2 : n < 65536 := by
      have := num_lt ((b.data.toList.drop (p + 1)).take 2)
      have hh : ((b.data.toList.drop (p + 1)).take 2).length ≤ 2 := by simp; omega
      have := Nat.pow_le_pow_right (n := 256) (by decide) hh
      omega
    by_cases h3 : n = 0 ∨ 6000 < n ∨ b.size < p + 7 + n
    · have hr : recAt b.data.toList p = none := by
        unfold recAt
        rw [if_neg (by rw [e2]; simp; omega), if_pos (by rw [← hn]; rw [hl]; exact h3)]
      have Hr : Hid _ := hr
      have H3 : Hid (n = 0 ∨ 6000 < n ∨ b.size < p + 7 + n) := h3
      clear hr hl h3 hn hm e2
      by_cases g1 : (n : Int) < 1
      · go_enter Try.func61, Try.ntmps61
        go_wp2_with (first
          | (go_at_call 85; refine k1.mono ?_; clear k1; rintro e w5 ⟨rfl, e5⟩; have e6 := e5.symm; clear e5; subst e6)
          | fail)
        go_ret2
        exact ⟨⟨_, _, rfl, .inl ⟨rfl, Hr.out⟩⟩, Below.refl _ _⟩
      · by_cases g2 : (6000 : Int) < (n : Int)
        · go_enter Try.func61, Try.ntmps61
          go_wp2_with (first
            | (go_at_call 85; refine k1.mono ?_; clear k1; rintro e w5 ⟨rfl, e5⟩; have e6 := e5.symm; clear e5; subst e6)
            | fail)
          go_ret2
          exact ⟨⟨_, _, rfl, .inl ⟨rfl, Hr.out⟩⟩, Below.refl _ _⟩
        · have g3 : (b.size : Int) < (p : Int) + 7 + (n : Int) := by have := H3.out; omega
          go_enter Try.func61, Try.ntmps61
          go_wp2_with (first
            | (go_at_call 85; refine k1.mono ?_; clear k1; rintro e w5 ⟨rfl, e5⟩; have e6 := e5.symm; clear e5; subst e6)
            | fail)
          go_ret2
          exact ⟨⟨_, _, rfl, .inl ⟨rfl, Hr.out⟩⟩, Below.refl _ _⟩
    · have g1 : ¬ (n : Int) < 1 := by omega
      have g2 : ¬ (6000 : Int) < (n : Int) := by omega
      have g3 : ¬ (b.size : Int) < (p : Int) + 7 + (n : Int) := by omega
      have k3 := Try.xSum_any w (b.extract (p + 7) (p + 7 + n)) (by rw [ByteArray.size_extract]; omega)
      obtain ⟨f, hf⟩ : ∃ f, f = fnv (b.extract (p + 7) (p + 7 + n)).data.toList := ⟨_, rfl⟩
      rw [← hf] at k3
      have hr : recAt b.data.toList p = if f ≠ m then none else some (b.extract (p + 7) (p + 7 + n)).data.toList := by
        unfold recAt
        rw [if_neg (by rw [e2]; simp; omega), if_neg (by rw [← hn]; rw [hl]; exact h3), ← hn, ← hm, hf, Dk.extr, show p + 7 + n - (p + 7) = n by omega]
      have Hr : Hid _ := hr
      clear hr hl h3 hn hm e2 hf
      go_enter Try.func61, Try.ntmps61
      go_wp2_with (first
        | (go_at_call 85; refine k1.mono ?_; clear k1; rintro e w5 ⟨rfl, e5⟩; have e6 := e5.symm; clear e5; subst e6)
        | (go_at_call 85; refine k2.mono ?_; clear k2; rintro e w5 ⟨rfl, e5⟩; have e6 := e5.symm; clear e5; subst e6)
        | (go_at_call 86; refine k3.mono ?_; clear k3; rintro e w5 ⟨rfl, e5⟩; have e6 := e5.symm; clear e5; subst e6)
        | fail)
      go_ret2
      refine ⟨⟨_, _, rfl, ?_⟩, Below.refl _ _⟩
      rw [Hr.out]
      by_cases hfm : f = m
      · subst hfm
        exact .inr ⟨by simp, by simp⟩
      · exact .inl ⟨by simp; omega, by rw [if_pos hfm]⟩
  · have q2 : ¬ (b[p].toNat : Int) = 1 := fun e => h2 (UInt8.toNat_inj.1 (by have : (1 : UInt8).toNat = 1 := rfl; omega))
    have hr : recAt b.data.toList p = none := by
      unfold recAt
      rw [if_pos (.inr (by
        rw [List.getElem?_eq_getElem (by omega)]
        intro e
        exact h2 (Option.some.inj e)))]
    have Hr : Hid _ := hr
    clear hr hl
    go_enter Try.func61, Try.ntmps61
    go_wp2_with fail
    go_ret2
    exact ⟨⟨_, _, rfl, .inl ⟨rfl, Hr.out⟩⟩, Below.refl _ _⟩
end Go.Proofs
