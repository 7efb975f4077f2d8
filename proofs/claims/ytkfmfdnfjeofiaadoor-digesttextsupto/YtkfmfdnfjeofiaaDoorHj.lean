/-
  The document's Encode.
-/
import Derived.Test.YtkfmfdnfjeofiaaDoorHi
namespace Go.Dg
open Go.RowKit Go.Wi
def signsL : List UInt8 := [65, 66, 67, 68, 69, 70, 71, 72, 73, 74, 75, 76, 77, 78, 79, 80, 81, 82, 83, 84, 85, 86, 87, 88, 89, 90, 97, 98, 99, 100, 101, 102, 103, 104, 105, 106, 107, 108, 109, 110, 111, 112, 113, 114, 115, 116, 117, 118, 119, 120, 121, 122, 48, 49, 50, 51, 52, 53, 54, 55, 56, 57, 45, 95]
def sign (n : Nat) : UInt8 := signsL.getD n 0
theorem sign_at : ∀ (n : Nat) (h : n < 64), (⟨#[65, 66, 67, 68, 69, 70, 71, 72, 73, 74, 75, 76, 77, 78, 79, 80, 81, 82, 83, 84, 85, 86, 87, 88, 89, 90, 97, 98, 99, 100, 101, 102, 103, 104, 105, 106, 107, 108, 109, 110, 111, 112, 113, 114, 115, 116, 117, 118, 119, 120, 121, 122, 48, 49, 50, 51, 52, 53, 54, 55, 56, 57, 45, 95]⟩ : ByteArray)[n]'h = sign n := by decide
/-- Bit i, from the left. -/
def bitL (l : List UInt8) (i : Nat) : Nat := (l.getD (i / 8) 0).toNat / 2 ^ (7 - i % 8) % 2
/-- Behind i bits: the number so far, its bits, what was written. -/
structure En where
  n : Nat
  k : Nat
  o : List UInt8
def En.step (s : En) (x : Nat) : En := if s.k = 5 then ⟨0, 0, s.o ++ [sign (2 * s.n + x)]⟩ else ⟨2 * s.n + x, s.k + 1, s.o⟩
def encS (l : List UInt8) : Nat → En
  | 0 => ⟨0, 0, []⟩
  | i + 1 => (encS l i).step (bitL l i)
theorem bitL_lt (l : List UInt8) (i : Nat) : bitL l i < 2 := Nat.mod_lt _ (by decide)
structure En.Ok (s : En) (i : Nat) : Prop where
  k : s.k < 6
  n : s.n < 2 ^ s.k
  o : 6 * s.o.length + s.k = i
theorem En.Ok.step {s : En} {i x : Nat} (h : s.Ok i) (hx : x < 2) : (s.step x).Ok (i + 1) := by
  obtain ⟨h1, h2, h3⟩ := h
  unfold En.step
  split
  · rename_i h
    exact ⟨by show 0 < 6; omega, by show 0 < 2 ^ 0; decide, by simp only [List.length_append, List.length_cons, List.length_nil]; omega⟩
  · rename_i h
    refine ⟨by show s.k + 1 < 6; omega, ?_, by show 6 * s.o.length + (s.k + 1) = i + 1; omega⟩
    show 2 * s.n + x < 2 ^ (s.k + 1)
    rw [Nat.pow_succ]
    omega
theorem encS_ok (l : List UInt8) : ∀ i, (encS l i).Ok i
  | 0 => ⟨by show 0 < 6; decide, by show 0 < 2 ^ 0; decide, rfl⟩
  | i + 1 => (encS_ok l i).step (bitL_lt l i)
def enc (l : List UInt8) : List UInt8 := let s := encS l (8 * l.length); if s.k = 0 then s.o else s.o ++ [sign (s.n * 2 ^ (6 - s.k))]
end Go.Dg
namespace Go.Proofs
open Go.RowKit Go.Wi Go.Dg
set_option maxRecDepth 20000 in
set_option maxHeartbeats 1000000 in
theorem Tryd.refEnc_any (b : ByteArray) (hb : 2 * b.size ≤ 140737488355328) (w : World) :
    Calls Tryd.prog 25 #[.string b] w fun e w' => e = .returned (.string ⟨(enc b.toList).toArray⟩) ∧ Below w.heap.size w w' := by
  go_enter Tryd.func25, Tryd.ntmps25
  obtain ⟨T, hT⟩ : ∃ T : Nat, T = 8 * b.size := ⟨_, rfl⟩
  have e0 : IntKind.i64.wrap (8 * (b.size : Int)) = (T : Int) := by rw [IntKind.wrap_i64]; omega
  have HT : Hid (T = 8 * b.size) := hT
  have hT2 : T ≤ 562949953421312 := by omega
  have Hb : Hid (2 * b.size ≤ 140737488355328) := hb
  clear hT hb
  go_wp2
  go_loopw [3, 4, 5, 6] (fun v nv kv iv wr => ∃ (i n k O : Nat) (o : List UInt8) (ad : Option Addr) (cap : Nat), v = .slice ad O cap ∧ nv = .int .i64 (n : Int) ∧ kv = .int .i64 (k : Int) ∧ iv = .int .i64 (i : Int) ∧ i ≤ T ∧ Hid (O = o.length) ∧ Hid (encS b.toList i = ⟨n, k, o⟩) ∧ Hid (Ob wr w.heap.size v o) ∧ Hid (Below w.heap.size w wr)) (fun _ _ _ iv _ => T - (intOf iv).toNat)
  case atStart => exact ⟨0, 0, 0, 0, [], none, 0, rfl, rfl, rfl, rfl, by omega, rfl, rfl, Ob.nil w _, Below.refl _ w⟩
  case round =>
    obtain ⟨i, n, k, O, o, ad, cap, rfl, rfl, rfl, rfl, hi, HOl, Hst, Ho, Hw⟩ := hrel
    have Hok : Hid ((⟨n, k, o⟩ : En).Ok i) := (by rw [← Hst.out]; exact encS_ok _ _)
    have hk6 : k < 6 := Hok.out.k
    have Hn2 : Hid (n < 2 ^ k) := Hok.out.n
    have hn : n < 64 := Nat.lt_of_lt_of_le Hn2.out (Nat.pow_le_pow_right (by decide) (show k ≤ 6 by omega))
    by_cases hlt : i < T
    · have q1 : (i : Int) < T := by omega
      obtain ⟨j, hj⟩ : ∃ j : Nat, j = i / 8 := ⟨_, rfl⟩
      obtain ⟨r, hr⟩ : ∃ r : Nat, r = i % 8 := ⟨_, rfl⟩
      have e1 : (i : Int) / 8 = (j : Int) := by omega
      have e2 : (i : Int) % 8 = (r : Int) := by omega
      have hjb : j < b.size := by have := HT.out; omega
      have q2 : (j : Int) < b.size := by omega
      have q3 : (0 : Int) ≤ j := by omega
      have hr8 : r < 8 := by omega
      obtain ⟨x, hx⟩ : ∃ x : Nat, x = (b[j]'hjb).toNat := ⟨_, rfl⟩
      have hx8 : x < 256 := by rw [hx]; exact (b[j]'hjb).toNat_lt
      have f1 : IntKind.i64.wrap ((b[j]'hjb).toNat : Int) = (x : Int) := by rw [← hx, IntKind.wrap_i64]; omega
      obtain ⟨y, hy⟩ : ∃ y : Nat, y = x / 2 ^ (7 - r) := ⟨_, rfl⟩
      have f2 : (x : Int) / 2 ^ (7 - r) = (y : Int) := by rw [hy]; simp
      obtain ⟨z, hz⟩ : ∃ z : Nat, z = y % 2 := ⟨_, rfl⟩
      have f3 : (y : Int).tmod 2 = (z : Int) := by rw [Int.tmod_eq_emod_of_nonneg (by omega)]; omega
      have hz2 : z < 2 := by omega
      have Hz : Hid (z = bitL b.toList i) := (by
        show z = _
        rw [hz, hy, hx, hr]
        unfold bitL
        rw [← hj]
        congr 3
        rw [ByteArray.toList_eq, List.getD_eq_getElem?_getD, List.getElem?_eq_getElem (show j < b.data.toList.length from hjb)]
        rfl)
      have Hnx : Hid (encS b.toList (i + 1) = (⟨n, k, o⟩ : En).step z) := (by
        show (encS b.toList i).step (bitL b.toList i) = _
        rw [Hst.out, Hz.out])
      obtain ⟨n2, hn2⟩ : ∃ n2 : Nat, n2 = 2 * n + z := ⟨_, rfl⟩
      have hn32 : n < 32 := Nat.lt_of_lt_of_le Hn2.out (Nat.pow_le_pow_right (by decide) (show k ≤ 5 by omega))
      have f4 : IntKind.i64.wrap (2 * (n : Int) + (z : Int)) = (n2 : Int) := by rw [IntKind.wrap_i64]; omega
      have hn64 : n2 < 64 := by omega
      have q4 : (n2 : Int) < 64 := by omega
      have q5 : (0 : Int) ≤ n2 := by omega
      have Hn : Hid (n2 = 2 * n + z) := hn2
      clear hj hr hx hy hz hn2
      by_cases hk5 : k = 5
      · subst hk5
        have Hcs : Hid (#[Value.int .u8 ((⟨#[65, 66, 67, 68, 69, 70, 71, 72, 73, 74, 75, 76, 77, 78, 79, 80, 81, 82, 83, 84, 85, 86, 87, 88, 89, 90, 97, 98, 99, 100, 101, 102, 103, 104, 105, 106, 107, 108, 109, 110, 111, 112, 113, 114, 115, 116, 117, 118, 119, 120, 121, 122, 48, 49, 50, 51, 52, 53, 54, 55, 56, 57, 45, 95]⟩ : ByteArray)[n2]'hn64).toNat] = (Lib.byteCells [sign n2]).toArray) := (by show _ = _; rw [sign_at n2 hn64]; rfl)
        have Hlen : Hid (o.length + [sign n2].length ≤ 140737488355328) := (by show _ ≤ _; have h1 : 6 * o.length + 5 = i := Hok.out.o; have h2 := HT.out; have h3 := Hb.out; simp only [List.length_cons, List.length_nil]; omega)
        have Hsz : Hid (w.heap.size ≤ wr.heap.size) := Hw.out.size
        go_wp2_with (first | (at_builtin; refine Tryd.appN rfl (.tmp 33) (.tmp 36) rfl (Ho.out.alloc _) (by have := Hsz.out; simp; omega) rfl [sign n2] 1 _ rfl rfl (by decide) _ Hcs.out (heap_alloc_new _ _) Hlen.out ?_; intro ad3 cap3 w3 ho3 hw3; rw [← HOl.out] at ho3 ⊢; have HO3 : Hid _ := ho3; have HB3 : Hid _ := Dg.ob_step2 Hw.out hw3 Ho.out; clear ho3 hw3) | fail)
        refine ⟨⟨i + 1, 0, 0, O + 1, o ++ [sign n2], ad3, cap3, rfl, rfl, rfl, by go_num, by omega, ?_, ?_, HO3, HB3⟩, ?_⟩
        · have h1 := HOl.out
          show _ = _
          rw [List.length_append, h1]
          rfl
        · show _ = _
          rw [Hnx.out, En.step, if_pos rfl, Hn.out]
        · simp [intOf]; omega
      · have q6 : ¬ (k : Int) + 1 = 6 := by omega
        go_wp2_with (fail)
        refine ⟨⟨i + 1, n2, k + 1, O, o, ad, cap, rfl, rfl, by go_num, by go_num, by omega, HOl, ?_, Ho, Hw⟩, ?_⟩
        · show _ = _
          rw [Hnx.out, En.step, if_neg hk5, Hn.out]
        · simp [intOf]; omega
    · have q1 : ¬ (i : Int) < T := by omega
      obtain rfl : i = T := by omega
      have HE : Hid (enc b.toList = if k = 0 then o else o ++ [sign (n * 2 ^ (6 - k))]) := (by
        show _ = _
        unfold enc
        rw [Dg.list_len, ← HT.out, Hst.out])
      by_cases hk0 : k = 0
      · subst hk0
        have HE2 : Hid (enc b.toList = o) := (by show _ = _; rw [HE.out, if_pos rfl])
        clear HE
        have hcv := Tryd.conv_bs (Ob.bs Ho.out)
        go_wp2
        go_ret
        rw [HE2.out]
        exact ⟨rfl, Hw.out⟩
      · have q6 : (0 : Int) < (k : Int) := by omega
        obtain ⟨m, hm⟩ : ∃ m : Nat, m = n * 2 ^ (6 - k) := ⟨_, rfl⟩
        have hm64 : m < 64 := by
          rw [hm]
          have h1 : n * 2 ^ (6 - k) < 2 ^ k * 2 ^ (6 - k) := Nat.mul_lt_mul_of_pos_right Hn2.out (Nat.pow_pos (by decide))
          rw [← Nat.pow_add, show k + (6 - k) = 6 by omega] at h1
          exact h1
        have Hm : Hid (m = n * 2 ^ (6 - k)) := hm
        clear hm
        have f1 : IntKind.i64.wrap ((n : Int) * 2 ^ (6 - k)) = (m : Int) := by
          have h1 : (n : Int) * 2 ^ (6 - k) = (m : Int) := by rw [Hm.out]; simp
          rw [h1, IntKind.wrap_i64]
          omega
        have q7 : (m : Int) < 64 := by omega
        have q8 : (0 : Int) ≤ m := by omega
        have HE2 : Hid (enc b.toList = o ++ [sign m]) := (by show _ = _; rw [HE.out, if_neg hk0, Hm.out])
        have Hcs : Hid (#[Value.int .u8 ((⟨#[65, 66, 67, 68, 69, 70, 71, 72, 73, 74, 75, 76, 77, 78, 79, 80, 81, 82, 83, 84, 85, 86, 87, 88, 89, 90, 97, 98, 99, 100, 101, 102, 103, 104, 105, 106, 107, 108, 109, 110, 111, 112, 113, 114, 115, 116, 117, 118, 119, 120, 121, 122, 48, 49, 50, 51, 52, 53, 54, 55, 56, 57, 45, 95]⟩ : ByteArray)[m]'hm64).toNat] = (Lib.byteCells [sign m]).toArray) := (by show _ = _; rw [sign_at m hm64]; rfl)
        have Hlen : Hid (o.length + [sign m].length ≤ 140737488355328) := (by show _ ≤ _; have h1 : 6 * o.length + k = i := Hok.out.o; have h2 := HT.out; have h3 := Hb.out; simp only [List.length_cons, List.length_nil]; omega)
        have Hsz : Hid (w.heap.size ≤ wr.heap.size) := Hw.out.size
        clear HE
        go_wp2_with (first | (at_builtin; refine Tryd.appN rfl (.tmp 40) (.tmp 46) rfl (Ho.out.alloc _) (by have := Hsz.out; simp; omega) rfl [sign m] 1 _ rfl rfl (by decide) _ Hcs.out (heap_alloc_new _ _) Hlen.out ?_; intro ad3 cap3 w3 ho3 hw3; rw [← HOl.out] at ho3 ⊢; have hcv := Tryd.conv_bs (Ob.bs ho3); have HB3 : Hid _ := Dg.ob_step2 Hw.out hw3 Ho.out; clear ho3 hw3) | fail)
        go_ret
        rw [HE2.out]
        exact ⟨rfl, HB3.out⟩
end Go.Proofs
