/-
  Laid together by merge.py of Hj Hk Hv.
-/
import Derived.Test.YtlfiebapfgpchaaGreatDoorSqHg
namespace Go.Dg
open Go.RowKit Go.Wi
def signsL : List UInt8 := [65, 66, 67, 68, 69, 70, 71, 72, 73, 74, 75, 76, 77, 78, 79, 80, 81, 82, 83, 84, 85, 86, 87, 88, 89, 90, 97, 98, 99, 100, 101, 102, 103, 104, 105, 106, 107, 108, 109, 110, 111, 112, 113, 114, 115, 116, 117, 118, 119, 120, 121, 122, 48, 49, 50, 51, 52, 53, 54, 55, 56, 57, 45, 95]
def sign (n : Nat) : UInt8 := signsL.getD n 0
theorem sign_at : ∀ (n : Nat) (h : n < 64), (⟨#[65, 66, 67, 68, 69, 70, 71, 72, 73, 74, 75, 76, 77, 78, 79, 80, 81, 82, 83, 84, 85, 86, 87, 88, 89, 90, 97, 98, 99, 100, 101, 102, 103, 104, 105, 106, 107, 108, 109, 110, 111, 112, 113, 114, 115, 116, 117, 118, 119, 120, 121, 122, 48, 49, 50, 51, 52, 53, 54, 55, 56, 57, 45, 95]⟩ : ByteArray)[n]'h = sign n := by decide
/-- Bit i, from the left. -/
def bitL (l : List UInt8) (i : Nat) : Nat := (l.getD (i / 8) 0).toNat / 2 ^ (7 - i % 8) % 2
/-- Behind i bits: the number so far, its bits, what was written. -/
structure En where
  n : Nat
  k : Nat
  o : List UInt8
def En.step (s : En) (x : Nat) : En := if s.k = 5 then ⟨0, 0, s.o ++ [sign (2 * s.n + x)]⟩ else ⟨2 * s.n + x, s.k + 1, s.o⟩
def encS (l : List UInt8) : Nat → En
  | 0 => ⟨0, 0, []⟩
  | i + 1 => (encS l i).step (bitL l i)
theorem bitL_lt (l : List UInt8) (i : Nat) : bitL l i < 2 := Nat.mod_lt _ (by decide)
structure En.Ok (s : En) (i : Nat) : Prop where
  k : s.k < 6
  n : s.n < 2 ^ s.k
  o : 6 * s.o.length + s.k = i
theorem En.Ok.step {s : En} {i x : Nat} (h : s.Ok i) (hx : x < 2) : (s.step x).Ok (i + 1) := by
  obtain ⟨h1, h2, h3⟩ := h
  unfold En.step
  split
  · rename_i h
    exact ⟨by show 0 < 6; omega, by show 0 < 2 ^ 0; decide, by simp only [List.length_append, List.length_cons, List.length_nil]; omega⟩
  · rename_i h
    refine ⟨by show s.k + 1 < 6; omega, ?_, by show 6 * s.o.length + (s.k + 1) = i + 1; omega⟩
    show 2 * s.n + x < 2 ^ (s.k + 1)
    rw [Nat.pow_succ]
    omega
theorem encS_ok (l : List UInt8) : ∀ i, (encS l i).Ok i
  | 0 => ⟨by show 0 < 6; decide, by show 0 < 2 ^ 0; decide, rfl⟩
  | i + 1 => (encS_ok l i).step (bitL_lt l i)
def enc (l : List UInt8) : List UInt8 := let s := encS l (8 * l.length); if s.k = 0 then s.o else s.o ++ [sign (s.n * 2 ^ (6 - s.k))]
end Go.Dg
namespace Go.Proofs
open Go.RowKit Go.Wi Go.Dg
set_option maxRecDepth 20000 in
set_option maxHeartbeats 1000000 in
theorem Tryz.refEnc_any (b : ByteArray) (hb : 2 * b.size ≤ 140737488355328) (w : World) :
    Calls Tryz.prog 61 #[.string b] w fun e w' => e = .returned (.string ⟨(enc b.toList).toArray⟩) ∧ Below w.heap.size w w' := by
  go_enter Tryz.func61, Tryz.ntmps61
  obtain ⟨T, hT⟩ : ∃ T : Nat, T = 8 * b.size := ⟨_, rfl⟩
  have e0 : IntKind.i64.wrap (8 * (b.size : Int)) = (T : Int) := by rw [IntKind.wrap_i64]; omega
  have HT : Hid (T = 8 * b.size) := hT
  have hT2 : T ≤ 562949953421312 := by omega
  have Hb : Hid (2 * b.size ≤ 140737488355328) := hb
  clear hT hb
  go_wp2
  go_loopw [3, 4, 5, 6] (fun v nv kv iv wr => ∃ (i n k O : Nat) (o : List UInt8) (ad : Option Addr) (cap : Nat), v = .slice ad O cap ∧ nv = .int .i64 (n : Int) ∧ kv = .int .i64 (k : Int) ∧ iv = .int .i64 (i : Int) ∧ i ≤ T ∧ Hid (O = o.length) ∧ Hid (encS b.toList i = ⟨n, k, o⟩) ∧ Hid (Ob wr w.heap.size v o) ∧ Hid (Below w.heap.size w wr)) (fun _ _ _ iv _ => T - (intOf iv).toNat)
  case atStart => exact ⟨0, 0, 0, 0, [], none, 0, rfl, rfl, rfl, rfl, by omega, rfl, rfl, Ob.nil w _, Below.refl _ w⟩
  case round =>
    obtain ⟨i, n, k, O, o, ad, cap, rfl, rfl, rfl, rfl, hi, HOl, Hst, Ho, Hw⟩ := hrel
    have Hok : Hid ((⟨n, k, o⟩ : En).Ok i) := (by rw [← Hst.out]; exact encS_ok _ _)
    have hk6 : k < 6 := Hok.out.k
    have Hn2 : Hid (n < 2 ^ k) := Hok.out.n
    have hn : n < 64 := Nat.lt_of_lt_of_le Hn2.out (Nat.pow_le_pow_right (by decide) (show k ≤ 6 by omega))
    by_cases hlt : i < T
    · have q1 : (i : Int) < T := by omega
      obtain ⟨j, hj⟩ : ∃ j : Nat, j = i / 8 := ⟨_, rfl⟩
      obtain ⟨r, hr⟩ : ∃ r : Nat, r = i % 8 := ⟨_, rfl⟩
      have e1 : (i : Int) / 8 = (j : Int) := by omega
      have e2 : (i : Int) % 8 = (r : Int) := by omega
      have hjb : j < b.size := by have := HT.out; omega
      have q2 : (j : Int) < b.size := by omega
      have q3 : (0 : Int) ≤ j := by omega
      have hr8 : r < 8 := by omega
      obtain ⟨x, hx⟩ : ∃ x : Nat, x = (b[j]'hjb).toNat := ⟨_, rfl⟩
      have hx8 : x < 256 := by rw [hx]; exact (b[j]'hjb).toNat_lt
      have f1 : IntKind.i64.wrap ((b[j]'hjb).toNat : Int) = (x : Int) := by rw [← hx, IntKind.wrap_i64]; omega
      obtain ⟨y, hy⟩ : ∃ y : Nat, y = x / 2 ^ (7 - r) := ⟨_, rfl⟩
      have f2 : (x : Int) / 2 ^ (7 - r) = (y : Int) := by rw [hy]; simp
      obtain ⟨z, hz⟩ : ∃ z : Nat, z = y % 2 := ⟨_, rfl⟩
      have f3 : (y : Int).tmod 2 = (z : Int) := by rw [Int.tmod_eq_emod_of_nonneg (by omega)]; omega
      have hz2 : z < 2 := by omega
      have Hz : Hid (z = bitL b.toList i) := (by
        show z = _
        rw [hz, hy, hx, hr]
        unfold bitL
        rw [← hj]
        congr 3
        rw [ByteArray.toList_eq, List.getD_eq_getElem?_getD, List.getElem?_eq_getElem (show j < b.data.toList.length from hjb)]
        rfl)
      have Hnx : Hid (encS b.toList (i + 1) = (⟨n, k, o⟩ : En).step z) := (by
        show (encS b.toList i).step (bitL b.toList i) = _
        rw [Hst.out, Hz.out])
      obtain ⟨n2, hn2⟩ : ∃ n2 : Nat, n2 = 2 * n + z := ⟨_, rfl⟩
      have hn32 : n < 32 := Nat.lt_of_lt_of_le Hn2.out (Nat.pow_le_pow_right (by decide) (show k ≤ 5 by omega))
      have f4 : IntKind.i64.wrap (2 * (n : Int) + (z : Int)) = (n2 : Int) := by rw [IntKind.wrap_i64]; omega
      have hn64 : n2 < 64 := by omega
      have q4 : (n2 : Int) < 64 := by omega
      have q5 : (0 : Int) ≤ n2 := by omega
      have Hn : Hid (n2 = 2 * n + z) := hn2
      clear hj hr hx hy hz hn2
      by_cases hk5 : k = 5
      · subst hk5
        have Hcs : Hid (#[Value.int .u8 ((⟨#[65, 66, 67, 68, 69, 70, 71, 72, 73, 74, 75, 76, 77, 78, 79, 80, 81, 82, 83, 84, 85, 86, 87, 88, 89, 90, 97, 98, 99, 100, 101, 102, 103, 104, 105, 106, 107, 108, 109, 110, 111, 112, 113, 114, 115, 116, 117, 118, 119, 120, 121, 122, 48, 49, 50, 51, 52, 53, 54, 55, 56, 57, 45, 95]⟩ : ByteArray)[n2]'hn64).toNat] = (Lib.byteCells [sign n2]).toArray) := (by show _ = _; rw [sign_at n2 hn64]; rfl)
        have Hlen : Hid (o.length + [sign n2].length ≤ 140737488355328) := (by show _ ≤ _; have h1 : 6 * o.length + 5 = i := Hok.out.o; have h2 := HT.out; have h3 := Hb.out; simp only [List.length_cons, List.length_nil]; omega)
        have Hsz : Hid (w.heap.size ≤ wr.heap.size) := Hw.out.size
        go_wp2_with (first | (at_builtin; refine Tryz.appN rfl (.tmp 33) (.tmp 36) rfl (Ho.out.alloc _) (by have := Hsz.out; simp; omega) rfl [sign n2] 1 _ rfl rfl (by decide) _ Hcs.out (heap_alloc_new _ _) Hlen.out ?_; intro ad3 cap3 w3 ho3 hw3; rw [← HOl.out] at ho3 ⊢; have HO3 : Hid _ := ho3; have HB3 : Hid _ := Dg.ob_step2 Hw.out hw3 Ho.out; clear ho3 hw3) | fail)
        refine ⟨⟨i + 1, 0, 0, O + 1, o ++ [sign n2], ad3, cap3, rfl, rfl, rfl, by go_num, by omega, ?_, ?_, HO3, HB3⟩, ?_⟩
        · have h1 := HOl.out
          show _ = _
          rw [List.length_append, h1]
          rfl
        · show _ = _
          rw [Hnx.out, En.step, if_pos rfl, Hn.out]
        · simp [intOf]; omega
      · have q6 : ¬ (k : Int) + 1 = 6 := by omega
        go_wp2_with (fail)
        refine ⟨⟨i + 1, n2, k + 1, O, o, ad, cap, rfl, rfl, by go_num, by go_num, by omega, HOl, ?_, Ho, Hw⟩, ?_⟩
        · show _ = _
          rw [Hnx.out, En.step, if_neg hk5, Hn.out]
        · simp [intOf]; omega
    · have q1 : ¬ (i : Int) < T := by omega
      obtain rfl : i = T := by omega
      have HE : Hid (enc b.toList = if k = 0 then o else o ++ [sign (n * 2 ^ (6 - k))]) := (by
        show _ = _
        unfold enc
        rw [Dg.list_len, ← HT.out, Hst.out])
      by_cases hk0 : k = 0
      · subst hk0
        have HE2 : Hid (enc b.toList = o) := (by show _ = _; rw [HE.out, if_pos rfl])
        clear HE
        have hcv := Tryz.conv_bs (Ob.bs Ho.out)
        go_wp2
        go_ret
        rw [HE2.out]
        exact ⟨rfl, Hw.out⟩
      · have q6 : (0 : Int) < (k : Int) := by omega
        obtain ⟨m, hm⟩ : ∃ m : Nat, m = n * 2 ^ (6 - k) := ⟨_, rfl⟩
        have hm64 : m < 64 := by
          rw [hm]
          have h1 : n * 2 ^ (6 - k) < 2 ^ k * 2 ^ (6 - k) := Nat.mul_lt_mul_of_pos_right Hn2.out (Nat.pow_pos (by decide))
          rw [← Nat.pow_add, show k + (6 - k) = 6 by omega] at h1
          exact h1
        have Hm : Hid (m = n * 2 ^ (6 - k)) := hm
        clear hm
        have f1 : IntKind.i64.wrap ((n : Int) * 2 ^ (6 - k)) = (m : Int) := by
          have h1 : (n : Int) * 2 ^ (6 - k) = (m : Int) := by rw [Hm.out]; simp
          rw [h1, IntKind.wrap_i64]
          omega
        have q7 : (m : Int) < 64 := by omega
        have q8 : (0 : Int) ≤ m := by omega
        have HE2 : Hid (enc b.toList = o ++ [sign m]) := (by show _ = _; rw [HE.out, if_neg hk0, Hm.out])
        have Hcs : Hid (#[Value.int .u8 ((⟨#[65, 66, 67, 68, 69, 70, 71, 72, 73, 74, 75, 76, 77, 78, 79, 80, 81, 82, 83, 84, 85, 86, 87, 88, 89, 90, 97, 98, 99, 100, 101, 102, 103, 104, 105, 106, 107, 108, 109, 110, 111, 112, 113, 114, 115, 116, 117, 118, 119, 120, 121, 122, 48, 49, 50, 51, 52, 53, 54, 55, 56, 57, 45, 95]⟩ : ByteArray)[m]'hm64).toNat] = (Lib.byteCells [sign m]).toArray) := (by show _ = _; rw [sign_at m hm64]; rfl)
        have Hlen : Hid (o.length + [sign m].length ≤ 140737488355328) := (by show _ ≤ _; have h1 : 6 * o.length + k = i := Hok.out.o; have h2 := HT.out; have h3 := Hb.out; simp only [List.length_cons, List.length_nil]; omega)
        have Hsz : Hid (w.heap.size ≤ wr.heap.size) := Hw.out.size
        clear HE
        go_wp2_with (first | (at_builtin; refine Tryz.appN rfl (.tmp 40) (.tmp 46) rfl (Ho.out.alloc _) (by have := Hsz.out; simp; omega) rfl [sign m] 1 _ rfl rfl (by decide) _ Hcs.out (heap_alloc_new _ _) Hlen.out ?_; intro ad3 cap3 w3 ho3 hw3; rw [← HOl.out] at ho3 ⊢; have hcv := Tryz.conv_bs (Ob.bs ho3); have HB3 : Hid _ := Dg.ob_step2 Hw.out hw3 Ho.out; clear ho3 hw3) | fail)
        go_ret
        rw [HE2.out]
        exact ⟨rfl, HB3.out⟩
end Go.Proofs

namespace Go.Dg
open Go.RowKit Go.Wi
/-- The value of a sign, from number 64 - f on. -/
def valF : Nat → UInt8 → Int
  | 0, _ => -1
  | f + 1, c => if sign (64 - (f + 1)) = c then ((64 - (f + 1) : Nat) : Int) else valF f c
def val (c : UInt8) : Int := valF 64 c
theorem valF_lt : ∀ (f : Nat) (c : UInt8), f ≤ 64 → valF f c < 64 ∧ -1 ≤ valF f c
  | 0, _, _ => by unfold valF; omega
  | f + 1, c, h => by
    have := valF_lt f c (by omega)
    unfold valF
    split <;> omega
theorem val_lt (c : UInt8) : val c < 64 ∧ -1 ≤ val c := valF_lt 64 c (by omega)
/-- Behind some signs: the number so far, its bits, what was read. -/
def En.read (s : En) (v : Nat) : En := if s.k + 6 ≥ 8 then ⟨(s.n * 64 + v) % 2 ^ (s.k + 6 - 8), s.k + 6 - 8, s.o ++ [UInt8.ofNat ((s.n * 64 + v) / 2 ^ (s.k + 6 - 8))]⟩ else ⟨s.n * 64 + v, s.k + 6, s.o⟩
def decS (l : List UInt8) : Nat → En
  | 0 => ⟨0, 0, []⟩
  | i + 1 => (decS l i).read (val (l.getD i 0)).toNat
structure En.Ok8 (s : En) (i : Nat) : Prop where
  k : s.k < 8
  n : s.n < 2 ^ s.k
  o : 8 * s.o.length + s.k = 6 * i
theorem En.Ok8.read {s : En} {i v : Nat} (h : s.Ok8 i) (hv : v < 64) : (s.read v).Ok8 (i + 1) := by
  obtain ⟨h1, h2, h3⟩ := h
  unfold En.read
  split
  · rename_i h
    refine ⟨by show s.k + 6 - 8 < 8; omega, by show _ % 2 ^ _ < 2 ^ _; exact Nat.mod_lt _ (Nat.pow_pos (by decide)), ?_⟩
    simp only [List.length_append, List.length_cons, List.length_nil]
    omega
  · rename_i h
    refine ⟨by show s.k + 6 < 8; omega, ?_, by show 8 * s.o.length + (s.k + 6) = 6 * (i + 1); omega⟩
    show s.n * 64 + v < 2 ^ (s.k + 6)
    rw [Nat.pow_add]
    omega
theorem decS_ok (l : List UInt8) : ∀ i, (decS l i).Ok8 i
  | 0 => ⟨by show 0 < 8; decide, by show 0 < 2 ^ 0; decide, rfl⟩
  | i + 1 => (decS_ok l i).read (by have := val_lt (l.getD i 0); omega)
/-- The first sign that is none, if there is one. -/
def badF (l : List UInt8) : Nat → Nat → Option Nat
  | 0, _ => none
  | f + 1, i => if val (l.getD i 0) < 0 then some i else badF l f (i + 1)
theorem badF_none (l : List UInt8) : ∀ (f i : Nat), badF l f i = none → ∀ j, i ≤ j → j < i + f → 0 ≤ val (l.getD j 0)
  | 0, i, _, j, h1, h2 => by omega
  | f + 1, i, h, j, h1, h2 => by
    unfold badF at h
    split at h
    · cases h
    · rename_i h3
      by_cases e : j = i
      · subst e; omega
      · exact badF_none l f (i + 1) h j (by omega) (by omega)
/-- What is read; else the place of the fault. -/
def dec (l : List UInt8) : Option (List UInt8) × Nat :=
  match badF l l.length 0 with
  | some i => (none, i)
  | none => if l.length % 4 = 1 then (none, l.length - 1) else if (decS l l.length).n ≠ 0 then (none, l.length - 1) else (some (decS l l.length).o, 0)
/-- As it is given back. -/
def decV (r : Option (List UInt8) × Nat) : Value := match r with
  | (none, i) => .tuple #[.string ⟨#[]⟩, .int .i64 (i : Int), .int .i64 160]
  | (some o, _) => .tuple #[.string ⟨o.toArray⟩, .int .i64 0, .int .i64 0]
end Go.Dg
namespace Go.Proofs
open Go.RowKit Go.Wi Go.Dg
end Go.Proofs

namespace Go.Dg
def num (b : Nat) (l : List Nat) : Nat := l.foldl (fun a x => a * b + x) 0
theorem num_snoc (b : Nat) (l : List Nat) (x : Nat) : num b (l ++ [x]) = num b l * b + x := by simp [num]
theorem num_inj (b : Nat) : ∀ (n : Nat) (l l' : List Nat), l.length = n → l'.length = n → (∀ x ∈ l, x < b) → (∀ x ∈ l', x < b) → num b l = num b l' → l = l'
  | 0, l, l', h, h', _, _, _ => by rw [List.eq_nil_of_length_eq_zero h, List.eq_nil_of_length_eq_zero h']
  | n + 1, l, l', h, h', hb, hb', he => by
    rcases List.eq_nil_or_concat l with rfl | ⟨L, x, rfl⟩
    · cases h
    rcases List.eq_nil_or_concat l' with rfl | ⟨L', x', rfl⟩
    · cases h'
    simp only [List.concat_eq_append] at *
    rw [num_snoc, num_snoc] at he
    have hx := hb x (by simp)
    have hx' := hb' x' (by simp)
    have h0 : 0 < b := by omega
    have e1 : x = x' := by
      have h1 : (num b L * b + x) % b = x := by rw [Nat.mul_add_mod_self_right]; exact Nat.mod_eq_of_lt hx
      have h2 : (num b L' * b + x') % b = x' := by rw [Nat.mul_add_mod_self_right]; exact Nat.mod_eq_of_lt hx'
      rw [← h1, he, h2]
    have e2 : num b L = num b L' := by
      rw [e1] at he
      exact Nat.eq_of_mul_eq_mul_right h0 (by omega)
    have := num_inj b n L L' (by simpa using h) (by simpa using h') (fun y hy => hb y (by simp [hy])) (fun y hy => hb' y (by simp [hy])) e2
    rw [this, e1]
/-- The number of the first bits. -/
def bnum (l : List UInt8) : Nat → Nat
  | 0 => 0
  | i + 1 => 2 * bnum l i + bitL l i
theorem bnum_byte (l : List UInt8) (j : Nat) : bnum l (8 * (j + 1)) = bnum l (8 * j) * 256 + (l.getD j 0).toNat := by
  have hx := (l.getD j 0).toNat_lt
  have hb : ∀ r, r < 8 → bitL l (8 * j + r) = (l.getD j 0).toNat / 2 ^ (7 - r) % 2 := fun r hr => by
    unfold bitL
    rw [show (8 * j + r) / 8 = j by omega, show (8 * j + r) % 8 = r by omega]
  have b0 := hb 0 (by omega)
  have b1 := hb 1 (by omega)
  have b2 := hb 2 (by omega)
  have b3 := hb 3 (by omega)
  have b4 := hb 4 (by omega)
  have b5 := hb 5 (by omega)
  have b6 := hb 6 (by omega)
  have b7 := hb 7 (by omega)
  rw [show 8 * (j + 1) = 8 * j + 7 + 1 by omega]
  simp only [bnum]
  generalize (l.getD j 0).toNat = x at *
  simp only [Nat.add_zero, Nat.reduceSub, Nat.reducePow] at b0 b1 b2 b3 b4 b5 b6 b7 hx
  omega
theorem bnum_bytes (l : List UInt8) : ∀ j, j ≤ l.length → bnum l (8 * j) = num 256 ((l.take j).map UInt8.toNat)
  | 0, _ => rfl
  | j + 1, h => by
    rw [bnum_byte, bnum_bytes l j (by omega), List.take_add_one, List.getElem?_eq_getElem (show j < l.length by omega), List.map_append]
    have e : l.getD j 0 = l[j] := by rw [List.getD_eq_getElem?_getD, List.getElem?_eq_getElem (show j < l.length by omega)]; rfl
    rw [e]
    exact (num_snoc 256 _ _).symm
/-- What Encode has written: numbers below 64. -/
theorem encS_vals (l : List UInt8) : ∀ i, ∃ vs : List Nat, (encS l i).o = vs.map sign ∧ (∀ v ∈ vs, v < 64) ∧ num 64 vs * 2 ^ (encS l i).k + (encS l i).n = bnum l i
  | 0 => ⟨[], rfl, (fun v h => by cases h), rfl⟩
  | i + 1 => by
    obtain ⟨vs, h1, h2, h3⟩ := encS_vals l i
    have hk := encS_ok l i
    have hb := bitL_lt l i
    rw [show encS l (i + 1) = (encS l i).step (bitL l i) from rfl, show bnum l (i + 1) = 2 * bnum l i + bitL l i from rfl]
    generalize encS l i = s at *
    unfold En.step
    split
    · rename_i h5
      have hn := hk.n
      rw [h5] at hn h3
      refine ⟨vs ++ [2 * s.n + bitL l i], by simp [h1], fun v hv => ?_, ?_⟩
      · rcases List.mem_append.1 hv with h | h
        · exact h2 v h
        · rw [List.mem_singleton.1 h]; omega
      · show num 64 (vs ++ [2 * s.n + bitL l i]) * 2 ^ 0 + 0 = _
        rw [num_snoc]
        omega
    · refine ⟨vs, h1, h2, ?_⟩
      show num 64 vs * 2 ^ (s.k + 1) + (2 * s.n + bitL l i) = _
      rw [Nat.pow_succ, ← h3, ← Nat.mul_assoc]
      omega
/-- What Encode writes. -/
theorem enc_vals (l : List UInt8) : ∃ (vs : List Nat) (p : Nat), enc l = vs.map sign ∧ (∀ v ∈ vs, v < 64) ∧ p < 6 ∧ 6 * vs.length = 8 * l.length + p ∧ num 64 vs = num 256 (l.map UInt8.toNat) * 2 ^ p := by
  obtain ⟨vs, h1, h2, h3⟩ := encS_vals l (8 * l.length)
  have hk := encS_ok l (8 * l.length)
  rw [bnum_bytes l l.length (Nat.le_refl _), List.take_length] at h3
  unfold enc
  generalize encS l (8 * l.length) = s at *
  have hlen : vs.length = s.o.length := by rw [h1, List.length_map]
  have ho := hk.o
  by_cases h0 : s.k = 0
  · have hn := hk.n
    rw [h0] at hn h3
    refine ⟨vs, 0, by simp [h0, h1], h2, by omega, by omega, ?_⟩
    have : s.n = 0 := by simpa using hn
    rw [this] at h3
    omega
  · have hkk := hk.k
    have hm : s.n * 2 ^ (6 - s.k) < 64 := by
      have h4 : s.n * 2 ^ (6 - s.k) < 2 ^ s.k * 2 ^ (6 - s.k) := Nat.mul_lt_mul_of_pos_right hk.n (Nat.pow_pos (by decide))
      rw [← Nat.pow_add, show s.k + (6 - s.k) = 6 by omega] at h4
      exact h4
    refine ⟨vs ++ [s.n * 2 ^ (6 - s.k)], 6 - s.k, by simp [h0, h1], fun v hv => ?_, by omega, by rw [List.length_append]; simp only [List.length_cons, List.length_nil]; omega, ?_⟩
    · rcases List.mem_append.1 hv with h | h
      · exact h2 v h
      · rw [List.mem_singleton.1 h]; exact hm
    · rw [num_snoc, ← h3, Nat.add_mul, Nat.mul_assoc, ← Nat.pow_add, show s.k + (6 - s.k) = 6 by omega]
/-- There is one such row of numbers. -/
theorem enc_unique {l : List UInt8} {vs : List Nat} {p : Nat} (h2 : ∀ v ∈ vs, v < 64) (h3 : p < 6) (h4 : 6 * vs.length = 8 * l.length + p) (h5 : num 64 vs = num 256 (l.map UInt8.toNat) * 2 ^ p) : enc l = vs.map sign := by
  obtain ⟨ws, q, g1, g2, g3, g4, g5⟩ := enc_vals l
  have e1 : ws.length = vs.length := by omega
  have e2 : q = p := by omega
  rw [e2] at g5
  rw [g1, num_inj 64 vs.length ws vs e1 rfl g2 h2 (by rw [g5, h5])]
theorem num_app' (b : Nat) (l : List Nat) : ∀ (n : Nat) (r : List Nat), r.length = n → num b (l ++ r) = num b l * b ^ r.length + num b r
  | 0, r, h => by rw [List.eq_nil_of_length_eq_zero h]; simp [num]
  | n + 1, r, h => by
    rcases List.eq_nil_or_concat r with rfl | ⟨R, x, rfl⟩
    · cases h
    · simp only [List.concat_eq_append] at *
      rw [← List.append_assoc, num_snoc, num_snoc, num_app' b l n R (by simpa using h), List.length_append, List.length_singleton, Nat.pow_succ, Nat.add_mul, Nat.mul_assoc]
      omega
theorem num_app (b : Nat) (l r : List Nat) : num b (l ++ r) = num b l * b ^ r.length + num b r := num_app' b l _ r rfl
/-- The number of the first signs. -/
def vnum (t : List UInt8) : Nat → Nat
  | 0 => 0
  | i + 1 => vnum t i * 64 + (val (t.getD i 0)).toNat
theorem decS_num (t : List UInt8) : ∀ i, num 256 ((decS t i).o.map UInt8.toNat) * 2 ^ (decS t i).k + (decS t i).n = vnum t i
  | 0 => rfl
  | i + 1 => by
    have h3 := decS_num t i
    have hk := decS_ok t i
    have hv := val_lt (t.getD i 0)
    rw [show decS t (i + 1) = (decS t i).read (val (t.getD i 0)).toNat from rfl, show vnum t (i + 1) = vnum t i * 64 + (val (t.getD i 0)).toNat from rfl]
    generalize decS t i = s at *
    obtain ⟨v, hv2⟩ : ∃ v, v = (val (t.getD i 0)).toNat := ⟨_, rfl⟩
    have hv64 : v < 64 := by omega
    rw [← hv2]
    have hn := hk.n
    have e64 : s.n * 64 + v < 2 ^ (s.k + 6) := by rw [Nat.pow_add]; omega
    unfold En.read
    split
    · rename_i h8
      show num 256 ((s.o ++ [UInt8.ofNat ((s.n * 64 + v) / 2 ^ (s.k + 6 - 8))]).map UInt8.toNat) * 2 ^ (s.k + 6 - 8) + (s.n * 64 + v) % 2 ^ (s.k + 6 - 8) = _
      have hq : (s.n * 64 + v) / 2 ^ (s.k + 6 - 8) < 256 := by
        rw [Nat.div_lt_iff_lt_mul (Nat.pow_pos (by decide)), show (256 : Nat) = 2 ^ 8 from rfl, ← Nat.pow_add, show 8 + (s.k + 6 - 8) = s.k + 6 by omega]
        exact e64
      rw [List.map_append, List.map_cons, List.map_nil, num_snoc, UInt8.toNat_ofNat', Nat.mod_eq_of_lt hq, Nat.add_mul, Nat.add_assoc, Nat.div_add_mod', Nat.mul_assoc, show (256 : Nat) * 2 ^ (s.k + 6 - 8) = 2 ^ s.k * 64 by
        rw [show (256 : Nat) = 2 ^ 8 from rfl, show (64 : Nat) = 2 ^ 6 from rfl, ← Nat.pow_add, ← Nat.pow_add, show 8 + (s.k + 6 - 8) = s.k + 6 by omega], ← h3, ← Nat.mul_assoc]
      omega
    · show num 256 (s.o.map UInt8.toNat) * 2 ^ (s.k + 6) + (s.n * 64 + v) = _
      rw [Nat.pow_add, ← h3, ← Nat.mul_assoc]
      omega
theorem val_signs : ((List.range 64).all fun v => decide (val (sign v) = (v : Int))) = true := by kernel_rfl
theorem val_sign (v : Nat) (h : v < 64) : val (sign v) = (v : Int) := by
  have := List.all_eq_true.1 val_signs v (List.mem_range.2 h)
  simpa using this
theorem sign_valF (c : UInt8) : ∀ f, 0 ≤ valF f c → sign (valF f c).toNat = c
  | 0, h => by unfold valF at h; omega
  | f + 1, h => by
    unfold valF at h ⊢
    split
    · rename_i e
      rw [Int.toNat_natCast]
      exact e
    · rename_i e
      rw [if_neg e] at h
      exact sign_valF c f h
theorem sign_val (c : UInt8) (h : 0 ≤ val c) : sign (val c).toNat = c := sign_valF c 64 h
theorem vnum_take (t : List UInt8) : ∀ i, i ≤ t.length → vnum t i = num 64 ((t.take i).map fun c => (val c).toNat)
  | 0, _ => rfl
  | i + 1, h => by
    have e : t.getD i 0 = t[i] := by rw [List.getD_eq_getElem?_getD, List.getElem?_eq_getElem (show i < t.length by omega)]; rfl
    rw [show vnum t (i + 1) = vnum t i * 64 + (val (t.getD i 0)).toNat from rfl, vnum_take t i (by omega), List.take_add_one, List.getElem?_eq_getElem (show i < t.length by omega), List.map_append, e]
    exact (num_snoc 64 _ _).symm
theorem vnum_all (t : List UInt8) : vnum t t.length = num 64 (t.map fun c => (val c).toNat) := by rw [vnum_take t t.length (Nat.le_refl _), List.take_length]
theorem badF_of (l : List UInt8) : ∀ (f i : Nat), (∀ j, i ≤ j → j < i + f → 0 ≤ val (l.getD j 0)) → badF l f i = none
  | 0, _, _ => rfl
  | f + 1, i, h => by
    unfold badF
    have := h i (Nat.le_refl _) (by omega)
    rw [if_neg (by omega)]
    exact badF_of l f (i + 1) fun j h1 h2 => h j (by omega) (by omega)
theorem toNats_inj {a b : List UInt8} (h : a.map UInt8.toNat = b.map UInt8.toNat) : a = b := by
  have e : ∀ l : List UInt8, (l.map UInt8.toNat).map UInt8.ofNat = l := fun l => by
    rw [List.map_map]
    conv => rhs; rw [← List.map_id l]
    exact List.map_congr_left fun c _ => UInt8.ofNat_toNat
  rw [← e a, h, e b]
/-- What is written is read as it was. -/
theorem dec_enc (l : List UInt8) : dec (enc l) = (some l, 0) := by
  obtain ⟨vs, p, h1, h2, h3, h4, h5⟩ := enc_vals l
  rw [h1]
  have hm : (vs.map sign).length = vs.length := by simp
  have hval : ∀ v ∈ vs, val (sign v) = (v : Int) := fun v hv => val_sign v (h2 v hv)
  have hbad : badF (vs.map sign) (vs.map sign).length 0 = none := badF_of _ _ _ fun j _ hj => by
    have hj' : j < vs.length := by simpa using hj
    have e : (vs.map sign).getD j 0 = sign vs[j] := by
      rw [List.getD_eq_getElem?_getD, List.getElem?_map, List.getElem?_eq_getElem hj']
      rfl
    rw [e, hval _ (List.getElem_mem hj')]
    omega
  have hw : (vs.map sign).map (fun c => (val c).toNat) = vs := by
    rw [List.map_map]
    conv => rhs; rw [← List.map_id vs]
    refine List.map_congr_left fun v hv => ?_
    show (val (sign v)).toNat = v
    rw [hval v hv]
    rfl
  have hN := decS_num (vs.map sign) (vs.map sign).length
  have hk := decS_ok (vs.map sign) (vs.map sign).length
  rw [vnum_all, hw, h5] at hN
  unfold dec
  rw [hbad]
  generalize decS (vs.map sign) (vs.map sign).length = s at *
  have ho := hk.o
  have hkk := hk.k
  have hn := hk.n
  rw [hm] at ho ⊢
  have ek : s.k = p := by omega
  have el : s.o.length = l.length := by omega
  rw [ek] at hN hn
  have hn0 : s.n = 0 := by
    have h6 : (num 256 (s.o.map UInt8.toNat) * 2 ^ p + s.n) % 2 ^ p = s.n := by rw [Nat.mul_add_mod_self_right]; exact Nat.mod_eq_of_lt hn
    rw [hN, Nat.mul_mod_left] at h6
    exact h6.symm
  have hnum : num 256 (s.o.map UInt8.toNat) = num 256 (l.map UInt8.toNat) := Nat.eq_of_mul_eq_mul_right (Nat.pow_pos (n := p) (show 0 < 2 by decide)) (by omega)
  have hol : s.o = l := toNats_inj (num_inj 256 l.length _ _ (by rw [List.length_map, el]) (by rw [List.length_map]) (fun x hx => by
    obtain ⟨c, _, rfl⟩ := List.mem_map.1 hx
    exact c.toNat_lt) (fun x hx => by
    obtain ⟨c, _, rfl⟩ := List.mem_map.1 hx
    exact c.toNat_lt) hnum)
  show (if vs.length % 4 = 1 then _ else _) = _
  rw [if_neg (by omega), if_neg (by omega), hol]
/-- What is read is written as it was. -/
theorem enc_dec (t c : List UInt8) (j : Nat) (h : dec t = (some c, j)) : enc c = t := by
  unfold dec at h
  split at h
  · cases h
  · rename_i hbad
    split at h
    · cases h
    · rename_i h4
      split at h
      · cases h
      · rename_i hn0
        injection h with h5 h6
        injection h5 with h5
        have hN := decS_num t t.length
        have hk := decS_ok t t.length
        rw [vnum_all] at hN
        generalize decS t t.length = s at *
        have hn : s.n = 0 := by omega
        rw [hn, h5] at hN
        obtain ⟨vs, p, g1, g2, g3, g4, g5⟩ := enc_vals c
        have ho := hk.o
        have hkk := hk.k
        rw [h5] at ho
        have ek : s.k = p := by
          obtain ⟨q, hq⟩ : ∃ q, q = t.length / 4 := ⟨_, rfl⟩
          have h7 : t.length = 4 * q ∨ t.length = 4 * q + 2 ∨ t.length = 4 * q + 3 := by omega
          rcases h7 with h7 | h7 | h7 <;> rw [h7] at ho
          · have : c.length = 3 * q := by omega
            omega
          · have : c.length = 3 * q + 1 := by omega
            omega
          · have : c.length = 3 * q + 2 := by omega
            omega
        have el : vs.length = t.length := by omega
        have hpos : ∀ x ∈ t, 0 ≤ val x := fun x hx => by
          obtain ⟨q, hq, rfl⟩ := List.getElem_of_mem hx
          have := badF_none t t.length 0 hbad q (by omega) (by omega)
          rwa [List.getD_eq_getElem?_getD, List.getElem?_eq_getElem hq] at this
        have hvs : vs = t.map (fun c => (val c).toNat) := num_inj 64 t.length _ _ el (by rw [List.length_map]) g2 (fun x hx => by
          obtain ⟨y, _, rfl⟩ := List.mem_map.1 hx
          have := val_lt y
          omega) (by rw [g5, ← ek]; omega)
        rw [g1, hvs, List.map_map]
        conv => rhs; rw [← List.map_id t]
        exact List.map_congr_left fun y hy => sign_val y (hpos y hy)
end Go.Dg
