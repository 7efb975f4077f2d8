/-
  The document's Decode.
-/
import Derived.Test.YtkfmfdnfjeofiaaDoorHj
namespace Go.Dg
open Go.RowKit Go.Wi
/-- The value of a sign, from number 64 - f on. -/
def valF : Nat → UInt8 → Int
  | 0, _ => -1
  | f + 1, c => if sign (64 - (f + 1)) = c then ((64 - (f + 1) : Nat) : Int) else valF f c
def val (c : UInt8) : Int := valF 64 c
theorem valF_lt : ∀ (f : Nat) (c : UInt8), f ≤ 64 → valF f c < 64 ∧ -1 ≤ valF f c
  | 0, _, _ => by unfold valF; omega
  | f + 1, c, h => by
    have := valF_lt f c (by omega)
    unfold valF
    split <;> omega
theorem val_lt (c : UInt8) : val c < 64 ∧ -1 ≤ val c := valF_lt 64 c (by omega)
/-- Behind some signs: the number so far, its bits, what was read. -/
def En.read (s : En) (v : Nat) : En := if s.k + 6 ≥ 8 then ⟨(s.n * 64 + v) % 2 ^ (s.k + 6 - 8), s.k + 6 - 8, s.o ++ [UInt8.ofNat ((s.n * 64 + v) / 2 ^ (s.k + 6 - 8))]⟩ else ⟨s.n * 64 + v, s.k + 6, s.o⟩
def decS (l : List UInt8) : Nat → En
  | 0 => ⟨0, 0, []⟩
  | i + 1 => (decS l i).read (val (l.getD i 0)).toNat
structure En.Ok8 (s : En) (i : Nat) : Prop where
  k : s.k < 8
  n : s.n < 2 ^ s.k
  o : 8 * s.o.length + s.k = 6 * i
theorem En.Ok8.read {s : En} {i v : Nat} (h : s.Ok8 i) (hv : v < 64) : (s.read v).Ok8 (i + 1) := by
  obtain ⟨h1, h2, h3⟩ := h
  unfold En.read
  split
  · rename_i h
    refine ⟨by show s.k + 6 - 8 < 8; omega, by show _ % 2 ^ _ < 2 ^ _; exact Nat.mod_lt _ (Nat.pow_pos (by decide)), ?_⟩
    simp only [List.length_append, List.length_cons, List.length_nil]
    omega
  · rename_i h
    refine ⟨by show s.k + 6 < 8; omega, ?_, by show 8 * s.o.length + (s.k + 6) = 6 * (i + 1); omega⟩
    show s.n * 64 + v < 2 ^ (s.k + 6)
    rw [Nat.pow_add]
    omega
theorem decS_ok (l : List UInt8) : ∀ i, (decS l i).Ok8 i
  | 0 => ⟨by show 0 < 8; decide, by show 0 < 2 ^ 0; decide, rfl⟩
  | i + 1 => (decS_ok l i).read (by have := val_lt (l.getD i 0); omega)
/-- The first sign that is none, if there is one. -/
def badF (l : List UInt8) : Nat → Nat → Option Nat
  | 0, _ => none
  | f + 1, i => if val (l.getD i 0) < 0 then some i else badF l f (i + 1)
theorem badF_none (l : List UInt8) : ∀ (f i : Nat), badF l f i = none → ∀ j, i ≤ j → j < i + f → 0 ≤ val (l.getD j 0)
  | 0, i, _, j, h1, h2 => by omega
  | f + 1, i, h, j, h1, h2 => by
    unfold badF at h
    split at h
    · cases h
    · rename_i h3
      by_cases e : j = i
      · subst e; omega
      · exact badF_none l f (i + 1) h j (by omega) (by omega)
/-- What is read; else the place of the fault. -/
def dec (l : List UInt8) : Option (List UInt8) × Nat :=
  match badF l l.length 0 with
  | some i => (none, i)
  | none => if l.length % 4 = 1 then (none, l.length - 1) else if (decS l l.length).n ≠ 0 then (none, l.length - 1) else (some (decS l l.length).o, 0)
/-- As it is given back. -/
def decV (r : Option (List UInt8) × Nat) : Value := match r with
  | (none, i) => .tuple #[.string ⟨#[]⟩, .int .i64 (i : Int), .int .i64 160]
  | (some o, _) => .tuple #[.string ⟨o.toArray⟩, .int .i64 0, .int .i64 0]
end Go.Dg
namespace Go.Proofs
open Go.RowKit Go.Wi Go.Dg
set_option maxRecDepth 20000 in
set_option maxHeartbeats 1000000 in
theorem Tryd.refValue_any (c : UInt8) (w : World) :
    Calls Tryd.prog 38 #[.int .u8 (c.toNat : Nat)] w fun e w' => e = .returned (.int .i64 (val c)) ∧ ∃ m, w' = w.drewN m := by
  go_enter Tryd.func38, Tryd.ntmps38
  go_wp2
  go_loopw [3] (fun iv wr => ∃ (i : Nat), iv = .int .i64 (i : Int) ∧ i ≤ 64 ∧ Hid (val c = valF (64 - i) c) ∧ wr = w) (fun iv _ => 64 - (intOf iv).toNat)
  case atStart => exact ⟨0, rfl, by omega, rfl, rfl⟩
  case round =>
    obtain ⟨i, rfl, hi, Hv, rfl⟩ := hrel
    by_cases hlt : i < 64
    · have q1 : (i : Int) < 64 := by omega
      have q2 : (0 : Int) ≤ i := by omega
      have hsg := sign_at i hlt
      have Hv2 : Hid (val c = if sign i = c then (i : Int) else valF (64 - (i + 1)) c) := (by
        show _ = _
        rw [Hv.out, show 64 - i = (64 - (i + 1)) + 1 by omega, valF, show 64 - (64 - (i + 1) + 1) = i by omega])
      by_cases hc : sign i = c
      · have HR : Hid (val c = (i : Int)) := (by show _ = _; rw [Hv2.out, if_pos hc])
        have q3 : ((sign i).toNat : Int) = (c.toNat : Int) := by rw [hc]
        have Hc : Hid (sign i = c) := hc
        clear hc Hv2
        go_wp2
        go_ret
        exact ⟨by rw [HR.out]; rfl, 0, rfl⟩
      · have HR : Hid (val c = valF (64 - (i + 1)) c) := (by show _ = _; rw [Hv2.out, if_neg hc])
        have q3 : ¬ (sign i).toNat = c.toNat := fun e => hc (UInt8.toNat_inj.1 e)
        clear Hv2
        go_wp2
        refine ⟨⟨i + 1, by go_num, by omega, HR, trivial⟩, ?_⟩
        simp [intOf]; omega
    · have q1 : ¬ (i : Int) < 64 := by omega
      obtain rfl : i = 64 := by omega
      go_wp2
      go_ret
      exact ⟨by rw [Hv.out]; rfl, 0, rfl⟩
set_option maxRecDepth 20000 in
set_option maxHeartbeats 1000000 in
theorem Tryd.refDec_any (b : ByteArray) (hb : b.size ≤ 140737488355328) (w : World) :
    Calls Tryd.prog 28 #[.string b] w fun e w' => e = .returned (decV (dec b.toList)) ∧ Below w.heap.size w w' := by
  go_enter Tryd.func28, Tryd.ntmps28
  obtain ⟨N, hN⟩ : ∃ N : Nat, N = b.size := ⟨_, rfl⟩
  have HN : Hid (N = b.size) := hN
  have hNb : b.size = N := hN.symm
  have hN2 : N ≤ 140737488355328 := by omega
  have Hll : Hid (b.toList.length = N) := (by rw [hN]; exact Dg.list_len b)
  have HG : Hid (∀ i (h : i < b.size), b.toList.getD i 0 = b[i]) := (fun i h => by
    rw [ByteArray.toList_eq, List.getD_eq_getElem?_getD, List.getElem?_eq_getElem (show i < b.data.toList.length from h)]
    rfl)
  clear hN hb
  go_wp2
  go_loopw [5] (fun iv wr => ∃ (i m : Nat), iv = .int .i64 (i : Int) ∧ i ≤ N ∧ Hid (badF b.toList N 0 = badF b.toList (N - i) i) ∧ wr = w.drewN m) (fun iv _ => N - (intOf iv).toNat)
  case atStart => exact ⟨0, 0, rfl, by omega, rfl, rfl⟩
  case round =>
    obtain ⟨i, m, rfl, hi, Hbd, rfl⟩ := hrel
    by_cases hlt : i < N
    · have q1 : (i : Int) < N := by omega
      have q2 : (0 : Int) ≤ i := by omega
      have hib : i < b.size := by omega
      have Hx : Hid (b.toList.getD i 0 = b[i]'hib) := HG.out i hib
      obtain ⟨x, hx⟩ : ∃ x, x = b[i]'hib := ⟨_, rfl⟩
      have Hb2 : Hid (badF b.toList N 0 = if val x < 0 then some i else badF b.toList (N - (i + 1)) (i + 1)) := (by
        show _ = _
        rw [Hbd.out, show N - i = (N - (i + 1)) + 1 by omega, badF, Hx.out, ← hx])
      have hc := Tryd.refValue_any x
      rw [hx] at hc
      by_cases hv : val x < 0
      · rw [hx] at hv
        have HR : Hid (decV (dec b.toList) = .tuple #[.string ⟨#[]⟩, .int .i64 (i : Int), .int .i64 160]) := (by
          show _ = _
          unfold dec
          rw [Hll.out, Hb2.out, hx, if_pos hv]
          rfl)
        clear Hb2 hx
        go_wp2_with (first | (go_at_call 38; refine (hc _).mono ?_; clear hc; rintro z w1 ⟨rfl, m1, rfl⟩) | fail)
        refine bodyPost_ret (results_tmp3 rfl _ _ _) rfl ?_
        exact ⟨by rw [HR.out]; rfl, belowN (Below.refl _ w) _⟩
      · have Hb3 : Hid (badF b.toList N 0 = badF b.toList (N - (i + 1)) (i + 1)) := (by show _ = _; rw [Hb2.out, if_neg hv])
        rw [hx] at hv
        clear Hb2 hx
        go_wp2_with (first | (go_at_call 38; refine (hc _).mono ?_; clear hc; rintro z w1 ⟨rfl, m1, rfl⟩) | fail)
        refine ⟨⟨i + 1, _, by go_num, by omega, Hb3, rfl⟩, ?_⟩
        simp [intOf]; omega
    · have q1 : ¬ (i : Int) < N := by omega
      obtain rfl : i = N := by omega
      have HB0 : Hid (badF b.toList i 0 = none) := (by show _ = _; rw [Hbd.out, Nat.sub_self]; rfl)
      clear Hbd
      by_cases h4 : i % 4 = 1
      · have q4 : (i : Int) % 4 = 1 := by omega
        obtain ⟨i1, hi1⟩ : ∃ i1 : Nat, i1 = i - 1 := ⟨_, rfl⟩
        have q5 : IntKind.i64.wrap ((i : Int) - 1) = (i1 : Int) := by rw [IntKind.wrap_i64]; omega
        have HR : Hid (decV (dec b.toList) = .tuple #[.string ⟨#[]⟩, .int .i64 (i1 : Int), .int .i64 160]) := (by
          show _ = _
          unfold dec
          rw [Hll.out, HB0.out]
          show decV (if i % 4 = 1 then _ else _) = _
          rw [if_pos h4, ← hi1]
          rfl)
        clear hi1
        go_wp2
        refine bodyPost_ret (results_tmp3 rfl _ _ _) rfl ?_
        exact ⟨by rw [HR.out]; rfl, belowN (Below.refl _ w) _⟩
      · have q4 : ¬ (i : Int) % 4 = 1 := by omega
        go_wp2
        go_loopw [6, 7, 8, 9] (fun v nv kv iv wr => ∃ (j n k O : Nat) (o : List UInt8) (ad : Option Addr) (cap : Nat), v = .slice ad O cap ∧ nv = .int .i64 (n : Int) ∧ kv = .int .i64 (k : Int) ∧ iv = .int .i64 (j : Int) ∧ j ≤ i ∧ Hid (O = o.length) ∧ Hid (decS b.toList j = ⟨n, k, o⟩) ∧ Hid (Ob wr w.heap.size v o) ∧ Hid (Below w.heap.size w wr)) (fun _ _ _ iv _ => i - (intOf iv).toNat)
        case atStart => exact ⟨0, 0, 0, 0, [], none, 0, rfl, rfl, rfl, rfl, by omega, rfl, rfl, Ob.nil _ _, belowN (Below.refl _ w) _⟩
        case round =>
          obtain ⟨j, n, k, O, o, ad, cap, rfl, rfl, rfl, rfl, hj, HOl, Hst, Ho, Hw⟩ := hrel
          have Hok : Hid ((⟨n, k, o⟩ : En).Ok8 j) := (by rw [← Hst.out]; exact decS_ok _ _)
          have hk8 : k < 8 := Hok.out.k
          have Hn2 : Hid (n < 2 ^ k) := Hok.out.n
          have hn : n < 128 := Nat.lt_of_lt_of_le Hn2.out (Nat.pow_le_pow_right (by decide) (show k ≤ 7 by omega))
          by_cases hlt2 : j < i
          · have q1 : (j : Int) < i := by omega
            have q2 : (0 : Int) ≤ j := by omega
            have hjb : j < b.size := by omega
            have Hx : Hid (b.toList.getD j 0 = b[j]'hjb) := HG.out j hjb
            have hv0 := badF_none b.toList i 0 HB0.out j (by omega) (by omega)
            have hv1 := val_lt (b.toList.getD j 0)
            obtain ⟨v, hv⟩ : ∃ v : Nat, v = (val (b.toList.getD j 0)).toNat := ⟨_, rfl⟩
            have hv64 : v < 64 := by omega
            have f0 : val (b[j]'hjb) = (v : Int) := by rw [← Hx.out]; omega
            have Hnx : Hid (decS b.toList (j + 1) = (⟨n, k, o⟩ : En).read v) := (by
              show (decS b.toList j).read (val (b.toList.getD j 0)).toNat = _
              rw [Hst.out, hv])
            have hc := Tryd.refValue_any (b[j]'hjb)
            rw [f0] at hc
            obtain ⟨n2, hn2⟩ : ∃ n2 : Nat, n2 = n * 64 + v := ⟨_, rfl⟩
            have f4 : (n : Int) * 64 + (v : Int) = (n2 : Int) := by omega
            have hn64 : n2 < 8192 := by omega
            have Hn : Hid (n2 = n * 64 + v) := hn2
            clear hv hv0 hv1 hn2 f0
            by_cases hk5 : 8 ≤ k + 6
            · have q6 : (8 : Int) ≤ (k : Int) + 6 := by omega
              obtain ⟨k2, hk2⟩ : ∃ k2 : Nat, k2 = k + 6 - 8 := ⟨_, rfl⟩
              have f5 : (k : Int) + 6 - 8 = (k2 : Int) := by omega
              have hk28 : k2 < 8 := by omega
              have Hk2 : Hid (k2 = k + 6 - 8) := hk2
              clear hk2
              have Hcs : Hid (#[Value.int .u8 ((n2 : Int) / 2 ^ k2 % 256)] = (Lib.byteCells [UInt8.ofNat (n2 / 2 ^ k2)]).toArray) := (by
                have e2 : ((n2 : Int) / 2 ^ k2 % 256) = (((UInt8.ofNat (n2 / 2 ^ k2)).toNat : Nat) : Int) := by
                  rw [UInt8.toNat_ofNat']
                  simp
                show _ = _
                rw [e2]
                rfl)
              obtain ⟨n3, hn3⟩ : ∃ n3 : Nat, n3 = n2 % 2 ^ k2 := ⟨_, rfl⟩
              obtain ⟨D, hD⟩ : ∃ D : Nat, D = 2 ^ k2 := ⟨_, rfl⟩
              have hD1 : D ≤ 2 ^ 8 := by rw [hD]; exact Nat.pow_le_pow_right (by decide) (by omega)
              have hD2 : 0 < D := by rw [hD]; exact Nat.pow_pos (by decide)
              have f6 : IntKind.i64.wrap ((2 : Int) ^ k2) = (D : Int) := by
                have h1 : (2 : Int) ^ k2 = (D : Int) := by rw [hD]; simp
                rw [h1, IntKind.wrap_i64]
                omega
              have f7 : (n2 : Int).tmod (D : Int) = (n3 : Int) := by
                rw [Int.tmod_eq_emod_of_nonneg (by omega), hn3, ← hD]
                simp
              have f8 : ¬ (D : Int) = 0 := by omega
              have f9 : ¬ D = 0 := by omega
              clear hD
              have Hn3 : Hid (n3 = n2 % 2 ^ k2) := hn3
              have Hlen : Hid (o.length + [UInt8.ofNat (n2 / 2 ^ k2)].length ≤ 140737488355328) := (by show _ ≤ _; have h1 : 8 * o.length + k = 6 * j := Hok.out.o; simp only [List.length_cons, List.length_nil]; omega)
              have Hsz : Hid (w.heap.size ≤ wr.heap.size) := Hw.out.size
              clear hn3
              go_wp2_with (first | (go_at_call 38; refine (hc _).mono ?_; clear hc; rintro z w1 ⟨rfl, m1, rfl⟩) | (at_builtin; refine Tryd.appN rfl (.tmp 48) (.tmp 53) rfl ((Ho.out.drewN m1).alloc _) (by have := Hsz.out; simp; omega) rfl [UInt8.ofNat (n2 / 2 ^ k2)] 1 _ rfl rfl (by decide) _ Hcs.out (heap_alloc_new _ _) Hlen.out ?_; intro ad3 cap3 w3 ho3 hw3; rw [← HOl.out] at ho3 ⊢; have HO3 : Hid _ := ho3; have HB3 : Hid _ := Dg.ob_step2 (belowN Hw.out m1) hw3 (Ho.out.drewN m1); clear ho3 hw3) | fail)
              refine ⟨⟨j + 1, n3, k2, O + 1, o ++ [UInt8.ofNat (n2 / 2 ^ k2)], ad3, cap3, rfl, rfl, rfl, by go_num, by omega, ?_, ?_, HO3, HB3⟩, ?_⟩
              · have h1 := HOl.out
                show _ = _
                rw [List.length_append, h1]
                rfl
              · show _ = _
                rw [Hnx.out, En.read, if_pos (by show k + 6 ≥ 8; omega), Hn3.out, Hk2.out, Hn.out]
              · simp [intOf]; omega
            · have q6 : ¬ (8 : Int) ≤ (k : Int) + 6 := by omega
              go_wp2_with (first | (go_at_call 38; refine (hc _).mono ?_; clear hc; rintro z w1 ⟨rfl, m1, rfl⟩) | fail)
              refine ⟨⟨j + 1, n2, k + 6, O, o, ad, cap, rfl, rfl, by go_num, by go_num, by omega, HOl, ?_, Ho.out.drewN m1, belowN Hw.out m1⟩, ?_⟩
              · show _ = _
                rw [Hnx.out, En.read, if_neg (by show ¬ k + 6 ≥ 8; omega), Hn.out]
              · simp [intOf]; omega
          · have q1 : ¬ (j : Int) < i := by omega
            obtain rfl : j = i := by omega
            have HE : Hid (dec b.toList = if n ≠ 0 then (none, j - 1) else (some o, 0)) := (by
              show _ = _
              unfold dec
              rw [Hll.out, HB0.out]
              show (if j % 4 = 1 then _ else _) = _
              rw [if_neg h4, Hst.out])
            by_cases hn0 : n = 0
            · subst hn0
              have HR : Hid (decV (dec b.toList) = .tuple #[.string ⟨o.toArray⟩, .int .i64 0, .int .i64 0]) := (by
                show _ = _
                rw [HE.out, if_neg (by simp)]
                rfl)
              clear HE
              have hcv := Tryd.conv_bs (Ob.bs Ho.out)
              go_wp2
              refine bodyPost_ret (results_tmp3 rfl _ _ _) rfl ?_
              exact ⟨by rw [HR.out]; rfl, Hw.out⟩
            · have q7 : ¬ (n : Int) = 0 := by omega
              obtain ⟨i1, hi1⟩ : ∃ i1 : Nat, i1 = j - 1 := ⟨_, rfl⟩
              have hj1 : 0 < j := by
                rcases Nat.eq_zero_or_pos j with e | e
                · have h1 := Hst.out
                  rw [e] at h1
                  injection h1 with h1
                  exact absurd h1.symm hn0
                · exact e
              have q5 : IntKind.i64.wrap ((j : Int) - 1) = (i1 : Int) := by rw [IntKind.wrap_i64]; omega
              have HR : Hid (decV (dec b.toList) = .tuple #[.string ⟨#[]⟩, .int .i64 (i1 : Int), .int .i64 160]) := (by
                show _ = _
                rw [HE.out, if_pos hn0, ← hi1]
                rfl)
              clear HE hi1
              go_wp2
              refine bodyPost_ret (results_tmp3 rfl _ _ _) rfl ?_
              exact ⟨by rw [HR.out]; rfl, Hw.out⟩
end Go.Proofs
