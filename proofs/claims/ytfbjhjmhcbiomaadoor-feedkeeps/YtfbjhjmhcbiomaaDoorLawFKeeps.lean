/-
  FEED: FeedKeeps.
-/
import Derived.Test.YtfbjhjmhcbiomaaDoorFdX
namespace Go.Proofs
open Go.RowKit Go.Wi Go.Fd Go.Sort
theorem Fd.wo_tb {B : Nat} {w0 w : World} (h : Below B w0 w) (hT : Tryd.Tb w0) (hB : w0.heap.size ≤ B) : Tryd.Tb w := hT.below h (Nat.le_trans hT.size hB)
/-- Is a text one of the first places, or none? -/
def Fd.kn (s : ByteArray) : Nat → Bool
  | 0 => s.toList.isEmpty
  | j + 1 => Fd.kn s j || (s.toList == (Fd.fmt j).toList)
theorem Fd.kn_next (s : ByteArray) (j : Nat) : Fd.kn s (j + 1) = (Fd.kn s j || (s.toList == (Fd.fmt j).toList)) := rfl
theorem Fd.kn_yes {s : ByteArray} : ∀ {j : Nat}, Fd.kn s j = true → s = ⟨#[]⟩ ∨ ∃ k, k < j ∧ s = Fd.fmt k
  | 0, h => by
    left
    refine toList_inj ?_
    rw [ByteArray.toList_eq ⟨#[]⟩]
    simpa [Fd.kn] using h
  | j + 1, h => by
    rw [Fd.kn_next, Bool.or_eq_true] at h
    rcases h with h | h
    · rcases Fd.kn_yes h with e | ⟨k, h1, h2⟩
      · exact .inl e
      · exact .inr ⟨k, by omega, h2⟩
    · exact .inr ⟨j, by omega, toList_inj (by simpa using h)⟩
theorem Fd.kn_no {s : ByteArray} : ∀ {j : Nat}, Fd.kn s j = false → s ≠ ⟨#[]⟩ ∧ ∀ k, k < j → s ≠ Fd.fmt k
  | 0, h => by
    refine ⟨?_, fun k hk => by omega⟩
    rintro rfl
    rw [Fd.kn, ByteArray.toList_eq] at h
    simp at h
  | j + 1, h => by
    rw [Fd.kn_next, Bool.or_eq_false_iff] at h
    obtain ⟨h1, h2⟩ := Fd.kn_no h.1
    refine ⟨h1, fun k hk e => ?_⟩
    by_cases e2 : k = j
    · subst e2
      have := h.2
      rw [e] at this
      simp at this
    · exact h2 k (by omega) e
theorem Tryd.since_known {B hb m : Nat} {w : World} {F : ByteArray → Option Sh} (h : Tryd.Hx B w hb m F) (hT : Tryd.Tb w) {u : ByteArray} (hu : u.size ≤ maxLen) {n : Nat} (hF : Fd.keptOf F u = (n, Sn n)) (hn : 1 ≤ n) (hn2 : n ≤ 1000) {s : ByteArray} (hs : Fd.kn s (n + 1) = true) :
    Calls Tryd.prog 10 #[.pointer (some ⟨hb, 0, none⟩), .string u, .string s] w fun e w' => ∃ V G b nx, e = .returned (.tuple #[V, G, .bool b, .string nx, .int .i64 0]) ∧ Below w.heap.size w w' := by
  rcases Fd.kn_yes hs with rfl | ⟨k, hk, rfl⟩
  · refine (Tryd.since_empty h hT hu).mono ?_
    rintro e w' ⟨V, l, rfl, _, _, hb'⟩
    exact ⟨_, _, _, _, rfl, hb'⟩
  · refine (Tryd.since_at h hT hu hF hn (show k ≤ n by omega) (Fd.at_fmt k (by omega))).mono ?_
    rintro e w' ⟨ad, cap, ag, cg, rfl, hb'⟩
    exact ⟨_, _, _, _, rfl, hb'⟩
theorem Tryd.since_unknown {B hb m : Nat} {w : World} {F : ByteArray → Option Sh} (h : Tryd.Hx B w hb m F) (hT : Tryd.Tb w) {u : ByteArray} (hu : u.size ≤ maxLen) {n : Nat} (hF : Fd.keptOf F u = (n, Sn n)) {s : ByteArray} (hsz : s.size ≤ 281474976710656) (hs : Fd.kn s (n + 1) = false) :
    Calls Tryd.prog 10 #[.pointer (some ⟨hb, 0, none⟩), .string u, .string s] w fun e w' => e = .returned (.tuple #[.slice none 0 0, .slice none 0 0, .bool false, .string ⟨#[]⟩, .int .i64 200]) ∧ Below w.heap.size w w' := by
  obtain ⟨h1, h2⟩ := Fd.kn_no hs
  refine Tryd.since_wrong h hT hu hsz h1 fun k hk => ?_
  rw [hF]
  show n < k
  rcases Nat.lt_or_ge n k with e | e
  · exact e
  · exact absurd hk.2 (h2 k (by omega))
theorem Fd.fmt_size (n : Nat) (h : n ≤ 9223372036854775807) : (Fd.fmt n).size ≤ 281474976710656 := by
  have := Lib.itoa_length_le n (by omega) (by omega)
  show (Lib.itoa (n : Int)).toArray.size ≤ _
  simp
  omega
set_option maxRecDepth 20000 in
set_option maxHeartbeats 1000000 in
theorem Tryd.feedKeepsWalk (many ask : Int) (hm1 : -9223372036854775808 ≤ many) (hm2 : many ≤ 9223372036854775807) (ha1 : -9223372036854775808 ≤ ask) (ha2 : ask ≤ 9223372036854775807) (other : ByteArray) (ho : other.size ≤ 281474976710656) (w : World) (hT : Tryd.Tb w) :
    Calls Tryd.prog 3 #[.int .i64 many, .int .i64 ask, .string other] w fun e w' => e = .returned (.bool true) ∧ Below w.heap.size w w' := by
  have haw := Tryd.awake_any w hT
  have hpm := Tryd.pick_any many 120 (by omega) (by omega) hm1 hm2
  have HN : ∃ n0, n0 = pickN many 120 ∧ n0 < 120 := ⟨_, rfl, pickN_lt many (by omega)⟩
  obtain ⟨n0, hn0, hn1⟩ := HN
  rw [← hn0] at hpm
  have HT : Hid (Tryd.Tb w) := hT
  have HO : Hid (other.size ≤ 281474976710656) := ho
  have HA : Hid (-9223372036854775808 ≤ ask ∧ ask ≤ 9223372036854775807) := ⟨ha1, ha2⟩
  have H2 : Hid ((⟨#[64, 97]⟩ : ByteArray).size ≤ maxLen) := by show _ ≤ _; unfold maxLen; decide
  have H3 : Hid ((⟨#[64, 98]⟩ : ByteArray).size ≤ maxLen) := by show _ ≤ _; unfold maxLen; decide
  clear hT ho hm1 hm2 ha1 ha2 hn0
  go_enter Tryd.func3, Tryd.ntmps3
  go_upto_region 7 with (first
    | (go_at_call 6; refine haw.mono ?_; clear haw; rintro e w1 ⟨rfl, hb1⟩)
    | (go_at_call 7; refine (Tryd.Hx.new _).mono ?_; rintro e w2 ⟨hb, rfl, hH2, hb2⟩)
    | (go_at_call 8; refine (hpm _).mono ?_; clear hpm; rintro e w3 ⟨rfl, hw3⟩; subst hw3)
    | fail)
  have HH : Hid (Tryd.Hx w1.heap.size w3 hb 0 (fun _ => none)) := hH2
  have HB : Hid (Below w.heap.size w w1 ∧ Below w1.heap.size w1 w3) := ⟨hb1, hb2⟩
  clear hH2 hb1 hb2
  go_loopw [10] (fun iv wr => ∃ (i : Nat) (F : ByteArray → Option Sh), iv = .int .i64 ((i + 1 : Nat) : Int) ∧ i ≤ 1 + n0 ∧ Tryd.Hx w1.heap.size wr hb i F ∧ Below w1.heap.size w1 wr ∧ Fd.keptOf F ⟨#[64, 97]⟩ = (i, Sn i) ∧ Fd.keptOf F ⟨#[64, 98]⟩ = sh0) (fun iv _ => 200 - (intOf iv).toNat)
  case atStart => exact ⟨0, _, rfl, by omega, HH.out, HB.out.2, rfl, rfl⟩
  case round =>
    obtain ⟨i, F, rfl, hi, hH, hbw, hK1, hK2⟩ := hrel
    have HHi : Hid (Tryd.Hx w1.heap.size wr hb i F) := hH
    have HBi : Hid (Below w1.heap.size w1 wr) := hbw
    have HKi : Hid (Fd.keptOf F ⟨#[64, 97]⟩ = (i, Sn i) ∧ Fd.keptOf F ⟨#[64, 98]⟩ = sh0) := ⟨hK1, hK2⟩
    clear hH hbw hK1 hK2 HH
    by_cases hlt : i < 1 + n0
    · have q : ((i + 1 : Nat) : Int) ≤ 1 + (n0 : Int) := by omega
      have hb2 : Below wr.heap.size wr (wr.alloc (.cells #[.string ⟨#[33, 114]⟩, .int .i64 ((i + 1 : Nat) : Int), .int .i64 0] 28)) := (Below.refl _ wr).alloc (Nat.le_refl _) _
      have hp := (HHi.out.past hb2).put ⟨#[64, 97]⟩ H2.out (by omega) (Fd.cs_one (x := ⟨⟨#[33, 114]⟩, ((i + 1 : Nat) : Int), 0⟩) (heap_alloc_new wr (.cells #[.string ⟨#[33, 114]⟩, .int .i64 ((i + 1 : Nat) : Int), .int .i64 0] 28))) (fun k e => by cases e; simp) (by simp)
      rw [sheet_shi] at hp
      have HK1 : Hid (Fd.keptOf (putF F ⟨#[64, 97]⟩ (shi (i + 1))) ⟨#[64, 97]⟩ = (i + 1, Sn (i + 1)) ∧ Fd.keptOf (putF F ⟨#[64, 97]⟩ (shi (i + 1))) ⟨#[64, 98]⟩ = sh0) := ⟨Fd.kept_next HKi.out.1 (by omega), by rw [Fd.kept_put, if_neg (by intro e; injection e with e; injection e with e; cases e)]; exact HKi.out.2⟩
      have HB2 : Hid (Below w1.heap.size w1 (wr.alloc (.cells #[.string ⟨#[33, 114]⟩, .int .i64 ((i + 1 : Nat) : Int), .int .i64 0] 28))) := Fd.bel_on HBi.out HBi.out.size hb2
      clear hb2
      generalize hI : ((i + 1 : Nat) : Int) = I at *
      go_wp2_with (first
        | (go_at_call 9; refine hp.mono ?_; clear hp; rintro e w4 ⟨rfl, hH4, hb4⟩)
        | fail)
      exact ⟨⟨i + 1, _, by rw [← hI]; simp, by omega, hH4, HB2.out.trans hb4, HK1.out.1, HK1.out.2⟩, by simp [intOf]; omega⟩
    · have e : i = 1 + n0 := by omega
      have q : ¬ ((i + 1 : Nat) : Int) ≤ 1 + (n0 : Int) := by omega
      have hi1 : 1 ≤ i := by omega
      have hi2 : i ≤ 120 := by omega
      have HTr : Hid (Tryd.Tb wr) := (HT.out.past HB.out.1).past HBi.out
      have hni : (1 : Int) + (n0 : Int) = (i : Int) := by omega
      have hpk := Tryd.pick_any ask (i + 1) (by omega) (by omega) HA.out.1 HA.out.2
      obtain ⟨k, hk, hk1⟩ : ∃ k, k = pickN ask (i + 1) ∧ k < i + 1 := ⟨_, rfl, pickN_lt ask (by omega)⟩
      rw [← hk] at hpk
      have hdk := Tryd.digits_any k k (Nat.le_refl _) (by omega)
      have hdi := Tryd.digits_any i i (Nat.le_refl _) (by omega)
      have hdj := Tryd.digits_any (i + 1) (i + 1) (Nat.le_refl _) (by omega)
      have hs2 := fun (W : World) (hW : Below wr.heap.size wr W) => Tryd.since_wrong (HHi.out.past hW) (HTr.out.past hW) H2.out (s := Fd.fmt (i + 1)) (Fd.fmt_size (i + 1) (by omega)) (Fd.fmt_ne _) (fun j hj => by rw [HKi.out.1]; have := Fd.at_one hj (Fd.at_fmt (i + 1) (by omega)); show i < j; omega)
      have hs3 := fun (W : World) (hW : Below wr.heap.size wr W) => Tryd.since_wrong (HHi.out.past hW) (HTr.out.past hW) H3.out (s := Fd.fmt i) (Fd.fmt_size i (by omega)) (Fd.fmt_ne _) (fun j hj => by rw [HKi.out.2]; have := Fd.at_one hj (Fd.at_fmt i (by omega)); show 0 < j; omega)
      have hkz : ((i : Int) + 1) = ((i + 1 : Nat) : Int) := by omega
      simp only [← hkz] at hdj hpk q
      clear hk hkz hlt hi HA hn1 e q
      go_upto_region 11 with (first
        | (go_at_call 8; refine (hpk _).mono ?_; clear hpk; rintro e w4 ⟨rfl, hw4⟩; subst hw4)
        | fail)
      have HBW : Hid (Below w.heap.size w w4) := Fd.bel_on HB.out.1 HB.out.1.size HBi.out
      by_cases hA : 50 < i - k
      · have k50 : (50 : Int) < (i : Int) - (k : Int) := by omega
        have hs1 : ∀ W : World, Below w4.heap.size w4 W → Calls Tryd.prog 10 #[.pointer (some ⟨hb, 0, none⟩), .string ⟨#[64, 97]⟩, .string (Fd.fmt k)] W fun e w' => ∃ ad cap ag cg, e = .returned (.tuple #[.slice ad 1 cap, .slice ag 0 cg, .bool true, .string (Fd.fmt i), .int .i64 0]) ∧ Below W.heap.size W w' := fun W hW => by
          have h0 := Tryd.since_at (HHi.out.past hW) (HTr.out.past hW) H2.out HKi.out.1 hi1 (show k ≤ i by omega) (Fd.at_fmt k (by omega))
          rwa [if_pos (.inl hA), decide_eq_true hA] at h0
        generalize hfk : Fd.fmt k = fk at *
        generalize hfi : Fd.fmt i = fi at *
        generalize hfj : Fd.fmt (i + 1) = fj at *
        go_upto_region 12 with (first
          | (go_at_call 11; refine (hdk _).mono ?_; clear hdk; rintro e w5 ⟨rfl, hw5⟩; subst hw5)
          | (go_at_call 10; refine (hs1 _ (Below.refl _ _)).mono ?_; clear hs1; rintro e w6 ⟨ad, cap, ag, cg, rfl, hb6⟩)
          | fail)
        go_upto_region 13 with (first
          | (go_at_call 11; refine (hdj _).mono ?_; clear hdj; rintro e w7 ⟨rfl, hw7⟩; subst hw7)
          | (go_at_call 10; refine (hs2 _ hb6).mono ?_; clear hs2; rintro e w8 ⟨rfl, hb8⟩)
          | fail)
        go_upto_region 14 with (first
          | (go_at_call 11; refine (hdi _).mono ?_; rintro e w9 ⟨rfl, hw9⟩; subst hw9)
          | (go_at_call 10; refine (hs3 _ (Fd.bel_on hb6 hb6.size hb8)).mono ?_; clear hs3; rintro e w10 ⟨rfl, hb10⟩)
          | fail)
        go_upto_region 18 with (first
          | (go_at_call 11; refine (hdi _).mono ?_; clear hdi; rintro e w11 ⟨rfl, hw11⟩; subst hw11)
          | fail)
        have HB11 : Hid (Below w5.heap.size w5 w11) := Fd.bel_on (Fd.bel_on hb6 hb6.size hb8) (Nat.le_trans hb6.size hb8.size) hb10
        have HDG : Hid (∀ (m : Nat), m ≤ 1000 → ∀ W : World, Calls Tryd.prog 11 #[.int .i64 m] W fun e w' => e = .returned (.string (Fd.fmt m)) ∧ w' = W) := fun m hm W => Tryd.digits_any m m (Nat.le_refl _) (by omega) W
        clear hb6 hb8 hb10 k50
        go_loopw [27, 28] (fun kv iv wr2 => ∃ j : Nat, iv = .int .i64 (j : Int) ∧ j ≤ i + 1 ∧ kv = .bool (Fd.kn other j) ∧ wr2 = w11) (fun _ iv _ => 200 - (intOf iv).toNat)
        case atStart => exact ⟨0, rfl, by omega, by simp [Fd.kn], rfl⟩
        case round =>
          obtain ⟨j, rfl, hj, rfl, hww⟩ := hrel
          subst hww
          by_cases hlj : j ≤ i
          · have qj : (j : Int) ≤ (i : Int) := by omega
            have hkn := Fd.kn_next other j
            have hdg := HDG.out j (by omega)
            cases hkj : Fd.kn other j with
            | true =>
              rw [hkj, Bool.true_or] at hkn
              have HKN : Hid _ := hkn
              clear hkn
              go_wp2
              exact ⟨⟨j + 1, by simp, by omega, by rw [HKN.out], trivial⟩, by simp [intOf]; omega⟩
            | false =>
              rw [hkj, Bool.false_or] at hkn
              have HKN : Hid _ := hkn
              clear hkn
              go_wp2_with (first
                | (go_at_call 11; refine (hdg _).mono ?_; clear hdg; rintro e w12 ⟨rfl, hw12⟩; subst hw12)
                | fail)
              exact ⟨⟨j + 1, by simp, by omega, by rw [HKN.out], trivial⟩, by simp [intOf]; omega⟩
          · have qj : ¬ (j : Int) ≤ (i : Int) := by omega
            obtain rfl : j = i + 1 := by omega
            cases hkj : Fd.kn other (i + 1) with
            | true =>
              have hs4 := Tryd.since_known (HHi.out.past HB11.out) (HTr.out.past HB11.out) H2.out HKi.out.1 hi1 (by omega) hkj
              go_wp2_with (first
                | (go_at_call 10; refine hs4.mono ?_; clear hs4; rintro e w13 ⟨V4, G4, b4, n4, rfl, hb13⟩)
                | fail)
              go_ret
              exact ⟨rfl, Fd.bel_on HBW.out HBW.out.size (Fd.bel_on HB11.out HB11.out.size hb13)⟩
            | false =>
              have hs4 := Tryd.since_unknown (HHi.out.past HB11.out) (HTr.out.past HB11.out) H2.out HKi.out.1 HO.out hkj
              go_wp2_with (first
                | (go_at_call 10; refine hs4.mono ?_; clear hs4; rintro e w13 ⟨rfl, hb13⟩)
                | fail)
              go_ret
              exact ⟨rfl, Fd.bel_on HBW.out HBW.out.size (Fd.bel_on HB11.out HB11.out.size hb13)⟩
      · by_cases hB : k < i
        · have k50 : ¬ (50 : Int) < (i : Int) - (k : Int) := by omega
          have kl : (k : Int) < (i : Int) := by omega
          have hs1 : ∀ W : World, Below w4.heap.size w4 W → Calls Tryd.prog 10 #[.pointer (some ⟨hb, 0, none⟩), .string ⟨#[64, 97]⟩, .string (Fd.fmt k)] W fun e w' => ∃ ad cap ag cg, e = .returned (.tuple #[.slice ad 1 cap, .slice ag 0 cg, .bool false, .string (Fd.fmt i), .int .i64 0]) ∧ Below W.heap.size W w' := fun W hW => by
            have h0 := Tryd.since_at (HHi.out.past hW) (HTr.out.past hW) H2.out HKi.out.1 hi1 (show k ≤ i by omega) (Fd.at_fmt k (by omega))
            rwa [if_pos (.inr hB), decide_eq_false hA] at h0
          generalize hfk : Fd.fmt k = fk at *
          generalize hfi : Fd.fmt i = fi at *
          generalize hfj : Fd.fmt (i + 1) = fj at *
          go_upto_region 12 with (first
            | (go_at_call 11; refine (hdk _).mono ?_; clear hdk; rintro e w5 ⟨rfl, hw5⟩; subst hw5)
            | (go_at_call 10; refine (hs1 _ (Below.refl _ _)).mono ?_; clear hs1; rintro e w6 ⟨ad, cap, ag, cg, rfl, hb6⟩)
            | fail)
          go_upto_region 13 with (first
            | (go_at_call 11; refine (hdj _).mono ?_; clear hdj; rintro e w7 ⟨rfl, hw7⟩; subst hw7)
            | (go_at_call 10; refine (hs2 _ hb6).mono ?_; clear hs2; rintro e w8 ⟨rfl, hb8⟩)
            | fail)
          go_upto_region 14 with (first
            | (go_at_call 11; refine (hdi _).mono ?_; rintro e w9 ⟨rfl, hw9⟩; subst hw9)
            | (go_at_call 10; refine (hs3 _ (Fd.bel_on hb6 hb6.size hb8)).mono ?_; clear hs3; rintro e w10 ⟨rfl, hb10⟩)
            | fail)
          go_upto_region 18 with (first
            | (go_at_call 11; refine (hdi _).mono ?_; clear hdi; rintro e w11 ⟨rfl, hw11⟩; subst hw11)
            | fail)
          have HB11 : Hid (Below w5.heap.size w5 w11) := Fd.bel_on (Fd.bel_on hb6 hb6.size hb8) (Nat.le_trans hb6.size hb8.size) hb10
          have HDG : Hid (∀ (m : Nat), m ≤ 1000 → ∀ W : World, Calls Tryd.prog 11 #[.int .i64 m] W fun e w' => e = .returned (.string (Fd.fmt m)) ∧ w' = W) := fun m hm W => Tryd.digits_any m m (Nat.le_refl _) (by omega) W
          clear hb6 hb8 hb10 k50
          go_loopw [27, 28] (fun kv iv wr2 => ∃ j : Nat, iv = .int .i64 (j : Int) ∧ j ≤ i + 1 ∧ kv = .bool (Fd.kn other j) ∧ wr2 = w11) (fun _ iv _ => 200 - (intOf iv).toNat)
          case atStart => exact ⟨0, rfl, by omega, by simp [Fd.kn], rfl⟩
          case round =>
            obtain ⟨j, rfl, hj, rfl, hww⟩ := hrel
            subst hww
            by_cases hlj : j ≤ i
            · have qj : (j : Int) ≤ (i : Int) := by omega
              have hkn := Fd.kn_next other j
              have hdg := HDG.out j (by omega)
              cases hkj : Fd.kn other j with
              | true =>
                rw [hkj, Bool.true_or] at hkn
                have HKN : Hid _ := hkn
                clear hkn
                go_wp2
                exact ⟨⟨j + 1, by simp, by omega, by rw [HKN.out], trivial⟩, by simp [intOf]; omega⟩
              | false =>
                rw [hkj, Bool.false_or] at hkn
                have HKN : Hid _ := hkn
                clear hkn
                go_wp2_with (first
                  | (go_at_call 11; refine (hdg _).mono ?_; clear hdg; rintro e w12 ⟨rfl, hw12⟩; subst hw12)
                  | fail)
                exact ⟨⟨j + 1, by simp, by omega, by rw [HKN.out], trivial⟩, by simp [intOf]; omega⟩
            · have qj : ¬ (j : Int) ≤ (i : Int) := by omega
              obtain rfl : j = i + 1 := by omega
              cases hkj : Fd.kn other (i + 1) with
              | true =>
                have hs4 := Tryd.since_known (HHi.out.past HB11.out) (HTr.out.past HB11.out) H2.out HKi.out.1 hi1 (by omega) hkj
                go_wp2_with (first
                  | (go_at_call 10; refine hs4.mono ?_; clear hs4; rintro e w13 ⟨V4, G4, b4, n4, rfl, hb13⟩)
                  | fail)
                go_ret
                exact ⟨rfl, Fd.bel_on HBW.out HBW.out.size (Fd.bel_on HB11.out HB11.out.size hb13)⟩
              | false =>
                have hs4 := Tryd.since_unknown (HHi.out.past HB11.out) (HTr.out.past HB11.out) H2.out HKi.out.1 HO.out hkj
                go_wp2_with (first
                  | (go_at_call 10; refine hs4.mono ?_; clear hs4; rintro e w13 ⟨rfl, hb13⟩)
                  | fail)
                go_ret
                exact ⟨rfl, Fd.bel_on HBW.out HBW.out.size (Fd.bel_on HB11.out HB11.out.size hb13)⟩
        · have k50 : ¬ (50 : Int) < (i : Int) - (k : Int) := by omega
          have kl : ¬ (k : Int) < (i : Int) := by omega
          have hs1 : ∀ W : World, Below w4.heap.size w4 W → Calls Tryd.prog 10 #[.pointer (some ⟨hb, 0, none⟩), .string ⟨#[64, 97]⟩, .string (Fd.fmt k)] W fun e w' => ∃ ad cap ag cg, e = .returned (.tuple #[.slice ad 0 cap, .slice ag 0 cg, .bool false, .string (Fd.fmt i), .int .i64 0]) ∧ Below W.heap.size W w' := fun W hW => by
            have h0 := Tryd.since_at (HHi.out.past hW) (HTr.out.past hW) H2.out HKi.out.1 hi1 (show k ≤ i by omega) (Fd.at_fmt k (by omega))
            rwa [if_neg (fun e => e.elim hA hB), decide_eq_false hA] at h0
          generalize hfk : Fd.fmt k = fk at *
          generalize hfi : Fd.fmt i = fi at *
          generalize hfj : Fd.fmt (i + 1) = fj at *
          go_upto_region 12 with (first
            | (go_at_call 11; refine (hdk _).mono ?_; clear hdk; rintro e w5 ⟨rfl, hw5⟩; subst hw5)
            | (go_at_call 10; refine (hs1 _ (Below.refl _ _)).mono ?_; clear hs1; rintro e w6 ⟨ad, cap, ag, cg, rfl, hb6⟩)
            | fail)
          go_upto_region 13 with (first
            | (go_at_call 11; refine (hdj _).mono ?_; clear hdj; rintro e w7 ⟨rfl, hw7⟩; subst hw7)
            | (go_at_call 10; refine (hs2 _ hb6).mono ?_; clear hs2; rintro e w8 ⟨rfl, hb8⟩)
            | fail)
          go_upto_region 14 with (first
            | (go_at_call 11; refine (hdi _).mono ?_; rintro e w9 ⟨rfl, hw9⟩; subst hw9)
            | (go_at_call 10; refine (hs3 _ (Fd.bel_on hb6 hb6.size hb8)).mono ?_; clear hs3; rintro e w10 ⟨rfl, hb10⟩)
            | fail)
          go_upto_region 18 with (first
            | (go_at_call 11; refine (hdi _).mono ?_; clear hdi; rintro e w11 ⟨rfl, hw11⟩; subst hw11)
            | fail)
          have HB11 : Hid (Below w5.heap.size w5 w11) := Fd.bel_on (Fd.bel_on hb6 hb6.size hb8) (Nat.le_trans hb6.size hb8.size) hb10
          have HDG : Hid (∀ (m : Nat), m ≤ 1000 → ∀ W : World, Calls Tryd.prog 11 #[.int .i64 m] W fun e w' => e = .returned (.string (Fd.fmt m)) ∧ w' = W) := fun m hm W => Tryd.digits_any m m (Nat.le_refl _) (by omega) W
          clear hb6 hb8 hb10 k50
          go_loopw [27, 28] (fun kv iv wr2 => ∃ j : Nat, iv = .int .i64 (j : Int) ∧ j ≤ i + 1 ∧ kv = .bool (Fd.kn other j) ∧ wr2 = w11) (fun _ iv _ => 200 - (intOf iv).toNat)
          case atStart => exact ⟨0, rfl, by omega, by simp [Fd.kn], rfl⟩
          case round =>
            obtain ⟨j, rfl, hj, rfl, hww⟩ := hrel
            subst hww
            by_cases hlj : j ≤ i
            · have qj : (j : Int) ≤ (i : Int) := by omega
              have hkn := Fd.kn_next other j
              have hdg := HDG.out j (by omega)
              cases hkj : Fd.kn other j with
              | true =>
                rw [hkj, Bool.true_or] at hkn
                have HKN : Hid _ := hkn
                clear hkn
                go_wp2
                exact ⟨⟨j + 1, by simp, by omega, by rw [HKN.out], trivial⟩, by simp [intOf]; omega⟩
              | false =>
                rw [hkj, Bool.false_or] at hkn
                have HKN : Hid _ := hkn
                clear hkn
                go_wp2_with (first
                  | (go_at_call 11; refine (hdg _).mono ?_; clear hdg; rintro e w12 ⟨rfl, hw12⟩; subst hw12)
                  | fail)
                exact ⟨⟨j + 1, by simp, by omega, by rw [HKN.out], trivial⟩, by simp [intOf]; omega⟩
            · have qj : ¬ (j : Int) ≤ (i : Int) := by omega
              obtain rfl : j = i + 1 := by omega
              cases hkj : Fd.kn other (i + 1) with
              | true =>
                have hs4 := Tryd.since_known (HHi.out.past HB11.out) (HTr.out.past HB11.out) H2.out HKi.out.1 hi1 (by omega) hkj
                go_wp2_with (first
                  | (go_at_call 10; refine hs4.mono ?_; clear hs4; rintro e w13 ⟨V4, G4, b4, n4, rfl, hb13⟩)
                  | fail)
                go_ret
                exact ⟨rfl, Fd.bel_on HBW.out HBW.out.size (Fd.bel_on HB11.out HB11.out.size hb13)⟩
              | false =>
                have hs4 := Tryd.since_unknown (HHi.out.past HB11.out) (HTr.out.past HB11.out) H2.out HKi.out.1 HO.out hkj
                go_wp2_with (first
                  | (go_at_call 10; refine hs4.mono ?_; clear hs4; rintro e w13 ⟨rfl, hb13⟩)
                  | fail)
                go_ret
                exact ⟨rfl, Fd.bel_on HBW.out HBW.out.size (Fd.bel_on HB11.out HB11.out.size hb13)⟩
end Go.Proofs
