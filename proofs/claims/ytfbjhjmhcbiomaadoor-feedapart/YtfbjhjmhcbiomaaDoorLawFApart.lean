/-
  FEED: FeedApart.
-/
import Derived.Test.YtfbjhjmhcbiomaaDoorFfB
namespace Go.Proofs
open Go.RowKit Go.Wi Go.Fd Go.Sort
set_option maxRecDepth 20000 in
set_option maxHeartbeats 2000000 in
theorem Tryd.feedApartWalk {w : World} {Va Vb : Value} {la lb : List Cn} (hA : Cs w Va la) (hA2 : ∀ k, Va.ownBlock = some k → k < w.heap.size) (hA3 : la.length ≤ 4398046511104) (hB : Cs w Vb lb) (hB2 : ∀ k, Vb.ownBlock = some k → k < w.heap.size) (hB3 : lb.length ≤ 4398046511104) (hT : Tryd.Tb w) :
    Calls Tryd.prog 4 #[Va, Vb] w fun e w' => e = .returned (.bool true) ∧ Below w.heap.size w w' := by
  have haw := Tryd.awake_any w hT
  have HT : Hid (Tryd.Tb w) := hT
  have HA : Hid (Cs w Va la ∧ (∀ k, Va.ownBlock = some k → k < w.heap.size) ∧ la.length ≤ 4398046511104) := ⟨hA, hA2, hA3⟩
  have HB : Hid (Cs w Vb lb ∧ (∀ k, Vb.ownBlock = some k → k < w.heap.size) ∧ lb.length ≤ 4398046511104) := ⟨hB, hB2, hB3⟩
  have U1 : Hid ((⟨#[64, 97]⟩ : ByteArray).size ≤ maxLen) := by show _ ≤ _; unfold maxLen; decide
  have U2 : Hid ((⟨#[64, 98]⟩ : ByteArray).size ≤ maxLen) := by show _ ≤ _; unfold maxLen; decide
  have U3 : Hid ((⟨#[64, 97, 58]⟩ : ByteArray).size ≤ maxLen) := by show _ ≤ _; unfold maxLen; decide
  have N1 : Hid ((⟨#[64, 97]⟩ : ByteArray) ≠ ⟨#[64, 98]⟩) := by intro e; injection e with e; injection e with e; cases e
  have N2 : Hid ((⟨#[64, 97]⟩ : ByteArray) ≠ ⟨#[64, 97, 58]⟩) := by intro e; injection e with e; injection e with e; cases e
  have N3 : Hid ((⟨#[64, 98]⟩ : ByteArray) ≠ ⟨#[64, 97, 58]⟩) := by intro e; injection e with e; injection e with e; cases e
  clear hA hA2 hA3 hB hB2 hB3 hT
  go_enter Tryd.func4, Tryd.ntmps4
  go_upto_region 5 with (first
    | (go_at_call 6; refine haw.mono ?_; clear haw; rintro e w1 ⟨rfl, hb1⟩)
    | (go_at_call 7; refine (Tryd.new_any _).mono ?_; rintro e w2 ⟨h1, m1, rfl, hH1, hb2, hf1, hf2⟩)
    | fail)
  go_upto_region 6 with (first
    | (go_at_call 7; refine (Tryd.new_any _).mono ?_; rintro e w3 ⟨h2, m2, rfl, hH2, hb3, hf3, hf4⟩)
    | fail)
  have hX : Tryd.H2 w.heap.size w3 h1 h2 0 0 (fun _ => none) (fun _ => none) := by
    have hs1 := hb1.size
    have hs2 := hb2.size
    have hs3 := hb3.size
    have hl1 := hH1.lt h1 (.inl rfl)
    have hl2 := hH1.lt m1 (.inr (.inl rfl))
    refine ⟨⟨_, _, m1, _, _, m2, hH1.below hb3 (Nat.le_refl _), hH2, ?_, ?_, ?_⟩, by omega⟩
    · intro k e e'
      rcases e with rfl | rfl | ⟨_, e⟩
      · rcases e' with e' | e' | ⟨_, e'⟩
        · omega
        · omega
        · exact e'
      · rcases e' with e' | e' | ⟨_, e'⟩
        · omega
        · omega
        · exact e'
      · exact e.elim
    · intro k e
      rcases e with rfl | rfl | ⟨_, e⟩
      · omega
      · omega
      · exact e.elim
    · intro k e
      rcases e with rfl | rfl | ⟨_, e⟩
      · omega
      · omega
      · exact e.elim
  have hb13 : Below w.heap.size w w3 := Fd.bel_on (Fd.bel_on hb1 hb1.size hb2) (Nat.le_trans hb1.size hb2.size) hb3
  clear hH1 hH2 hb1 hb2 hb3 hf1 hf2 hf3 hf4
  have hp1 := hX.put ⟨#[64, 97]⟩ U1.out (by omega) (HA.out.1.below hb13 HA.out.2.1) (fun k e => Nat.lt_of_lt_of_le (HA.out.2.1 k e) hb13.size) HA.out.2.2
  go_upto_region 7 with (first
    | (go_at_call 9; refine hp1.mono ?_; clear hp1; rintro e w4 ⟨rfl, hX4, hb4⟩)
    | fail)
  have hb14 := hb13.trans hb4
  have hp2 := hX4.swap.put ⟨#[64, 97]⟩ U1.out (by omega) (HA.out.1.below hb14 HA.out.2.1) (fun k e => Nat.lt_of_lt_of_le (HA.out.2.1 k e) hb14.size) HA.out.2.2
  clear hX hb13 hb4 hX4
  go_upto_region 8 with (first
    | (go_at_call 9; refine hp2.mono ?_; clear hp2; rintro e w5 ⟨rfl, hX5, hb5⟩)
    | fail)
  have hb15 := hb14.trans hb5
  have hp3 := hX5.put ⟨#[64, 98]⟩ U2.out (by omega) (HB.out.1.below hb15 HB.out.2.1) (fun k e => Nat.lt_of_lt_of_le (HB.out.2.1 k e) hb15.size) HB.out.2.2
  clear hb14 hb5 hX5
  go_upto_region 9 with (first
    | (go_at_call 9; refine hp3.mono ?_; clear hp3; rintro e w6 ⟨rfl, hX6, hb6⟩)
    | fail)
  have hb16 := hb15.trans hb6
  have hp4 := hX6.put ⟨#[64, 97, 58]⟩ U3.out (by omega) (HB.out.1.below hb16 HB.out.2.1) (fun k e => Nat.lt_of_lt_of_le (HB.out.2.1 k e) hb16.size) HB.out.2.2
  clear hb15 hb6 hX6
  go_upto_region 10 with (first
    | (go_at_call 9; refine hp4.mono ?_; clear hp4; rintro e w7 ⟨rfl, hX7, hb7⟩)
    | fail)
  have hb17 := hb16.trans hb7
  clear hb16 hb7
  have E1 : Fd.keptOf (putF (fun _ => none) ⟨#[64, 97]⟩ (sheet la)) ⟨#[64, 97]⟩ = (putS sh0 (sheet la)).getD sh0 := by rw [Fd.kept_put, if_pos rfl]; rfl
  have E2 : Fd.keptOf (putF (putF (putF (fun _ => none) ⟨#[64, 97]⟩ (sheet la)) ⟨#[64, 98]⟩ (sheet lb)) ⟨#[64, 97, 58]⟩ (sheet lb)) ⟨#[64, 97]⟩ = (putS sh0 (sheet la)).getD sh0 := by rw [Fd.kept_put, if_neg N2.out, Fd.kept_put, if_neg N1.out, E1]
  have E3 : Fd.keptOf (putF (putF (putF (fun _ => none) ⟨#[64, 97]⟩ (sheet la)) ⟨#[64, 98]⟩ (sheet lb)) ⟨#[64, 97, 58]⟩ (sheet lb)) ⟨#[64, 98]⟩ = (putS sh0 (sheet lb)).getD sh0 := by
    rw [Fd.kept_put, if_neg N3.out, Fd.kept_put, if_pos rfl, Fd.kept_put, if_neg N1.out.symm]
    rfl
  have hs1 := hX7.swap.since (HT.out.past hb17) U1.out
  rw [E1] at hs1
  go_upto_region 11 with (first
    | (go_at_call 10; refine hs1.mono ?_; clear hs1; rintro e w8 ⟨V8, l8, rfl, hl8, hr8, hb8⟩)
    | fail)
  have hs2 := (hX7.past hb8).since ((HT.out.past hb17).past hb8) U1.out
  rw [E2] at hs2
  go_upto_region 12 with (first
    | (go_at_call 10; refine hs2.mono ?_; clear hs2; rintro e w9 ⟨V9, l9, rfl, hl9, hr9, hb9⟩)
    | fail)
  rw [Fd.last_put] at hl8 hl9
  cases hl8
  cases hl9
  have hb79 := Fd.bel_on hb8 hb8.size hb9
  have hl4 : (sheet la).length ≤ 4398046511104 := Nat.le_trans (sheet_len la) HA.out.2.2
  have hsa := Tryd.same_any ((Cs.ofRow hr8).past hb9) (Cs.ofRow hr9) hl4
  rw [decide_eq_true rfl] at hsa
  go_upto_region 13 with (first
    | (go_at_call 12; refine hsa.mono ?_; clear hsa; rintro e w10 ⟨rfl, q1, rfl⟩)
    | fail)
  have hb7x : Below w7.heap.size w7 (w9.drewN q1) := belowN hb79 q1
  have hs3 := (hX7.past hb7x).since ((HT.out.past hb17).past hb7x) U2.out
  rw [E3] at hs3
  clear hr8 hr9 hb8 hb9 hb79
  generalize w9.drewN q1 = wa at *
  go_upto_region 14 with (first
    | (go_at_call 10; refine hs3.mono ?_; clear hs3; rintro e w11 ⟨V11, l11, rfl, hl11, hr11, hb11⟩)
    | fail)
  rw [Fd.last_put] at hl11
  cases hl11
  have hbw : Below w.heap.size w w11 := Fd.bel_on hb17 hb17.size (Fd.bel_on hb7x hb7x.size hb11)
  have hfo := Tryd.fold_whole (HB.out.1.below hbw HB.out.2.1) (fun k e => Nat.lt_of_lt_of_le (HB.out.2.1 k e) hbw.size) HB.out.2.2
  go_upto_region 15 with (first
    | (go_at_call 13; refine hfo.mono ?_; clear hfo; rintro e w12 ⟨V12, rfl, hr12, hb12⟩)
    | fail)
  have hl5 : (sheet lb).length ≤ 4398046511104 := Nat.le_trans (sheet_len lb) HB.out.2.2
  have hsb := Tryd.same_any ((Cs.ofRow hr11).past hb12) (Cs.ofRow hr12) hl5
  rw [decide_eq_true rfl] at hsb
  clear hX7 E1 E2 E3 hr11 hr12 hb11 hb7x hb17
  go_wp2_with (first
    | (go_at_call 12; refine hsb.mono ?_; clear hsb; rintro e w13 ⟨rfl, q2, rfl⟩)
    | fail)
  go_ret
  exact ⟨rfl, belowN (Fd.bel_on hbw hbw.size hb12) q2⟩
end Go.Proofs
