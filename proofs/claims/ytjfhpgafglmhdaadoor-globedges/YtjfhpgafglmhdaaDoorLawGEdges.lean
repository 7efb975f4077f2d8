/-
  GlobEdges, walked.
-/
import Derived.Test.YtjfhpgafglmhdaaDoorLawGFolds
import Derived.Test.YtjfhpgafglmhdaaDoorGe
namespace Go.Gl
open Go.Sg
/-- A part from a place on that was looked at is meant. -/
def Hit (ps : List P) (t : ByteArray) (a b : Nat) : Prop := a ≤ b ∧ b ≤ t.size ∧ edgeN t a = true ∧ edgeN t b = true ∧ wholeB ps (t.extract a b) = true
def F1 (ps : List P) (t : ByteArray) (A : Nat) : Prop := ∃ a b, a < A ∧ Hit ps t a b
def F2 (ps : List P) (t : ByteArray) (A B : Nat) : Prop := F1 ps t A ∨ ∃ b, b < B ∧ Hit ps t A b
theorem F2_begin (ps : List P) (t : ByteArray) (A : Nat) : F2 ps t A A ↔ F1 ps t A := by
  constructor
  · rintro (h | ⟨b, h1, h2, _⟩)
    · exact h
    · omega
  · exact .inl
theorem F2_step_no (ps : List P) (t : ByteArray) (A B : Nat) (h : ¬ Hit ps t A B) : F2 ps t A (B + 1) ↔ F2 ps t A B := by
  constructor
  · rintro (h1 | ⟨b, h1, h2⟩)
    · exact .inl h1
    · by_cases hb : b = B
      · subst hb; exact absurd h2 h
      · exact .inr ⟨b, by omega, h2⟩
  · rintro (h1 | ⟨b, h1, h2⟩)
    · exact .inl h1
    · exact .inr ⟨b, by omega, h2⟩
theorem F2_step_yes (ps : List P) (t : ByteArray) (A B : Nat) (h : Hit ps t A B) : F2 ps t A (B + 1) := .inr ⟨B, by omega, h⟩
theorem F2_end (ps : List P) (t : ByteArray) (A B : Nat) (h : t.size < B) : F2 ps t A B ↔ F1 ps t (A + 1) := by
  constructor
  · rintro (⟨a, b, h1, h2⟩ | ⟨b, h1, h2⟩)
    · exact ⟨a, b, by omega, h2⟩
    · exact ⟨A, b, by omega, h2⟩
  · rintro ⟨a, b, h1, h2⟩
    by_cases ha : a = A
    · subst ha; exact .inr ⟨b, by have := h2.2.1; omega, h2⟩
    · exact .inl ⟨a, b, by omega, h2⟩
theorem F1_skip (ps : List P) (t : ByteArray) (A : Nat) (h : edgeN t A = false) : F1 ps t (A + 1) ↔ F1 ps t A := by
  constructor
  · rintro ⟨a, b, h1, h2⟩
    by_cases ha : a = A
    · subst ha; have := h2.2.2.1; rw [h] at this; cases this
    · exact ⟨a, b, by omega, h2⟩
  · rintro ⟨a, b, h1, h2⟩; exact ⟨a, b, by omega, h2⟩
theorem F2_noedge (ps : List P) (t : ByteArray) (A B : Nat) (h : edgeN t A = false) : F2 ps t A B ↔ F1 ps t (A + 1) := by
  rw [F1_skip ps t A h]
  constructor
  · rintro (h1 | ⟨b, _, h2⟩)
    · exact h1
    · have := h2.2.2.1; rw [h] at this; cases this
  · exact .inl
theorem F1_end (ps : List P) (t : ByteArray) (hv : valid t = true) : F1 ps t (t.size + 1) ↔ Gl.withinB ps t = true := by
  rw [within_edges ps t hv]
  constructor
  · rintro ⟨a, b, h1, h2⟩; exact ⟨a, b, h2⟩
  · rintro ⟨a, b, h2⟩; exact ⟨a, b, by have := h2.1; have := h2.2.1; omega, h2⟩
end Go.Gl
namespace Go.Proofs
open Go.RowKit Go.Gl
set_option maxHeartbeats 400000 in
theorem Tryd.upTo_any (s : ByteArray) (w : World) (_hs : s.size ≤ maxLen) :
    Calls Tryd.prog 21 #[.string s, .int .i64 120] w fun e w' => ∃ u : ByteArray, e = .returned (.string u) ∧ u.size ≤ 120 ∧ w' = w := by
  by_cases h : 120 < s.size
  · have h1 : (120 : Int) < (s.size : Int) := by omega
    have h2 : (120 : Int) ≤ (s.size : Int) := by omega
    go_enter Tryd.func21, Tryd.ntmps21
    go_wp2
    go_ret
    exact ⟨s.extract 0 120, rfl, by rw [ByteArray.size_extract]; omega, rfl⟩
  · have h1 : ¬ (120 : Int) < (s.size : Int) := by omega
    go_enter Tryd.func21, Tryd.ntmps21
    go_wp2
    go_ret
    exact ⟨s, rfl, by omega, rfl⟩
set_option maxRecDepth 100000 in
set_option maxHeartbeats 8000000 in
theorem Tryd.globEdgesWalk (p : ByteArray) (hp : p.size ≤ 140737488351232) (t : ByteArray) (hs : t.size ≤ 140737488351232) (w : World) (hT : Tryd.Tabs w) :
    Calls Tryd.prog 8 #[.string p, .string t] w fun e w' => e = .returned (.bool true) ∧ Below w.heap.size w w' := by
  have hsh := Tryd.shown_any w hT
  have HT : Hid (Tryd.Tabs w) := hT
  have hpm : p.size ≤ maxLen := by unfold maxLen; omega
  have qu := fun W => Tryd.upTo_any t W (by unfold maxLen; omega)
  clear hT
  cases hc : comp p with
  | none =>
    have q1 := fun W hW => Tryd.compiled_no hc W hpm hW
    clear hc
    go_enter Tryd.func8, Tryd.ntmps8
    go_wp2_with (first
      | (go_at_call 9; refine hsh.mono ?_; clear hsh; rintro e1 w1 ⟨rfl, b1⟩; have t1 := HT.out.below b1)
      | (go_at_call 17; refine (q1 _ t1).mono ?_; clear q1; rintro e1 w2 ⟨rfl, t2, b2⟩; have bb2 := Below.then b1 b2)
      | fail)
    go_ret
    exact ⟨rfl, bb2⟩
  | some ps =>
    have hl := comp_len hc
    have q1 := fun W hW => Tryd.compiled_yes hc W hpm hW
    have qv := fun (u : ByteArray) (hu : u.size ≤ 120) W => Tryd.valid_any u W (by unfold maxLen; omega)
    have qin := fun (u : ByteArray) (hu : u.size ≤ 120) x W hG hW => Tryd.within_any' ps x u W hG hl (by omega) hW
    have qed := fun (u : ByteArray) (hu : u.size ≤ 120) (a : Nat) W hW => Tryd.edge_any u (a : Int) (by unfold maxLen; omega) W hW
    have hee : ∀ (u : ByteArray) (a : Nat), a ≤ u.size → Sg.edgeB u (a : Int) = Sg.edgeN u a := fun u a ha => by unfold Sg.edgeB; rw [if_neg (by omega)]; rfl
    have qwh := fun (u : ByteArray) (hu : u.size ≤ 120) x W hG hW => Tryd.whole_any ps x u W hG hl (by omega) hW
    clear hc
    go_enter Tryd.func8, Tryd.ntmps8
    go_upto_region 8 with (first
      | (go_at_call 9; refine hsh.mono ?_; clear hsh; rintro e1 w1 ⟨rfl, b1⟩; have t1 := HT.out.below b1)
      | (go_at_call 17; refine (q1 _ t1).mono ?_; clear q1; rintro e1 w2 ⟨x, rfl, g2, t2, b2⟩; have bb2 := Below.then b1 b2)
      | (go_at_call 21; refine (qu _).mono ?_; clear qu; rintro e1 w3 ⟨u, rfl, hu, rfl⟩; have qv1 := qv u hu; clear qv)
      | fail)
    cases hV : Sg.valid u with
    | false =>
      rw [hV] at qv1
      have hno : Gl.withinB ps u = false := by unfold Gl.withinB; rw [hV]; rfl
      have qi := qin u hu
      rw [hno] at qi
      clear qin qed qwh hno hV hee
      go_wp2_with (first
        | (go_at_call 12; refine (qv1 _).mono ?_; clear qv1; rintro e1 w4 ⟨rfl, b4⟩; have bb4 := Below.then bb2 b4; have t4 := t2.below b4; have g4 := g2.keep b4)
        | (go_at_call 20; refine (qi _ _ g4 t4).mono ?_; clear qi; rintro e1 w5 ⟨rfl, b5⟩; have bb5 := Below.then bb4 b5)
        | fail)
      go_ret
      exact ⟨rfl, bb5⟩
    | true =>
      rw [hV] at qv1
      go_wp2_with (first
        | (go_at_call 12; refine (qv1 _).mono ?_; clear qv1; rintro e1 w4 ⟨rfl, b4⟩; have bb4 := Below.then bb2 b4; have t4 := t2.below b4; have g4 := g2.keep b4; clear bb2 t2 g2 b4 b1 t1)
        | fail)
      have HV : Hid _ := hV
      clear hV
      go_loopw [11, 12] (fun fo a wr => ∃ (fb : Bool) (A : Nat), fo = .bool fb ∧ a = .int .i64 A ∧ A ≤ u.size + 1 ∧ Below w4.heap.size w4 wr ∧ (fb = true ↔ F1 ps u A)) (fun _ a _ => u.size + 1 - (intOf a).toNat)
      case atStart => exact ⟨false, 0, rfl, rfl, by omega, Below.refl _ _, ⟨fun h => (by cases h), fun ⟨a, b, h, _⟩ => (by omega)⟩⟩
      case round =>
        obtain ⟨fb, A, rfl, rfl, hA, hbw, hF⟩ := hrel
        have gR := g4.keep hbw
        have tR := t4.below hbw
        by_cases hlt : A ≤ u.size
        · have c1 : (A : Int) ≤ (u.size : Int) := by omega
          have q5 := qed u hu A wr tR
          rw [hee u A hlt] at q5
          have hno := fun B => F2_noedge ps u A B
          have hst := fun B => F2_step_no ps u A B
          have hsy := fun B => F2_step_yes ps u A B
          have hen := fun B => F2_end ps u A B
          have hbg := F2_begin ps u A
          have HH : Hid (∀ B, Hit ps u A B ↔ (A ≤ B ∧ B ≤ u.size ∧ Sg.edgeN u A = true ∧ Sg.edgeN u B = true ∧ wholeB ps (u.extract A B) = true)) := fun B => Iff.rfl
          generalize hE : Sg.edgeN u A = E at *
          have HF0 : Hid (fb = true ↔ F2 ps u A A) := hF.trans hbg.symm
          have HNO : Hid _ := hno
          have HST : Hid _ := hst
          have HSY : Hid _ := hsy
          have HEN : Hid _ := hen
          clear hF hbg hno hst hsy hen
          go_wp2_with (first
            | (go_at_call 22; refine q5.mono ?_; clear q5; rintro e1 w5 ⟨rfl, b5⟩; have bb5 := Below.then hbw b5)
            | fail)
          go_loopw [11, 14] (fun fo b wr' => ∃ (fb' : Bool) (B : Nat), fo = .bool fb' ∧ b = .int .i64 B ∧ A ≤ B ∧ B ≤ u.size + 1 ∧ Below w4.heap.size w4 wr' ∧ (fb' = true ↔ F2 ps u A B)) (fun _ b _ => u.size + 1 - (intOf b).toNat)
          case atStart => exact ⟨fb, A, rfl, rfl, Nat.le_refl _, by omega, bb5, HF0.out⟩
          case round =>
            obtain ⟨fb', B, rfl, rfl, hAB, hB, hbi, hFi⟩ := hrel
            clear hbw gR tR b5 bb5 HF0
            have HFI : Hid (fb' = true ↔ F2 ps u A B) := hFi
            clear hFi
            cases E with
            | false =>
              go_wp2
              go_roundw
              case rel => exact ⟨fb', A + 1, rfl, by go_num, by omega, hbi, HFI.out.trans (HNO.out B rfl)⟩
              case measure => simp [intOf]; omega
            | true =>
              by_cases hBl : B ≤ u.size
              · have c2 : (B : Int) ≤ (u.size : Int) := by omega
                have q6 := qed u hu B wr (t4.below hbi)
                rw [hee u B hBl] at q6
                have hsz : (u.extract A B).size ≤ 120 := by rw [ByteArray.size_extract]; omega
                have q7 := fun W => qwh (u.extract A B) hsz x W
                have c3 : (A : Int) ≤ (B : Int) := by omega
                have hgk : ∀ W, Below w4.heap.size w4 W → Tryd.Gb W x ps ∧ Tryd.Tabs W := fun W h => ⟨g4.keep h, t4.below h⟩
                have HGK : Hid _ := hgk
                clear hgk qed qwh qin
                cases hEB : Sg.edgeN u B with
                | false =>
                  rw [hEB] at q6
                  have HEB : Hid (Sg.edgeN u B = false) := hEB
                  clear hEB
                  go_wp2_with (first
                    | (go_at_call 22; refine q6.mono ?_; clear q6; rintro e1 w6 ⟨rfl, b6⟩; have bb6 := Below.then hbi b6)
                    | fail)
                  go_roundw
                  case rel => exact ⟨fb', B + 1, rfl, by go_num, by omega, by omega, bb6, HFI.out.trans (HST.out B (fun h => by have := ((HH.out B).1 h).2.2.2.1; rw [HEB.out] at this; cases this)).symm⟩
                  case measure => simp [intOf]; omega
                | true =>
                  rw [hEB] at q6
                  have HEB : Hid (Sg.edgeN u B = true) := hEB
                  clear hEB
                  generalize hWv : wholeB ps (u.extract A B) = Wv at *
                  have HWV : Hid (wholeB ps (u.extract A B) = Wv) := hWv
                  clear hWv
                  have yes : Wv = true → Hit ps u A B := fun h => (HH.out B).2 ⟨hAB, hBl, rfl, HEB.out, HWV.out.trans h⟩
                  have no : Wv = false → ¬ Hit ps u A B := fun h hh => by have := ((HH.out B).1 hh).2.2.2.2; rw [HWV.out, h] at this; cases this
                  have YES : Hid _ := yes
                  have NO : Hid _ := no
                  clear yes no
                  cases fb' with
                  | true =>
                    have hup : F2 ps u A (B + 1) := by
                      by_cases hh : Hit ps u A B
                      · exact HSY.out B hh
                      · exact (HST.out B hh).2 (HFI.out.1 rfl)
                    have HUP : Hid _ := hup
                    clear hup
                    go_wp2_with (first
                      | (go_at_call 22; refine q6.mono ?_; clear q6; rintro e1 w6 ⟨rfl, b6⟩; have bb6 := Below.then hbi b6)
                      | (go_at_call 13; refine (q7 _ (HGK.out _ bb6).1 (HGK.out _ bb6).2).mono ?_; clear q7; rintro e1 w7 ⟨rfl, b7⟩; have bb7 := Below.then bb6 b7)
                      | fail)
                    go_roundw
                    case rel => exact ⟨true, B + 1, rfl, by go_num, by omega, by omega, bb7, ⟨fun _ => HUP.out, fun _ => rfl⟩⟩
                    case measure => simp [intOf]; omega
                  | false =>
                    have hup : Wv = true ↔ F2 ps u A (B + 1) := by
                      cases Wv with
                      | true => exact ⟨fun _ => HSY.out B (YES.out rfl), fun _ => rfl⟩
                      | false => exact HFI.out.trans (HST.out B (NO.out rfl)).symm
                    have HUP : Hid _ := hup
                    clear hup
                    go_wp2_with (first
                      | (go_at_call 22; refine q6.mono ?_; clear q6; rintro e1 w6 ⟨rfl, b6⟩; have bb6 := Below.then hbi b6)
                      | (go_at_call 13; refine (q7 _ (HGK.out _ bb6).1 (HGK.out _ bb6).2).mono ?_; clear q7; rintro e1 w7 ⟨rfl, b7⟩; have bb7 := Below.then bb6 b7)
                      | fail)
                    go_roundw
                    case rel => exact ⟨Wv, B + 1, rfl, by go_num, by omega, by omega, bb7, HUP.out⟩
                    case measure => simp [intOf]; omega
              · have c2 : ¬ (B : Int) ≤ (u.size : Int) := by omega
                go_wp2
                go_roundw
                case rel => exact ⟨fb', A + 1, rfl, by go_num, by omega, hbi, HFI.out.trans (HEN.out B (by omega))⟩
                case measure => simp [intOf]; omega
        · have c1 : ¬ (A : Int) ≤ (u.size : Int) := by omega
          obtain rfl : A = u.size + 1 := by omega
          have hfin : fb = Gl.withinB ps u := by rw [Bool.eq_iff_iff, hF, F1_end ps u HV.out]
          have q8 := qin u hu x wr gR tR
          rw [← hfin] at q8
          clear hfin hF qin qed qwh
          go_wp2_with (first
            | (go_at_call 20; refine q8.mono ?_; clear q8; rintro e1 w8 ⟨rfl, b8⟩; have bb8 := Below.then hbw b8)
            | fail)
          go_ret
          exact ⟨rfl, Below.then bb4 bb8⟩
end Go.Proofs
