/-
  'value', out of 'word', 'number', 'quoted', 'list', 'object'; 'whole'.
-/
import Derived.Test.YtejibjeidklnkaaGreatDoorJc
namespace Go.Proofs
open Go.RowKit Go.Jv
/-- What 'number' does. -/
def Tryz.NumOk : Prop := ∀ (w : World) (b : Nat) (t : ByteArray) (p o : Nat), Rd w b t p o → Tryz.Tb w → 8 ≤ b →
    Calls Tryz.prog 29 #[.pointer (some ⟨b, 0, none⟩)] w fun en w' =>
      (∃ v q, number t p = .ok (v, q) ∧ Tryz.Vok b t o w v q en w') ∨ (∃ p' e, number t p = .bad p' e ∧ Bad 40 p' e en w' ∧ Wk b w w')
/-- What 'object' does, d brackets may be opened within. -/
def Tryz.ObjOk (d : Nat) : Prop := ∀ (w : World) (b : Nat) (t : ByteArray) (p o : Nat), Rd w b t p o → Tryz.Tb w → 8 ≤ b → o + (d + 1) = 10 → p < t.size →
    Calls Tryz.prog 32 #[.pointer (some ⟨b, 0, none⟩)] w fun en w' =>
      (∃ v q, objFrom t (value t d) 66 (p + 1) [] [] = .ok (v, q) ∧ Tryz.Vok b t o w v q en w') ∨ (∃ p' e, objFrom t (value t d) 66 (p + 1) [] [] = .bad p' e ∧ Bad 40 p' e en w' ∧ Wk b w w')
theorem Tryz.begin_dies {F : Nat} {w : World} {b : Nat} {t : ByteArray} {p : Nat} (h : Rd w b t p 10) (hF : F = 31 ∨ F = 32) :
    Calls Tryz.prog F #[.pointer (some ⟨b, 0, none⟩)] w fun en w' => Bad 40 p eDepth en w' ∧ Wk b w w' := by
  have hbeg := Tryz.begin_bad h
  rcases hF with rfl | rfl
  · go_enter Tryz.func31, Tryz.ntmps31
    go_wp2_with (first | (go_at_call 45; refine hbeg.mono ?_; rintro e1 w1 ⟨⟨y, hy, rfl, hy0, hy1⟩, hk3⟩) | fail)
    exact ⟨rfl, ⟨y, hy, rfl, hy0, hy1⟩, hk3⟩
  · go_enter Tryz.func32, Tryz.ntmps32
    go_wp2_with (first | (go_at_call 45; refine hbeg.mono ?_; rintro e1 w1 ⟨⟨y, hy, rfl, hy0, hy1⟩, hk3⟩) | fail)
    exact ⟨rfl, ⟨y, hy, rfl, hy0, hy1⟩, hk3⟩
theorem Jv.value_eq (t : ByteArray) (d p : Nat) : value t d p = (next t p).bind fun c =>
      if isLetter c then word t p
      else if isDigit c || c == 45 then number t p
      else if c = 34 then (Go.Jv.quoted t p).bind fun x => .ok (.text x.1, x.2)
      else if c = 91 then (match d with
        | 0 => .bad p eDepth
        | d + 1 => listFrom t (value t d) 66 (p + 1) [])
      else if c = 123 then (match d with
        | 0 => .bad p eDepth
        | d + 1 => objFrom t (value t d) 66 (p + 1) [] [])
      else .bad p eSyntax := by
  cases d <;> rw [value]
theorem Jv.vok_from {b : Nat} {t : ByteArray} {o q n : Nat} {w w' : World} {v : V} {en : Ending} (h : Tryz.Vok b t o (w.drewN n) v q en w') : Tryz.Vok b t o w v q en w' := by
  obtain ⟨x, h1, h2, h3, h4⟩ := h
  exact ⟨x, h1, h2, h3, Jv.wk_from h4 rfl rfl rfl rfl⟩
theorem Jv.lost {p _q : Nat} {e : Nat} {α : Type} {a : α} (h : (R.bad p e : R α) = .ok a) : False := by cases h
set_option maxHeartbeats 4000000 in
theorem Tryz.value_step (d : Nat) (hN : Tryz.NumOk) (hL : ∀ d', d = d' + 1 → Tryz.ValOk d' ∧ Tryz.ObjOk d') : Tryz.ValOk d := by
  intro w b t p o h hT hbg hod
  have HV := Jv.value_eq t d p
  have hp := h.hp
  have ht := h.ht
  have ho := h.ho
  have hb := h.hb
  by_cases hlt : p < t.size
  · rw [Jv.next_at hlt] at HV
    simp only [R.bind] at HV
    have hnx := Tryz.next_ok h hlt
    have hlet := Tryz.isLetter_any (t.get! p)
    have hdig := Tryz.isDigit_any (t.get! p)
    generalize t.get! p = c at *
    have HR : Hid (Rd w b t p o) := h
    clear h
    by_cases c1 : isLetter c = true
    · rw [if_pos c1] at HV
      have HX : Hid (value t d p = word t p) := HV
      rw [c1] at hlet
      have hw := fun n => Tryz.word_any (HR.out.drewN n)
      clear HV c1 hdig
      go_enter Tryz.func17, Tryz.ntmps17
      go_wp2_with (first | (go_at_call 25; refine hnx.mono ?_; rintro e1 w1 ⟨rfl, n, rfl⟩) | (go_at_call 26; refine (hlet _).mono ?_; rintro e2 w2 ⟨rfl, rfl⟩) | fail)
      refine (hw _).mono ?_
      rintro e3 w3 (⟨v, q, hq, x, rfl, h2, h3, h4⟩ | ⟨p1, e1, hq, ⟨y, hy, rfl, hy0, hy1⟩, hk3⟩)
      · go_wp2
        go_ret
        exact Or.inl ⟨v, q, HX.out.trans hq, x, rfl, h2, h3, Jv.wk_from h4 rfl rfl rfl rfl⟩
      · exact ⟨rfl, Or.inr ⟨_, _, HX.out.trans hq, ⟨y, hy, rfl, hy0, hy1⟩, Jv.wk_from hk3 rfl rfl rfl rfl⟩⟩
    · rw [if_neg c1] at HV
      have c1' : isLetter c = false := by simpa using c1
      rw [c1'] at hlet
      clear c1 c1'
      by_cases c2 : isDigit c = true
      · rw [if_pos (by simp [c2])] at HV
        have HX : Hid (value t d p = number t p) := HV
        rw [c2] at hdig
        have hw := fun n => hN (w.drewN n) b t p o (HR.out.drewN n) (hT.drewN n) hbg
        clear HV c2
        go_enter Tryz.func17, Tryz.ntmps17
        go_wp2_with (first | (go_at_call 25; refine hnx.mono ?_; rintro e1 w1 ⟨rfl, n, rfl⟩) | (go_at_call 26; refine (hlet _).mono ?_; rintro e2 w2 ⟨rfl, rfl⟩) | (go_at_call 28; refine (hdig _).mono ?_; rintro e2 w2 ⟨rfl, rfl⟩) | fail)
        refine (hw _).mono ?_
        rintro e3 w3 (⟨v, q, hq, x, rfl, h2, h3, h4⟩ | ⟨p1, e1, hq, ⟨y, hy, rfl, hy0, hy1⟩, hk3⟩)
        · go_wp2
          go_ret
          exact Or.inl ⟨v, q, HX.out.trans hq, x, rfl, h2, h3, Jv.wk_from h4 rfl rfl rfl rfl⟩
        · exact ⟨rfl, Or.inr ⟨_, _, HX.out.trans hq, ⟨y, hy, rfl, hy0, hy1⟩, Jv.wk_from hk3 rfl rfl rfl rfl⟩⟩
      · have c2' : isDigit c = false := by simpa using c2
        rw [c2'] at hdig
        by_cases c45 : c = 45
        · subst c45
          rw [if_pos (by simp)] at HV
          have HX : Hid (value t d p = number t p) := HV
          have hw := fun n => hN (w.drewN n) b t p o (HR.out.drewN n) (hT.drewN n) hbg
          clear HV c2 c2'
          have hnx' : Calls Tryz.prog 25 #[.pointer (some ⟨b, 0, none⟩)] w fun en w' => en = .returned (.int .u8 45) ∧ ∃ n, w' = w.drewN n := hnx
          have hlet' : ∀ w, Calls Tryz.prog 26 #[.int .u8 45] w fun en w' => en = .returned (.bool false) ∧ w' = w := hlet
          have hdig' : ∀ w, Calls Tryz.prog 28 #[.int .u8 45] w fun en w' => en = .returned (.bool false) ∧ w' = w := hdig
          clear hnx hlet hdig
          have hnx := hnx'
          have hlet := hlet'
          have hdig := hdig'
          clear hnx' hlet' hdig'
          go_enter Tryz.func17, Tryz.ntmps17
          go_wp2_with (first | (go_at_call 25; refine hnx.mono ?_; rintro e1 w1 ⟨rfl, n, rfl⟩) | (go_at_call 26; refine (hlet _).mono ?_; rintro e2 w2 ⟨rfl, rfl⟩) | (go_at_call 28; refine (hdig _).mono ?_; rintro e2 w2 ⟨rfl, rfl⟩) | fail)
          refine (hw _).mono ?_
          rintro e3 w3 (⟨v, q, hq, x, rfl, h2, h3, h4⟩ | ⟨p1, e1, hq, ⟨y, hy, rfl, hy0, hy1⟩, hk3⟩)
          · go_wp2
            go_ret
            exact Or.inl ⟨v, q, HX.out.trans hq, x, rfl, h2, h3, Jv.wk_from h4 rfl rfl rfl rfl⟩
          · exact ⟨rfl, Or.inr ⟨_, _, HX.out.trans hq, ⟨y, hy, rfl, hy0, hy1⟩, Jv.wk_from hk3 rfl rfl rfl rfl⟩⟩
        · have h45 := Jv.u8_ne c45
          have h45' : ¬ (c.toNat : Int) = 45 := h45
          rw [if_neg (by simp [c2', c45])] at HV
          clear c2 c2' h45
          by_cases c34 : c = 34
          · subst c34
            rw [if_pos rfl] at HV
            have HX : Hid (value t d p = (Go.Jv.quoted t p).bind fun x => .ok (.text x.1, x.2)) := HV
            have hw := fun n => Tryz.quoted_any (HR.out.drewN n) (hT.drewN n) hbg
            clear HV c45 h45'
            have hnx' : Calls Tryz.prog 25 #[.pointer (some ⟨b, 0, none⟩)] w fun en w' => en = .returned (.int .u8 34) ∧ ∃ n, w' = w.drewN n := hnx
            have hlet' : ∀ w, Calls Tryz.prog 26 #[.int .u8 34] w fun en w' => en = .returned (.bool false) ∧ w' = w := hlet
            have hdig' : ∀ w, Calls Tryz.prog 28 #[.int .u8 34] w fun en w' => en = .returned (.bool false) ∧ w' = w := hdig
            clear hnx hlet hdig
            have hnx := hnx'
            have hlet := hlet'
            have hdig := hdig'
            clear hnx' hlet' hdig'
            go_enter Tryz.func17, Tryz.ntmps17
            go_wp2_with (first | (go_at_call 25; refine hnx.mono ?_; rintro e1 w1 ⟨rfl, n, rfl⟩) | (go_at_call 26; refine (hlet _).mono ?_; rintro e2 w2 ⟨rfl, rfl⟩) | (go_at_call 28; refine (hdig _).mono ?_; rintro e2 w2 ⟨rfl, rfl⟩) | fail)
            refine (hw _).mono ?_
            rintro e3 w3 (⟨s, q, hq, rfl, h3, h4⟩ | ⟨p1, e1, hq, ⟨y, hy, rfl, hy0, hy1⟩, hk3⟩)
            · go_wp2
              go_ret
              have h4' : Wk b w w3 := Jv.wk_from h4 rfl rfl rfl rfl
              exact Or.inl ⟨.text s, q, HX.out.trans (by rw [hq]; rfl), Tryz.vok_new h3 h4' (v := .text s) (fun h => ⟨h, Jv.Vb.new w3 3 false 0 s Jv.nilS Jv.nilS _⟩)⟩
            · exact ⟨rfl, Or.inr ⟨_, _, HX.out.trans (by rw [hq]; rfl), ⟨y, hy, rfl, hy0, hy1⟩, Jv.wk_from hk3 rfl rfl rfl rfl⟩⟩
          · have h34 : ¬ (c.toNat : Int) = 34 := Jv.u8_ne c34
            rw [if_neg c34] at HV
            by_cases c91 : c = 91
            · subst c91
              rw [if_pos rfl] at HV
              clear c45 h45' c34 h34
              have hnx' : Calls Tryz.prog 25 #[.pointer (some ⟨b, 0, none⟩)] w fun en w' => en = .returned (.int .u8 91) ∧ ∃ n, w' = w.drewN n := hnx
              have hlet' : ∀ w, Calls Tryz.prog 26 #[.int .u8 91] w fun en w' => en = .returned (.bool false) ∧ w' = w := hlet
              have hdig' : ∀ w, Calls Tryz.prog 28 #[.int .u8 91] w fun en w' => en = .returned (.bool false) ∧ w' = w := hdig
              clear hnx hlet hdig
              have hnx := hnx'
              have hlet := hlet'
              have hdig := hdig'
              clear hnx' hlet' hdig'
              cases d with
              | zero =>
                obtain rfl : o = 10 := by omega
                have HX : Hid (value t 0 p = .bad p eDepth) := HV
                have hw := fun n => Tryz.begin_dies (HR.out.drewN n) (.inl rfl)
                clear HV hL
                go_enter Tryz.func17, Tryz.ntmps17
                go_wp2_with (first | (go_at_call 25; refine hnx.mono ?_; rintro e1 w1 ⟨rfl, n, rfl⟩) | (go_at_call 26; refine (hlet _).mono ?_; rintro e2 w2 ⟨rfl, rfl⟩) | (go_at_call 28; refine (hdig _).mono ?_; rintro e2 w2 ⟨rfl, rfl⟩) | fail)
                refine (hw _).mono ?_
                rintro e3 w3 ⟨⟨y, hy, rfl, hy0, hy1⟩, hk3⟩
                exact ⟨rfl, Or.inr ⟨_, _, HX.out, ⟨y, hy, rfl, hy0, hy1⟩, Jv.wk_from hk3 rfl rfl rfl rfl⟩⟩
              | succ d =>
                have HX : Hid (value t (d + 1) p = listFrom t (value t d) 66 (p + 1) []) := HV
                have hw := fun n => Tryz.list_any (hL d rfl).1 (HR.out.drewN n) (hT.drewN n) hbg hod hlt
                clear HV hL
                go_enter Tryz.func17, Tryz.ntmps17
                go_wp2_with (first | (go_at_call 25; refine hnx.mono ?_; rintro e1 w1 ⟨rfl, n, rfl⟩) | (go_at_call 26; refine (hlet _).mono ?_; rintro e2 w2 ⟨rfl, rfl⟩) | (go_at_call 28; refine (hdig _).mono ?_; rintro e2 w2 ⟨rfl, rfl⟩) | fail)
                refine (hw _).mono ?_
                rintro e3 w3 (⟨v, q, hq, x, rfl, h2, h3, h4⟩ | ⟨p1, e1, hq, ⟨y, hy, rfl, hy0, hy1⟩, hk3⟩)
                · go_wp2
                  go_ret
                  exact Or.inl ⟨v, q, HX.out.trans hq, x, rfl, h2, h3, Jv.wk_from h4 rfl rfl rfl rfl⟩
                · exact ⟨rfl, Or.inr ⟨_, _, HX.out.trans hq, ⟨y, hy, rfl, hy0, hy1⟩, Jv.wk_from hk3 rfl rfl rfl rfl⟩⟩
            · have h91 : ¬ (c.toNat : Int) = 91 := Jv.u8_ne c91
              rw [if_neg c91] at HV
              by_cases c123 : c = 123
              · subst c123
                rw [if_pos rfl] at HV
                clear c45 h45' c34 h34 c91 h91
                have hnx' : Calls Tryz.prog 25 #[.pointer (some ⟨b, 0, none⟩)] w fun en w' => en = .returned (.int .u8 123) ∧ ∃ n, w' = w.drewN n := hnx
                have hlet' : ∀ w, Calls Tryz.prog 26 #[.int .u8 123] w fun en w' => en = .returned (.bool false) ∧ w' = w := hlet
                have hdig' : ∀ w, Calls Tryz.prog 28 #[.int .u8 123] w fun en w' => en = .returned (.bool false) ∧ w' = w := hdig
                clear hnx hlet hdig
                have hnx := hnx'
                have hlet := hlet'
                have hdig := hdig'
                clear hnx' hlet' hdig'
                cases d with
                | zero =>
                  obtain rfl : o = 10 := by omega
                  have HX : Hid (value t 0 p = .bad p eDepth) := HV
                  have hw := fun n => Tryz.begin_dies (HR.out.drewN n) (.inr rfl)
                  clear HV hL
                  go_enter Tryz.func17, Tryz.ntmps17
                  go_wp2_with (first | (go_at_call 25; refine hnx.mono ?_; rintro e1 w1 ⟨rfl, n, rfl⟩) | (go_at_call 26; refine (hlet _).mono ?_; rintro e2 w2 ⟨rfl, rfl⟩) | (go_at_call 28; refine (hdig _).mono ?_; rintro e2 w2 ⟨rfl, rfl⟩) | fail)
                  refine (hw _).mono ?_
                  rintro e3 w3 ⟨⟨y, hy, rfl, hy0, hy1⟩, hk3⟩
                  exact ⟨rfl, Or.inr ⟨_, _, HX.out, ⟨y, hy, rfl, hy0, hy1⟩, Jv.wk_from hk3 rfl rfl rfl rfl⟩⟩
                | succ d =>
                  have HX : Hid (value t (d + 1) p = objFrom t (value t d) 66 (p + 1) [] []) := HV
                  have hw := fun n => (hL d rfl).2 (w.drewN n) b t p o (HR.out.drewN n) (hT.drewN n) hbg hod hlt
                  clear HV hL
                  go_enter Tryz.func17, Tryz.ntmps17
                  go_wp2_with (first | (go_at_call 25; refine hnx.mono ?_; rintro e1 w1 ⟨rfl, n, rfl⟩) | (go_at_call 26; refine (hlet _).mono ?_; rintro e2 w2 ⟨rfl, rfl⟩) | (go_at_call 28; refine (hdig _).mono ?_; rintro e2 w2 ⟨rfl, rfl⟩) | fail)
                  refine (hw _).mono ?_
                  rintro e3 w3 (⟨v, q, hq, x, rfl, h2, h3, h4⟩ | ⟨p1, e1, hq, ⟨y, hy, rfl, hy0, hy1⟩, hk3⟩)
                  · go_wp2
                    go_ret
                    exact Or.inl ⟨v, q, HX.out.trans hq, x, rfl, h2, h3, Jv.wk_from h4 rfl rfl rfl rfl⟩
                  · exact ⟨rfl, Or.inr ⟨_, _, HX.out.trans hq, ⟨y, hy, rfl, hy0, hy1⟩, Jv.wk_from hk3 rfl rfl rfl rfl⟩⟩
              · have h123 : ¬ (c.toNat : Int) = 123 := Jv.u8_ne c123
                rw [if_neg c123] at HV
                have HX : Hid (value t d p = .bad p eSyntax) := HV
                clear HV hL c45 c34 c91 c123
                obtain ⟨d0, d1, d2, g0, g1, g2, hb1, -, -, -⟩ := HR.out
                go_enter Tryz.func17, Tryz.ntmps17
                go_wp2_with (first | (go_at_call 25; refine hnx.mono ?_; rintro e1 w1 ⟨rfl, n, rfl⟩) | (go_at_call 26; refine (hlet _).mono ?_; rintro e2 w2 ⟨rfl, rfl⟩) | (go_at_call 28; refine (hdig _).mono ?_; rintro e2 w2 ⟨rfl, rfl⟩) | (go_at_call 12; refine (Tryz.fault_any _ _ _).mono ?_; rintro e9 w9 ⟨rfl, rfl⟩) | fail)
                have hq := Jv.bad_new (T := 40) (U := 48) (n := n) (p := p) (e := 20) hb1
                exact ⟨rfl, Or.inr ⟨_, _, HX.out, hq.1, hq.2⟩⟩
  · obtain rfl : p = t.size := by omega
    rw [Jv.next_end hlt] at HV
    have HX : Hid (value t d t.size = .bad t.size eSyntax) := HV
    have hnx := Tryz.next_bad h
    clear HV h
    go_enter Tryz.func17, Tryz.ntmps17
    go_wp2_with (first | (go_at_call 25; refine hnx.mono ?_; rintro e1 w1 ⟨⟨y, hy, rfl, hy0, hy1⟩, hk3⟩) | fail)
    exact ⟨rfl, Or.inr ⟨_, _, HX.out, ⟨y, hy, rfl, hy0, hy1⟩, hk3⟩⟩
/-- 'value', once 'number' and 'object' stand. -/
theorem Tryz.value_all (hN : Tryz.NumOk) (hO : ∀ d, Tryz.ValOk d → Tryz.ObjOk d) : ∀ d, Tryz.ValOk d
  | 0 => Tryz.value_step 0 hN (fun d' h => by omega)
  | d + 1 => Tryz.value_step (d + 1) hN (fun d' h => by have e : d = d' := (by omega); subst e; exact ⟨Tryz.value_all hN hO d, hO d (Tryz.value_all hN hO d)⟩)
end Go.Proofs
