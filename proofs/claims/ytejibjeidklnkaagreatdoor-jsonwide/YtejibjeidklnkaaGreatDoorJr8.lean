/-
  The reader's 'more'.
-/
import Derived.Test.YtejibjeidklnkaaGreatDoorJr7
namespace Go.Proofs
open Go.RowKit Go.Jv
theorem Jv.u8_ne {c d : UInt8} (h : ¬ c = d) : ¬ (c.toNat : Int) = d.toNat := fun e => h (UInt8.toNat_inj.1 (by omega))
theorem Jv.next_at {t : ByteArray} {p : Nat} (h : p < t.size) : next t p = .ok (t.get! p) := by unfold next; rw [if_pos h]
theorem Jv.next_end {t : ByteArray} {p : Nat} (h : ¬ p < t.size) : next t p = .bad p eSyntax := by unfold next; rw [if_neg h]
theorem Jv.take_at {t : ByteArray} {p : Nat} {c : UInt8} (h : p < t.size) (hc : t.get! p = c) : Go.Jv.take t p c = .ok (p + 1) := by unfold Go.Jv.take; rw [if_pos ⟨h, hc⟩]
theorem Jv.take_not {t : ByteArray} {p : Nat} {c : UInt8} (h : ¬ (p < t.size ∧ t.get! p = c)) : Go.Jv.take t p c = .bad p eSyntax := by unfold Go.Jv.take; rw [if_neg h]
theorem Jv.blanks_le (t : ByteArray) (p : Nat) (h : p ≤ t.size) : p ≤ blanks t p ∧ blanks t p ≤ t.size := Jv.run_le isBlank t p h
set_option maxHeartbeats 4000000 in
theorem Tryz.more_any {w : World} {b : Nat} {t : ByteArray} {p o : Nat} (h : Rd w b t p o) (ho1 : 1 ≤ o) (x : UInt8) (had : Nat) (hh : had ≤ 1000) :
    Calls Tryz.prog 46 #[.pointer (some ⟨b, 0, none⟩), .int .u8 x.toNat, .int .i64 had] w fun en w' =>
      (∃ q, more t p x had = .ok (false, q) ∧ en = .returned (.bool false) ∧ Rd w' b t q (o - 1) ∧ Wk b w w') ∨
      (∃ q, more t p x had = .ok (true, q) ∧ en = .returned (.bool true) ∧ q < t.size ∧ Rd w' b t q o ∧ Wk b w w') ∨
      (∃ p' e, more t p x had = .bad p' e ∧ Bad 40 p' e en w' ∧ Wk b w w') := by
  have hbl := Tryz.blanks_any h
  have hle := Jv.blanks_le t p h.hp
  have ht := h.ht
  have ho := h.ho
  clear h
  obtain ⟨hle1, hle2⟩ := hle
  by_cases hlt : blanks t p < t.size
  · have hnn := Jv.next_at hlt
    by_cases hc : t.get! (blanks t p) = x
    · subst hc
      have hnx : ∀ w1, Rd w1 b t (blanks t p) o → Calls Tryz.prog 25 #[.pointer (some ⟨b, 0, none⟩)] w1 fun en w' => en = .returned (.int .u8 (t.get! (blanks t p)).toNat) ∧ ∃ n, w' = w1.drewN n := fun w1 h1 => Tryz.next_ok h1 hlt
      have hB : more t p (t.get! (blanks t p)) had = .ok (false, blanks t p + 1) := by unfold more; rw [hnn]; simp [R.bind]
      have HB : Hid (more t p (t.get! (blanks t p)) had = .ok (false, blanks t p + 1)) := hB
      clear hB hnn
      generalize t.get! (blanks t p) = x at *
      go_enter Tryz.func46, Tryz.ntmps46
      go_wp2_with (first | (go_at_call 16; refine hbl.mono ?_; clear hbl; rintro e1 w1 ⟨rfl, hR1, hW1⟩; have HR1 : Hid (Rd w1 b t (blanks t p) o) := hR1; obtain ⟨c0, c1, c2, f0, f1, f2, hb1, -, -, -⟩ := hR1) | (go_at_call 25; refine (hnx w1 HR1.out).mono ?_; rintro e2 w2 ⟨rfl, n, rfl⟩) | fail)
      go_ret
      exact Or.inl ⟨_, HB.out, rfl, (HR1.out.openN _ (o - 1) _ (by omega) (by omega)).at0 _ _ (by omega) hlt, ((hW1.drewN _).setCell _ _ _).setCell _ _ _⟩
    · have hcn := Jv.u8_ne hc
      have hnx : ∀ w1, Rd w1 b t (blanks t p) o → Calls Tryz.prog 25 #[.pointer (some ⟨b, 0, none⟩)] w1 fun en w' => en = .returned (.int .u8 (t.get! (blanks t p)).toNat) ∧ ∃ n, w' = w1.drewN n := fun w1 h1 => Tryz.next_ok h1 hlt
      by_cases h0 : had = 0
      · have hB : more t p x had = .ok (true, blanks t p) := by unfold more; rw [hnn]; simp only [R.bind]; rw [if_neg hc, if_pos h0]
        have HB : Hid (more t p x had = .ok (true, blanks t p)) := hB
        clear hB hnn hc
        subst h0
        generalize t.get! (blanks t p) = c at *
        go_enter Tryz.func46, Tryz.ntmps46
        go_wp2_with (first | (go_at_call 16; refine hbl.mono ?_; clear hbl; rintro e1 w1 ⟨rfl, hR1, hW1⟩; have HR1 : Hid (Rd w1 b t (blanks t p) o) := hR1; obtain ⟨c0, c1, c2, f0, f1, f2, hb1, -, -, -⟩ := hR1) | (go_at_call 25; refine (hnx w1 HR1.out).mono ?_; rintro e2 w2 ⟨rfl, n, rfl⟩) | fail)
        go_ret
        exact Or.inr (Or.inl ⟨_, HB.out, rfl, hlt, HR1.out.drewN _, hW1.drewN _⟩)
      · by_cases h44 : t.get! (blanks t p) = 44
        · have hB : more t p x had = ((next t (blanks t (blanks t p + 1))).bind fun _ => if had = 64 then .bad (blanks t (blanks t p + 1)) eSize else .ok (true, blanks t (blanks t p + 1))) := by
            unfold more; rw [hnn]; simp only [R.bind]; rw [if_neg hc, if_neg h0, Jv.take_at hlt h44]
          have HB : Hid (more t p x had = ((next t (blanks t (blanks t p + 1))).bind fun _ => if had = 64 then .bad (blanks t (blanks t p + 1)) eSize else .ok (true, blanks t (blanks t p + 1)))) := hB
          have htk : ∀ w1, Rd w1 b t (blanks t p) o → Calls Tryz.prog 41 #[.pointer (some ⟨b, 0, none⟩), .int .u8 44] w1 fun en w' => en = .returned (.tuple #[]) ∧ Rd w' b t (blanks t p + 1) o ∧ Wk b w1 w' := fun w1 h1 => Tryz.take_ok (c := 44) h1 hlt h44
          have hle3 := Jv.blanks_le t (blanks t p + 1) hlt
          clear hB hnn hc h44
          generalize t.get! (blanks t p) = c at *
          go_enter Tryz.func46, Tryz.ntmps46
          go_wp2_with (first | (go_at_call 16; refine hbl.mono ?_; clear hbl; rintro e1 w1 ⟨rfl, hR1, hW1⟩; have HR1 : Hid (Rd w1 b t (blanks t p) o) := hR1; obtain ⟨c0, c1, c2, f0, f1, f2, hb1, -, -, -⟩ := hR1) | (go_at_call 25; refine (hnx w1 HR1.out).mono ?_; rintro e2 w2 ⟨rfl, n, rfl⟩) | (go_at_call 41; refine (htk _ (HR1.out.drewN _)).mono ?_; rintro e3 w3 ⟨rfl, hR3, hW3⟩) | fail)
          refine (Tryz.blanks_any hR3).mono ?_
          rintro e4 w4 ⟨rfl, hR4, hW4⟩
          clear hnx htk hR3
          have hW5 := ((hW1.drewN _).trans hW3).trans hW4
          by_cases hl2 : blanks t (blanks t p + 1) < t.size
          · have hnx := Tryz.next_ok hR4 hl2
            have HR4 : Hid (Rd w4 b t (blanks t (blanks t p + 1)) o) := hR4
            obtain ⟨d0, d1, d2, g0, g1, g2, hb4, -, -, -⟩ := hR4
            have hB2 := HB.out
            rw [Jv.next_at hl2] at hB2
            simp only [R.bind] at hB2
            by_cases h64 : had = 64
            · rw [if_pos h64] at hB2
              have HB2 : Hid (more t p x had = .bad (blanks t (blanks t p + 1)) eSize) := hB2
              clear hB2 HB
              subst h64
              go_wp2_with (first | (go_at_call 25; refine hnx.mono ?_; rintro e2 w2 ⟨rfl, n, rfl⟩) | (go_at_call 12; refine (Tryz.fault_any _ _ _).mono ?_; rintro e9 w9 ⟨rfl, rfl⟩) | fail)
              have hq := Jv.bad_new (T := 40) (U := 48) (n := n) (p := blanks t (blanks t p + 1)) (e := 22) hb4
              exact ⟨rfl, Or.inr (Or.inr ⟨_, _, HB2.out, hq.1, hW5.trans hq.2⟩)⟩
            · rw [if_neg h64] at hB2
              have HB2 : Hid (more t p x had = .ok (true, blanks t (blanks t p + 1))) := hB2
              clear hB2 HB
              go_wp2_with (first | (go_at_call 25; refine hnx.mono ?_; rintro e2 w2 ⟨rfl, n, rfl⟩) | (go_at_call 12; refine (Tryz.fault_any _ _ _).mono ?_; rintro e9 w9 ⟨rfl, rfl⟩) | fail)
              go_ret
              exact Or.inr (Or.inl ⟨_, HB2.out, rfl, hl2, HR4.out.drewN _, hW5.drewN _⟩)
          · have hs : blanks t (blanks t p + 1) = t.size := by omega
            have hB2 := HB.out
            rw [Jv.next_end hl2] at hB2
            have HB2 : Hid (more t p x had = .bad (blanks t (blanks t p + 1)) eSyntax) := hB2
            rw [hs] at hR4
            have hnx := Tryz.next_bad hR4
            clear hB2 HB hR4
            rw [hs] at HB2
            clear hs
            go_wp2_with (first | (go_at_call 25; refine hnx.mono ?_; rintro e2 w2 ⟨⟨y, hy, rfl, hy0, hy1⟩, hk3⟩) | fail)
            exact ⟨rfl, Or.inr (Or.inr ⟨_, _, HB2.out, ⟨y, hy, rfl, hy0, hy1⟩, hW5.trans hk3⟩)⟩
        · have hB : more t p x had = .bad (blanks t p) eSyntax := by
            unfold more; rw [hnn]; simp only [R.bind]; rw [if_neg hc, if_neg h0, Jv.take_not (fun h => h44 h.2)]
          have HB : Hid (more t p x had = .bad (blanks t p) eSyntax) := hB
          have htk : ∀ w1, Rd w1 b t (blanks t p) o → Calls Tryz.prog 41 #[.pointer (some ⟨b, 0, none⟩), .int .u8 44] w1 fun en w' => Bad 40 (blanks t p) eSyntax en w' ∧ Wk b w1 w' := fun w1 h1 => Tryz.take_other (c := 44) h1 hlt h44
          clear hB hnn hc h44
          generalize t.get! (blanks t p) = c at *
          go_enter Tryz.func46, Tryz.ntmps46
          go_wp2_with (first | (go_at_call 16; refine hbl.mono ?_; clear hbl; rintro e1 w1 ⟨rfl, hR1, hW1⟩; have HR1 : Hid (Rd w1 b t (blanks t p) o) := hR1; obtain ⟨c0, c1, c2, f0, f1, f2, hb1, -, -, -⟩ := hR1) | (go_at_call 25; refine (hnx w1 HR1.out).mono ?_; rintro e2 w2 ⟨rfl, n, rfl⟩) | (go_at_call 41; refine (htk _ (HR1.out.drewN _)).mono ?_; rintro e3 w3 ⟨⟨y, hy, rfl, hy0, hy1⟩, hk3⟩) | fail)
          exact ⟨rfl, Or.inr (Or.inr ⟨_, _, HB.out, ⟨y, hy, rfl, hy0, hy1⟩, (hW1.drewN _).trans hk3⟩)⟩
  · have hs : blanks t p = t.size := by omega
    have hB : more t p x had = .bad t.size eSyntax := by unfold more; rw [Jv.next_end hlt, hs]; rfl
    have HB : Hid (more t p x had = .bad t.size eSyntax) := hB
    rw [hs] at hbl
    clear hB hs
    go_enter Tryz.func46, Tryz.ntmps46
    go_wp2_with (first | (go_at_call 16; refine hbl.mono ?_; clear hbl; rintro e1 w1 ⟨rfl, hR1, hW1⟩; have HR1 : Hid (Rd w1 b t t.size o) := hR1; clear hR1) | (go_at_call 25; refine (Tryz.next_bad HR1.out).mono ?_; rintro e2 w2 ⟨⟨y, hy, rfl, hy0, hy1⟩, hk3⟩) | fail)
    exact ⟨rfl, Or.inr (Or.inr ⟨_, _, HB.out, ⟨y, hy, rfl, hy0, hy1⟩, hW1.trans hk3⟩)⟩
end Go.Proofs
