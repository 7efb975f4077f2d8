/-
  The reader's 'escape'.
-/
import Derived.Test.YtejibjeidklnkaaGreatDoorJr5
namespace Go.Proofs
open Go.RowKit Go.Jv
def Jv.escL : List UInt8 := [34, 92, 47, 98, 102, 110, 114, 116]
def Jv.escB : ByteArray := ⟨#[34, 92, 47, 8, 12, 10, 13, 9]⟩
theorem Jv.esc_some (c x : UInt8) (h : escOf c = some x) : ∃ k : Nat, ∃ hk : k < 8, Lib.indexByte [34, 92, 47, 98, 102, 110, 114, 116] c = k ∧ (⟨#[34, 92, 47, 8, 12, 10, 13, 9]⟩ : ByteArray)[k]'hk = x := by
  unfold escOf at h
  repeat' split at h
  all_goals first
    | (next hc => subst hc; obtain rfl := Option.some.inj h; first | exact ⟨0, by decide, by decide, by decide⟩ | exact ⟨1, by decide, by decide, by decide⟩ | exact ⟨2, by decide, by decide, by decide⟩ | exact ⟨3, by decide, by decide, by decide⟩ | exact ⟨4, by decide, by decide, by decide⟩ | exact ⟨5, by decide, by decide, by decide⟩ | exact ⟨6, by decide, by decide, by decide⟩ | exact ⟨7, by decide, by decide, by decide⟩)
    | cases h
theorem Jv.esc_none (c : UInt8) (h : escOf c = none) : Lib.indexByte [34, 92, 47, 98, 102, 110, 114, 116] c = -1 := by
  have hd : ∀ n : Fin 256, escOf (UInt8.ofNat n) = none → Lib.indexByte [34, 92, 47, 98, 102, 110, 114, 116] (UInt8.ofNat n) = -1 := by decide +kernel
  have := hd ⟨c.toNat, c.toNat_lt⟩
  simpa [h] using this
theorem Tryz.unit_ok {w : World} {b : Nat} {t : ByteArray} {p o fr n : Nat} (hu : unit t fr p = .ok n) (h : Rd w b t p o) (hfr : fr ≤ 4096) :
    Calls Tryz.prog 59 #[.pointer (some ⟨b, 0, none⟩), .int .i64 fr] w fun en w' => en = .returned (.int .i32 n) ∧ Rd w' b t (p + 6) o ∧ Wk b w w' := by
  refine (Tryz.unit_any h fr hfr).mono fun e w' hq => ?_
  rcases hq with ⟨m, hm, rfl, _, hR, hW⟩ | ⟨p', e', hm, _⟩
  · rw [hu] at hm; obtain rfl : n = m := by injection hm
    exact ⟨rfl, hR, hW⟩
  · rw [hu] at hm; cases hm
theorem Tryz.unit_bad {w : World} {b : Nat} {t : ByteArray} {p o fr p' e' : Nat} (hu : unit t fr p = .bad p' e') (h : Rd w b t p o) (hfr : fr ≤ 4096) :
    Calls Tryz.prog 59 #[.pointer (some ⟨b, 0, none⟩), .int .i64 fr] w fun en w' => Bad 40 p' e' en w' ∧ Wk b w w' := by
  refine (Tryz.unit_any h fr hfr).mono fun e w' hq => ?_
  rcases hq with ⟨m, hm, _⟩ | ⟨p2, e2, hm, hB, hW⟩
  · rw [hu] at hm; cases hm
  · rw [hu] at hm; injection hm with h1 h2; subst h1; subst h2
    exact ⟨hB, hW⟩
theorem Jv.unitFrom_lt (t : ByteArray) (fr : Nat) : ∀ (k p n m : Nat), k ≤ 6 → unitFrom t fr k p n = .ok m → (k ≤ 4 → m < (n + 1) * 16 ^ k) ∧ (4 < k → n = 0 → m < 65536)
  | 0, p, n, m, _, h => by
    injection h with h; subst h
    exact ⟨fun _ => by omega, fun h => by omega⟩
  | k + 1, p, n, m, hk, h => by
    rw [unitFrom] at h
    split at h
    · split at h
      · split at h
        · next h5 _ => subst h5; have := Jv.unitFrom_lt t fr 5 _ _ _ (by omega) h; exact ⟨fun h => by omega, fun _ h0 => this.2 (by omega) h0⟩
        · cases h
      · split at h
        · split at h
          · next h4 _ => subst h4; have := Jv.unitFrom_lt t fr 4 _ _ _ (by omega) h; exact ⟨fun h => by omega, fun _ h0 => by have := this.1 (by omega); subst h0; simpa using this⟩
          · cases h
        · split at h
          · next d hd =>
            have hd16 := Jv.hexOf_lt _ _ hd
            have := (Jv.unitFrom_lt t fr k _ _ _ (by omega) h).1 (by omega)
            refine ⟨fun _ => ?_, fun h => by omega⟩
            rw [Nat.pow_succ]
            have h2 : (16 * n + d + 1) * 16 ^ k ≤ (n + 1) * (16 ^ k * 16) := by
              have : 16 * n + d + 1 ≤ (n + 1) * 16 := by omega
              calc (16 * n + d + 1) * 16 ^ k ≤ ((n + 1) * 16) * 16 ^ k := Nat.mul_le_mul_right _ this
                _ = (n + 1) * (16 ^ k * 16) := by rw [Nat.mul_assoc, Nat.mul_comm 16]
            omega
          · cases h
    · cases h
theorem Jv.unit_lt {t : ByteArray} {fr p n : Nat} (h : unit t fr p = .ok n) : n < 65536 := (Jv.unitFrom_lt t fr 6 p 0 n (by omega) h).2 (by omega) rfl
set_option maxHeartbeats 4000000 in
set_option maxRecDepth 20000 in
theorem Tryz.escape_any {w : World} {b : Nat} {t : ByteArray} {p o : Nat} (h : Rd w b t p o) (hlt : p < t.size) :
    Calls Tryz.prog 43 #[.pointer (some ⟨b, 0, none⟩)] w fun en w' =>
      (∃ r q, escape t p = .ok (r, q) ∧ en = .returned (.int .i32 r) ∧ Rd w' b t q o ∧ Wk b w w') ∨ (∃ p' e, escape t p = .bad p' e ∧ Bad 40 p' e en w' ∧ Wk b w w') := by
  have HR : Hid (Rd w b t p o) := h
  have hR1 : Rd (w.setCell ⟨b, 1, none⟩ (.int .i64 ((p : Int) + 1))) b t (p + 1) o := h.at0 (p + 1) _ (by omega) hlt
  have hW1 : Wk b w (w.setCell ⟨b, 1, none⟩ (.int .i64 ((p : Int) + 1))) := (Wk.refl b w).setCell _ _ _
  obtain ⟨c0, c1, c2, f0, f1, f2, hb, hp, ht, ho⟩ := h
  by_cases hl1 : p + 1 < t.size
  · have hnx := Tryz.next_ok hR1 hl1
    have hn : next t (p + 1) = .ok (t.get! (p + 1)) := by unfold next; rw [if_pos hl1]
    have hesc : escape t p = (match escOf (t.get! (p + 1)) with
      | some x => R.ok (x.toNat, p + 2)
      | none => (unit t p p).bind fun high =>
        if high < 55296 ∨ 57343 < high then .ok (high, p + 6)
        else if 56320 ≤ high then .bad p eSyntax
        else (unit t p (p + 6)).bind fun low => if low < 56320 ∨ 57343 < low then .bad p eSyntax else .ok (65536 + (high - 55296) * 1024 + (low - 56320), p + 12)) := by
      unfold escape; rw [hn]; rfl
    generalize t.get! (p + 1) = c at hnx hesc
    clear hn
    cases hx : escOf c with
    | some x =>
      rw [hx] at hesc
      have HE : Hid (escape t p = .ok (x.toNat, p + 2)) := hesc
      obtain ⟨k, hk, hi, hg⟩ := Jv.esc_some c x hx
      have hib : ∀ w, Calls Tryz.prog 52 #[.string ⟨#[34, 92, 47, 98, 102, 110, 114, 116]⟩, .int .u8 c.toNat] w fun e w' => e = .returned (.int .i64 k) ∧ w' = w := fun w => by
        have := Tryz.strings_IndexByte ⟨#[34, 92, 47, 98, 102, 110, 114, 116]⟩ c.toNat w
        simpa [hi] using this
      have hx256 := x.toNat_lt
      clear hx hesc hi
      go_enter Tryz.func43, Tryz.ntmps43
      go_wp2_with (first | (go_at_call 25; refine hnx.mono ?_; rintro e w' ⟨rfl, n, rfl⟩) | (go_at_call 52; refine (hib _).mono ?_; rintro e w' ⟨rfl, rfl⟩))
      go_ret
      exact Or.inl ⟨_, _, HE.out, rfl, hR1.atN _ _ _ (by omega) (by omega), (hW1.drewN _).setCell _ _ _⟩
    | none =>
      rw [hx] at hesc
      have HE : Hid (escape t p = _) := hesc
      have hi := Jv.esc_none c hx
      have hib : ∀ w, Calls Tryz.prog 52 #[.string ⟨#[34, 92, 47, 98, 102, 110, 114, 116]⟩, .int .u8 c.toNat] w fun e w' => e = .returned (.int .i64 (-1)) ∧ w' = w := fun w => by
        have := Tryz.strings_IndexByte ⟨#[34, 92, 47, 98, 102, 110, 114, 116]⟩ c.toNat w
        simpa [hi] using this
      clear hx hesc hi
      cases hu : unit t p p with
      | bad p' e' =>
        have HX : Hid (escape t p = .bad p' e') := by have h1 := HE.out; rw [hu] at h1; exact h1
        clear HE
        go_enter Tryz.func43, Tryz.ntmps43
        go_wp2_with (first | (go_at_call 25; refine hnx.mono ?_; rintro e w' ⟨rfl, n, rfl⟩) | (go_at_call 52; refine (hib _).mono ?_; rintro e w' ⟨rfl, rfl⟩) | (go_at_call 59; refine (Tryz.unit_bad hu (hR1.atN _ p _ rfl (by omega)) (by omega)).mono ?_; rintro e w2 ⟨⟨x, hx, rfl, hx0, hx1⟩, hW2⟩; have hW3 := ((hW1.drewN _).setCell _ _ _).trans hW2))
        exact ⟨rfl, Or.inr ⟨_, _, HX.out, ⟨x, hx, rfl, hx0, hx1⟩, hW3⟩⟩
      | ok high =>
        have hh := Jv.unit_lt hu
        have HE2 : Hid (escape t p = (if high < 55296 ∨ 57343 < high then .ok (high, p + 6)
          else if 56320 ≤ high then .bad p eSyntax
          else (unit t p (p + 6)).bind fun low => if low < 56320 ∨ 57343 < low then .bad p eSyntax else .ok (65536 + (high - 55296) * 1024 + (low - 56320), p + 12))) := by
          have h1 := HE.out; rw [hu] at h1; exact h1
        clear HE
        by_cases ha : high < 55296
        · have HX : Hid (escape t p = .ok (high, p + 6)) := by have h1 := HE2.out; rw [if_pos (Or.inl ha)] at h1; exact h1
          go_enter Tryz.func43, Tryz.ntmps43
          go_wp2_with (first | (go_at_call 25; refine hnx.mono ?_; rintro e w' ⟨rfl, n, rfl⟩) | (go_at_call 52; refine (hib _).mono ?_; rintro e w' ⟨rfl, rfl⟩) | (go_at_call 59; refine (Tryz.unit_ok hu (hR1.atN _ p _ rfl (by omega)) (by omega)).mono ?_; clear hu; rintro e w2 ⟨rfl, hR2, hW2⟩; have HR2 : Hid (Rd w2 b t (p + 6) o) := hR2; have hW3 := ((hW1.drewN _).setCell _ _ _).trans hW2; obtain ⟨d0, d1, d2, g0, g1, g2, hbb, -, -, -⟩ := hR2))
          go_ret
          exact Or.inl ⟨_, _, HX.out, rfl, HR2.out, hW3⟩
        · by_cases hc2 : 57343 < high
          · have HX : Hid (escape t p = .ok (high, p + 6)) := by have h1 := HE2.out; rw [if_pos (Or.inr hc2)] at h1; exact h1
            go_enter Tryz.func43, Tryz.ntmps43
            go_wp2_with (first | (go_at_call 25; refine hnx.mono ?_; rintro e w' ⟨rfl, n, rfl⟩) | (go_at_call 52; refine (hib _).mono ?_; rintro e w' ⟨rfl, rfl⟩) | (go_at_call 59; refine (Tryz.unit_ok hu (hR1.atN _ p _ rfl (by omega)) (by omega)).mono ?_; clear hu; rintro e w2 ⟨rfl, hR2, hW2⟩; have HR2 : Hid (Rd w2 b t (p + 6) o) := hR2; have hW3 := ((hW1.drewN _).setCell _ _ _).trans hW2; obtain ⟨d0, d1, d2, g0, g1, g2, hbb, -, -, -⟩ := hR2))
            go_ret
            exact Or.inl ⟨_, _, HX.out, rfl, HR2.out, hW3⟩
          · by_cases hd : 56320 ≤ high
            · have HX : Hid (escape t p = .bad p eSyntax) := by have h1 := HE2.out; rw [if_neg (by omega), if_pos hd] at h1; exact h1
              have ia : (55296 : Int) ≤ high := by omega
              have ib : (high : Int) ≤ 57343 := by omega
              have ic : (56320 : Int) ≤ high := by omega
              clear ha hc2 hd hh HE2
              go_enter Tryz.func43, Tryz.ntmps43
              go_wp2_with (first | (go_at_call 25; refine hnx.mono ?_; rintro e w' ⟨rfl, n, rfl⟩) | (go_at_call 52; refine (hib _).mono ?_; rintro e w' ⟨rfl, rfl⟩) | (go_at_call 59; refine (Tryz.unit_ok hu (hR1.atN _ p _ rfl (by omega)) (by omega)).mono ?_; clear hu; rintro e w2 ⟨rfl, hR2, hW2⟩; have HR2 : Hid (Rd w2 b t (p + 6) o) := hR2; have hW3 := ((hW1.drewN _).setCell _ _ _).trans hW2; obtain ⟨d0, d1, d2, g0, g1, g2, hbb, -, -, -⟩ := hR2) | (go_at_call 12; refine (Tryz.fault_any _ _ _).mono ?_; rintro e w' ⟨rfl, rfl⟩))
              have hq := Jv.bad_new (T := 40) (U := 48) (n := 0) (p := p) (e := 20) hbb
              exact ⟨rfl, Or.inr ⟨_, _, HX.out, hq.1, hW3.trans hq.2⟩⟩
            · have HE3 : Hid (escape t p = (unit t p (p + 6)).bind fun low => if low < 56320 ∨ 57343 < low then .bad p eSyntax else .ok (65536 + (high - 55296) * 1024 + (low - 56320), p + 12)) := by
                have h1 := HE2.out; rw [if_neg (by omega), if_neg hd] at h1; exact h1
              have ia : (55296 : Int) ≤ high := by omega
              have ib : (high : Int) ≤ 57343 := by omega
              have ic : decide ((56320 : Int) ≤ high) = false := decide_eq_false (by omega)
              clear ha hc2 hd hh HE2
              cases hv : unit t p (p + 6) with
              | bad p' e' =>
                have HX : Hid (escape t p = .bad p' e') := by have h1 := HE3.out; rw [hv] at h1; exact h1
                go_enter Tryz.func43, Tryz.ntmps43
                go_wp2_with (first | (go_at_call 25; refine hnx.mono ?_; rintro e w' ⟨rfl, n, rfl⟩) | (go_at_call 52; refine (hib _).mono ?_; rintro e w' ⟨rfl, rfl⟩) | (go_at_call 59; first | (refine (Tryz.unit_bad hv HR2.out (by omega)).mono ?_; rintro e w3 ⟨⟨x, hx, rfl, hx0, hx1⟩, hW4⟩) | (refine (Tryz.unit_ok hu (hR1.atN _ p _ rfl (by omega)) (by omega)).mono ?_; clear hu; rintro e w2 ⟨rfl, hR2, hW2⟩; have HR2 : Hid (Rd w2 b t (p + 6) o) := hR2; have hW3 := ((hW1.drewN _).setCell _ _ _).trans hW2; clear hR2)))
                exact ⟨rfl, Or.inr ⟨_, _, HX.out, ⟨x, hx, rfl, hx0, hx1⟩, hW3.trans hW4⟩⟩
              | ok low =>
                have HV : Hid (unit t p (p + 6) = .ok low) := hv
                clear hv
                go_enter Tryz.func43, Tryz.ntmps43
                go_wp2_with (first | (go_at_call 25; refine hnx.mono ?_; rintro e w' ⟨rfl, n, rfl⟩) | (go_at_call 52; refine (hib _).mono ?_; rintro e w' ⟨rfl, rfl⟩) | (go_at_call 59; refine (Tryz.unit_ok hu (hR1.atN _ p _ rfl (by omega)) (by omega)).mono ?_; clear hu; rintro e w2 ⟨rfl, hR2, hW2⟩; have HR2 : Hid (Rd w2 b t (p + 6) o) := hR2; have hW3 := ((hW1.drewN _).setCell _ _ _).trans hW2; clear hR2) | fail)
                have hlw := Jv.unit_lt HV.out
                refine (Tryz.unit_ok HV.out HR2.out (by omega)).mono ?_
                rintro e w3 ⟨rfl, hR3, hW4⟩
                have HR3 : Hid (Rd w3 b t (p + 6 + 6) o) := hR3
                obtain ⟨d0, d1, d2, g0, g1, g2, hbb, -, -, -⟩ := hR3
                have HX : Hid (escape t p = if low < 56320 ∨ 57343 < low then .bad p eSyntax else .ok (65536 + (high - 55296) * 1024 + (low - 56320), p + 12)) := by have h1 := HE3.out; rw [HV.out] at h1; exact h1
                clear HE3 HV
                by_cases he1 : (56320 : Int) ≤ low
                · by_cases he2 : (low : Int) ≤ 57343
                  · have id1 : decide ((low : Int) < 56320) = false := decide_eq_false (by omega)
                    have id2 : decide ((57343 : Int) < low) = false := decide_eq_false (by omega)
                    clear hlw
                    go_wp2
                    go_ret
                    exact Or.inl ⟨_, _, HX.out.trans (if_neg (by omega)), Jv.ret_int (by omega), HR3.out, hW3.trans hW4⟩
                  · have id1 : decide ((low : Int) < 56320) = false := decide_eq_false (by omega)
                    have id2 : decide ((57343 : Int) < low) = true := decide_eq_true (by omega)
                    clear hlw
                    go_wp2_with (first | (go_at_call 12; refine (Tryz.fault_any _ _ _).mono ?_; rintro e w' ⟨rfl, rfl⟩) | fail)
                    have hq := Jv.bad_new (T := 40) (U := 48) (n := 0) (p := p) (e := 20) hbb
                    exact ⟨rfl, Or.inr ⟨_, _, HX.out.trans (if_pos (by omega)), hq.1, (hW3.trans hW4).trans hq.2⟩⟩
                · have id1 : decide ((low : Int) < 56320) = true := decide_eq_true (by omega)
                  clear hlw
                  go_wp2_with (first | (go_at_call 12; refine (Tryz.fault_any _ _ _).mono ?_; rintro e w' ⟨rfl, rfl⟩) | fail)
                  have hq := Jv.bad_new (T := 40) (U := 48) (n := 0) (p := p) (e := 20) hbb
                  exact ⟨rfl, Or.inr ⟨_, _, HX.out.trans (if_pos (by omega)), hq.1, (hW3.trans hW4).trans hq.2⟩⟩
  · have hs : p + 1 = t.size := by omega
    rw [hs] at hR1
    have hnx := Tryz.next_bad hR1
    have hE : escape t p = .bad t.size eSyntax := by
      unfold escape next; rw [if_neg hl1, hs]; rfl
    have HX : Hid (escape t p = .bad t.size eSyntax) := hE
    clear hE hs
    go_enter Tryz.func43, Tryz.ntmps43
    go_wp2_with (go_at_call 25; refine hnx.mono ?_; rintro e w' ⟨⟨x, hx, rfl, hx0, hx1⟩, hk⟩)
    exact ⟨rfl, Or.inr ⟨_, _, HX.out, ⟨x, hx, rfl, hx0, hx1⟩, hW1.trans hk⟩⟩
end Go.Proofs
