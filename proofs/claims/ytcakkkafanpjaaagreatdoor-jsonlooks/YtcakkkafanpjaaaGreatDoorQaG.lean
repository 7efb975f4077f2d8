/-
  Laid together by packg.py of Jb Jd Je Jp.
-/
import Derived.Test.YtcakkkafanpjaaaGreatDoorQaD
import Derived.Test.YtcakkkafanpjaaaGreatDoorQaF
import Derived.Test.YtcakkkafanpjaaaGreatDoorQaE
import Derived.Lib.AtoiErrMem
import Derived.Defers
import Derived.Recover
import Derived.Laws.Pointers
namespace Go.Proofs
open Go.RowKit Go.Jv
theorem Tryz.isNumber_any (s : ByteArray) (hs : s.size ≤ 5000) (w : World) :
    Calls Tryz.prog 121 #[.string s] w fun e w' => e = .returned (.bool (isNumber s)) ∧ Below w.heap.size w w' := by
  have hTP : ∀ w, Calls Tryz.prog 153 #[.string s, .string ⟨#[45]⟩] w fun e w' => e = .returned (.string (trim s)) ∧ w' = w := fun w => Tryz.strings_TrimPrefix s ⟨#[45]⟩ w
  have h1 := Jv.trim_size s
  have h2 := Jv.dg_size (trim s)
  have hD0 := Tryz.digits_any (trim s) (by omega)
  have hN : isNumber s = (if dg1 (trim s) = emp then false else if 1 < (dg1 (trim s)).size ∧ (dg1 (trim s)).get! 0 = 48 then false else num1 (dg2 (trim s))) := rfl
  have HN : Hid (isNumber s = (if dg1 (trim s) = emp then false else if 1 < (dg1 (trim s)).size ∧ (dg1 (trim s)).get! 0 = 48 then false else num1 (dg2 (trim s)))) := hN
  clear hN
  generalize dg1 (trim s) = a at *
  generalize dg2 (trim s) = r at *
  by_cases ha : a = emp
  · have HX : Hid (isNumber s = false) := HN.out.trans (if_pos ha)
    have hae : a.toList.isEmpty = true := (Jv.emp_iff a).1 ha
    clear ha HN
    go_enter Tryz.func121, Tryz.ntmps121
    go_wp2_with (first | (go_at_call 153; refine (hTP _).mono ?_; rintro e9 w9 ⟨rfl, rfl⟩) | (go_at_call 152; refine (hD0 _).mono ?_; clear hD0; rintro e9 w1 ⟨rfl, hb1⟩) | fail)
    go_ret
    exact ⟨Jv.ret_bool HX.out.symm, hb1⟩
  · have hae : a.toList.isEmpty = false := by
      cases h : a.toList.isEmpty with
      | true => exact absurd ((Jv.emp_iff a).2 h) ha
      | false => rfl
    have h0 : 0 < a.size := by
      rcases Nat.eq_zero_or_pos a.size with h | h
      · exact absurd (by obtain ⟨x⟩ := a; cases x with | mk l => cases l with | nil => rfl | cons y l => simp [ByteArray.size] at h) ha
      · exact h
    have hg : a[0]'h0 = a.get! 0 := Jv.get_eq a 0 h0
    by_cases hb : 1 < a.size ∧ a.get! 0 = 48
    · obtain ⟨hz1, hz2⟩ := hb
      have HX : Hid (isNumber s = false) := HN.out.trans (by rw [if_neg ha, if_pos ⟨hz1, hz2⟩])
      rw [hz2] at hg
      have hz1' : (1 : Int) < a.size := by omega
      clear hz1 hz2 ha HN
      go_enter Tryz.func121, Tryz.ntmps121
      go_wp2_with (first | (go_at_call 153; refine (hTP _).mono ?_; rintro e9 w9 ⟨rfl, rfl⟩) | (go_at_call 152; refine (hD0 _).mono ?_; clear hD0; rintro e9 w1 ⟨rfl, hb1⟩) | fail)
      go_ret
      exact ⟨Jv.ret_bool HX.out.symm, hb1⟩
    · have HN2 : Hid (isNumber s = num1 r) := HN.out.trans (by rw [if_neg ha, if_neg hb])
      have hc : (a.size : Int) ≤ 1 ∨ ((1 < (a.size : Int)) ∧ (((a.get! 0).toNat : Int) == 48) = false) := by
        by_cases h : 1 < (a.size : Int)
        · refine .inr ⟨h, ?_⟩
          have hne : ¬ ((a.get! 0).toNat : Int) = 48 := fun e => hb ⟨by omega, UInt8.toNat_inj.1 (by simpa using (by omega : (a.get! 0).toNat = 48))⟩
          simpa using hne
        · exact .inl (by omega)
      have hrs : r.size ≤ 5000 := by omega
      cases h46 : pre r 46 with
      | true =>
        have HM : Hid (isNumber s = num2 (dg1 (r.extract 1 r.size)) (dg2 (r.extract 1 r.size))) := HN2.out.trans (by unfold num1; exact if_pos h46)
        cases e101 : pre (dg2 (r.extract 1 r.size)) 101 with
        | true =>
          cases s43 : pre ((dg2 (r.extract 1 r.size)).extract 1 (dg2 (r.extract 1 r.size)).size) 43 with
          | true => exact Tryz.num_de43 s a r hs w hae hD0 hrs h0 _ hg hc h46 _ _ rfl rfl e101 s43 HM
          | false =>
            cases s45 : pre ((dg2 (r.extract 1 r.size)).extract 1 (dg2 (r.extract 1 r.size)).size) 45 with
            | true => exact Tryz.num_de45 s a r hs w hae hD0 hrs h0 _ hg hc h46 _ _ rfl rfl e101 s43 s45 HM
            | false => exact Tryz.num_de s a r hs w hae hD0 hrs h0 _ hg hc h46 _ _ rfl rfl e101 s43 s45 HM
        | false =>
          cases e69 : pre (dg2 (r.extract 1 r.size)) 69 with
          | true =>
            cases s43 : pre ((dg2 (r.extract 1 r.size)).extract 1 (dg2 (r.extract 1 r.size)).size) 43 with
            | true => exact Tryz.num_dE43 s a r hs w hae hD0 hrs h0 _ hg hc h46 _ _ rfl rfl e101 e69 s43 HM
            | false =>
              cases s45 : pre ((dg2 (r.extract 1 r.size)).extract 1 (dg2 (r.extract 1 r.size)).size) 45 with
              | true => exact Tryz.num_dE45 s a r hs w hae hD0 hrs h0 _ hg hc h46 _ _ rfl rfl e101 e69 s43 s45 HM
              | false => exact Tryz.num_dE s a r hs w hae hD0 hrs h0 _ hg hc h46 _ _ rfl rfl e101 e69 s43 s45 HM
          | false => exact Tryz.num_dn s a r hs w hae hD0 hrs h0 _ hg hc h46 _ _ rfl rfl e101 e69 HM
      | false =>
        have HM : Hid (isNumber s = num2 nought r) := HN2.out.trans (by unfold num1; exact if_neg (by rw [h46]; simp))
        cases e101 : pre r 101 with
        | true =>
          cases s43 : pre (r.extract 1 r.size) 43 with
          | true => exact Tryz.num_ne43 s a r hs w hae hD0 hrs h0 _ hg hc h46 e101 s43 HM
          | false =>
            cases s45 : pre (r.extract 1 r.size) 45 with
            | true => exact Tryz.num_ne45 s a r hs w hae hD0 hrs h0 _ hg hc h46 e101 s43 s45 HM
            | false => exact Tryz.num_ne s a r hs w hae hD0 hrs h0 _ hg hc h46 e101 s43 s45 HM
        | false =>
          cases e69 : pre r 69 with
          | true =>
            cases s43 : pre (r.extract 1 r.size) 43 with
            | true => exact Tryz.num_nE43 s a r hs w hae hD0 hrs h0 _ hg hc h46 e101 e69 s43 HM
            | false =>
              cases s45 : pre (r.extract 1 r.size) 45 with
              | true => exact Tryz.num_nE45 s a r hs w hae hD0 hrs h0 _ hg hc h46 e101 e69 s43 s45 HM
              | false => exact Tryz.num_nE s a r hs w hae hD0 hrs h0 _ hg hc h46 e101 e69 s43 s45 HM
          | false => exact Tryz.num_nn s a r hs w hae hD0 hrs h0 _ hg hc h46 e101 e69 HM
theorem Jv.bytesWorld_below {w w' : World} {T : TypeId} (h : w' = w ∨ ∃ t, w' = Lib.bytesWorld w T t) : Below w.heap.size w w' := by
  rcases h with rfl | ⟨t, rfl⟩
  · exact Below.refl _ _
  · exact Lib.bytesWorld_below _ _ _
/-- 'strconv.ParseInt', as 'number' takes it. -/
theorem Tryz.parse_some (s : ByteArray) (hs : s.size ≤ 5000) (n : Int) (h : Lib.parseIntB 64 s.data.toList = .ok n) (w : World) :
    Calls Tryz.prog 122 #[.string s, .int .i64 10, .int .i64 64] w fun e w' => e = .returned (.tuple #[.int .i64 n, .nilIface]) ∧ Below w.heap.size w w' :=
  (Tryz.strconv_ParseInt_10_at64_ok s (by omega) n h w).mono fun _ _ hq => ⟨hq.1, Jv.bytesWorld_below hq.2⟩
theorem Tryz.parse_none (s : ByteArray) (hs : s.size ≤ 5000) (h : ∀ n, Lib.parseIntB 64 s.data.toList ≠ .ok n) (w : World) (hT : Tryz.Tb w) :
    Calls Tryz.prog 122 #[.string s, .int .i64 10, .int .i64 64] w fun e w' => ∃ n N, e = .returned (.tuple #[.int .i64 n, .iface 203 (.pointer (some ⟨N, 0, none⟩))]) ∧ Below w.heap.size w w' := by
  cases hp : Lib.parseIntB 64 s.data.toList with
  | ok n => exact absurd hp (h n)
  | «syntax» =>
    obtain ⟨te, pe, hc⟩ := hT.here.es
    exact (Tryz.strconv_ParseInt_10_at64_syntax s (by omega) hp _ w hc (.inr ⟨te, pe, rfl⟩)).mono fun _ _ ⟨N, h1, _, _, h4⟩ => ⟨_, N, h1, h4⟩
  | range =>
    obtain ⟨te, pe, hc⟩ := hT.here.er
    exact (Tryz.strconv_ParseInt_10_at64_range s (by omega) hp _ w hc (.inr ⟨te, pe, rfl⟩)).mono fun _ _ ⟨N, h1, _, _, h4⟩ => ⟨_, N, h1, h4⟩
set_option maxHeartbeats 2000000 in
theorem Tryz.number_any {w : World} {b : Nat} {t : ByteArray} {p o : Nat} (h : Rd w b t p o) (hT : Tryz.Tb w) (hbg : 8 ≤ b) :
    Calls Tryz.prog 106 #[.pointer (some ⟨b, 0, none⟩)] w fun en w' =>
      (∃ v q, number t p = .ok (v, q) ∧ Tryz.Vok b t o w v q en w') ∨ (∃ p' e, number t p = .bad p' e ∧ Bad 88 p' e en w' ∧ Wk b w w') := by
  have hrun := Tryz.run_isOfNumber h
  have hle := Jv.run_le isOfNumber t p h.hp
  obtain ⟨c0, c1, c2, f0, f1, f2, hb, hp, ht, ho⟩ := h
  have hsz : (sub t p (run isOfNumber t p)).size ≤ 5000 := by unfold sub; rw [ByteArray.size_extract]; omega
  have hw : number t p = (if isNumber (sub t p (run isOfNumber t p)) = true then (match numOf (sub t p (run isOfNumber t p)) with | some n => .ok (.int n, run isOfNumber t p) | none => .bad p eNumber) else .bad p eSyntax) := rfl
  have HW : Hid (number t p = _) := hw
  clear hw hle
  generalize run isOfNumber t p = q at *
  generalize sub t p q = s at *
  have hN := Tryz.isNumber_any s hsz
  cases hn : isNumber s with
  | false =>
    rw [hn] at hN
    have HX : Hid (number t p = .bad p eSyntax) := HW.out.trans (by rw [hn]; rfl)
    clear hn HW
    go_enter Tryz.func106, Tryz.ntmps106
    go_wp2_with (first | (go_at_call 100; refine hrun.mono ?_; rintro e1 w1 ⟨rfl, hR1, hW1⟩) | (go_at_call 121; refine (hN _).mono ?_; rintro e2 w2 ⟨rfl, hb2⟩) | (go_at_call 53; refine (Tryz.fault_any _ _ _).mono ?_; rintro e9 w9 ⟨rfl, rfl⟩) | fail)
    have hR2 := hR1.below hb2
    have hW2 := hW1.below hb2 hW1.size
    have hq := Jv.bad_new (T := 88) (U := 100) (n := 0) (p := p) (e := 20) hR2.hb
    exact ⟨rfl, Or.inr ⟨_, _, HX.out, hq.1, hW2.trans hq.2⟩⟩
  | true =>
    rw [hn] at hN
    have HX : Hid (number t p = (match numOf s with | some n => .ok (.int n, q) | none => .bad p eNumber)) := HW.out.trans (by rw [hn]; rfl)
    clear hn HW
    have hno : numOf s = (match Lib.parseIntB 64 s.data.toList with | .ok n => if -maxInt ≤ n ∧ n ≤ maxInt then some n else none | _ => none) := rfl
    by_cases hok : ∃ n, Lib.parseIntB 64 s.data.toList = .ok n
    · obtain ⟨n, hpn⟩ := hok
      have hP := Tryz.parse_some s hsz n hpn
      rw [hpn] at hno
      by_cases hin : -maxInt ≤ n ∧ n ≤ maxInt
      · have hno2 : numOf s = some n := hno.trans (if_pos hin)
        have HY : Hid (number t p = .ok (.int n, q)) := HX.out.trans (by rw [hno2])
        have i1 : -9007199254740991 ≤ n := hin.1
        have i2 : n ≤ 9007199254740991 := hin.2
        have im : max (-9007199254740991) (min n 9007199254740991) = n := by omega
        have hO := Tryz.ofInt_any n
        rw [im] at hO
        clear hno hno2 hin hpn HX im
        go_enter Tryz.func106, Tryz.ntmps106
        go_wp2_with (first | (go_at_call 100; refine hrun.mono ?_; rintro e1 w1 ⟨rfl, hR1, hW1⟩) | (go_at_call 121; refine (hN _).mono ?_; rintro e2 w2 ⟨rfl, hb2⟩) | (go_at_call 122; refine (hP _).mono ?_; rintro e3 w3 ⟨rfl, hb3⟩) | (go_at_call 46; refine (hO _).mono ?_; rintro e9 w9 ⟨rfl, rfl⟩) | fail)
        go_ret
        have hR3 := (hR1.below hb2).below hb3
        have hW3 := (hW1.below hb2 hW1.size).below hb3 (hW1.below hb2 hW1.size).size
        exact Or.inl ⟨.int n, q, HY.out, Tryz.vok_new hR3 hW3 (v := .int n) (fun h => ⟨⟨h, by unfold maxInt; omega, by unfold maxInt; omega⟩, Jv.Vb.new w3 2 false n emp Jv.nilS Jv.nilS _⟩)⟩
      · have hno2 : numOf s = none := hno.trans (if_neg hin)
        have HY : Hid (number t p = .bad p eNumber) := HX.out.trans (by rw [hno2])
        have hin' : n < -9007199254740991 ∨ 9007199254740991 < n := by unfold maxInt at hin; omega
        clear hno hno2 hin hpn HX
        rcases hin' with i1 | i1
        · go_enter Tryz.func106, Tryz.ntmps106
          go_wp2_with (first | (go_at_call 100; refine hrun.mono ?_; rintro e1 w1 ⟨rfl, hR1, hW1⟩) | (go_at_call 121; refine (hN _).mono ?_; rintro e2 w2 ⟨rfl, hb2⟩) | (go_at_call 122; refine (hP _).mono ?_; rintro e3 w3 ⟨rfl, hb3⟩) | (go_at_call 53; refine (Tryz.fault_any _ _ _).mono ?_; rintro e9 w9 ⟨rfl, rfl⟩) | fail)
          have hR3 := (hR1.below hb2).below hb3
          have hW3 := (hW1.below hb2 hW1.size).below hb3 (hW1.below hb2 hW1.size).size
          have hq := Jv.bad_new (T := 88) (U := 100) (n := 0) (p := p) (e := 23) hR3.hb
          exact ⟨rfl, Or.inr ⟨_, _, HY.out, hq.1, hW3.trans hq.2⟩⟩
        · have i2 : ¬ n < -9007199254740991 := by omega
          go_enter Tryz.func106, Tryz.ntmps106
          go_wp2_with (first | (go_at_call 100; refine hrun.mono ?_; rintro e1 w1 ⟨rfl, hR1, hW1⟩) | (go_at_call 121; refine (hN _).mono ?_; rintro e2 w2 ⟨rfl, hb2⟩) | (go_at_call 122; refine (hP _).mono ?_; rintro e3 w3 ⟨rfl, hb3⟩) | (go_at_call 53; refine (Tryz.fault_any _ _ _).mono ?_; rintro e9 w9 ⟨rfl, rfl⟩) | fail)
          have hR3 := (hR1.below hb2).below hb3
          have hW3 := (hW1.below hb2 hW1.size).below hb3 (hW1.below hb2 hW1.size).size
          have hq := Jv.bad_new (T := 88) (U := 100) (n := 0) (p := p) (e := 23) hR3.hb
          exact ⟨rfl, Or.inr ⟨_, _, HY.out, hq.1, hW3.trans hq.2⟩⟩
    · have hpn : ∀ n, Lib.parseIntB 64 s.data.toList ≠ .ok n := fun n h => hok ⟨n, h⟩
      have hno2 : numOf s = none := by
        cases hc : Lib.parseIntB 64 s.data.toList with
        | ok n => exact absurd hc (hpn n)
        | «syntax» => rw [hno, hc]
        | range => rw [hno, hc]
      have HY : Hid (number t p = .bad p eNumber) := HX.out.trans (by rw [hno2])
      clear hno hno2 hok HX
      go_enter Tryz.func106, Tryz.ntmps106
      go_wp2_with (first | (go_at_call 100; refine hrun.mono ?_; rintro e1 w1 ⟨rfl, hR1, hW1⟩) | (go_at_call 121; refine (hN _).mono ?_; rintro e2 w2 ⟨rfl, hb2⟩) | (go_at_call 122; refine (Tryz.parse_none s hsz hpn _ ((hT.wk hW1 hbg).below hb2 (hT.wk hW1 hbg).size)).mono ?_; rintro e3 w3 ⟨nn, N, rfl, hb3⟩) | (go_at_call 53; refine (Tryz.fault_any _ _ _).mono ?_; rintro e9 w9 ⟨rfl, rfl⟩) | fail)
      have hR3 := (hR1.below hb2).below hb3
      have hW3 := (hW1.below hb2 hW1.size).below hb3 (hW1.below hb2 hW1.size).size
      have hq := Jv.bad_new (T := 88) (U := 100) (n := 0) (p := p) (e := 23) hR3.hb
      exact ⟨rfl, Or.inr ⟨_, _, HY.out, hq.1, hW3.trans hq.2⟩⟩
end Go.Proofs
namespace Go.Proofs
open Go.RowKit Go.Jv
/-- What 'number' does. -/
def Tryz.NumOk : Prop := ∀ (w : World) (b : Nat) (t : ByteArray) (p o : Nat), Rd w b t p o → Tryz.Tb w → 8 ≤ b →
    Calls Tryz.prog 106 #[.pointer (some ⟨b, 0, none⟩)] w fun en w' =>
      (∃ v q, number t p = .ok (v, q) ∧ Tryz.Vok b t o w v q en w') ∨ (∃ p' e, number t p = .bad p' e ∧ Bad 88 p' e en w' ∧ Wk b w w')
/-- What 'object' does, d brackets may be opened within. -/
def Tryz.ObjOk (d : Nat) : Prop := ∀ (w : World) (b : Nat) (t : ByteArray) (p o : Nat), Rd w b t p o → Tryz.Tb w → 8 ≤ b → o + (d + 1) = 10 → p < t.size →
    Calls Tryz.prog 109 #[.pointer (some ⟨b, 0, none⟩)] w fun en w' =>
      (∃ v q, objFrom t (value t d) 66 (p + 1) [] [] = .ok (v, q) ∧ Tryz.Vok b t o w v q en w') ∨ (∃ p' e, objFrom t (value t d) 66 (p + 1) [] [] = .bad p' e ∧ Bad 88 p' e en w' ∧ Wk b w w')
theorem Tryz.begin_dies {F : Nat} {w : World} {b : Nat} {t : ByteArray} {p : Nat} (h : Rd w b t p 10) (hF : F = 108 ∨ F = 109) :
    Calls Tryz.prog F #[.pointer (some ⟨b, 0, none⟩)] w fun en w' => Bad 88 p eDepth en w' ∧ Wk b w w' := by
  have hbeg := Tryz.begin_bad h
  rcases hF with rfl | rfl
  · go_enter Tryz.func108, Tryz.ntmps108
    go_wp2_with (first | (go_at_call 127; refine hbeg.mono ?_; rintro e1 w1 ⟨⟨y, hy, rfl, hy0, hy1⟩, hk3⟩) | fail)
    exact ⟨rfl, ⟨y, hy, rfl, hy0, hy1⟩, hk3⟩
  · go_enter Tryz.func109, Tryz.ntmps109
    go_wp2_with (first | (go_at_call 127; refine hbeg.mono ?_; rintro e1 w1 ⟨⟨y, hy, rfl, hy0, hy1⟩, hk3⟩) | fail)
    exact ⟨rfl, ⟨y, hy, rfl, hy0, hy1⟩, hk3⟩
theorem Jv.value_eq (t : ByteArray) (d p : Nat) : value t d p = (next t p).bind fun c =>
      if isLetter c then word t p
      else if isDigit c || c == 45 then number t p
      else if c = 34 then (Go.Jv.quoted t p).bind fun x => .ok (.text x.1, x.2)
      else if c = 91 then (match d with
        | 0 => .bad p eDepth
        | d + 1 => listFrom t (value t d) 66 (p + 1) [])
      else if c = 123 then (match d with
        | 0 => .bad p eDepth
        | d + 1 => objFrom t (value t d) 66 (p + 1) [] [])
      else .bad p eSyntax := by
  cases d <;> rw [value]
theorem Jv.vok_from {b : Nat} {t : ByteArray} {o q n : Nat} {w w' : World} {v : V} {en : Ending} (h : Tryz.Vok b t o (w.drewN n) v q en w') : Tryz.Vok b t o w v q en w' := by
  obtain ⟨x, h1, h2, h3, h4⟩ := h
  exact ⟨x, h1, h2, h3, Jv.wk_from h4 rfl rfl rfl rfl⟩
theorem Jv.lost {p _q : Nat} {e : Nat} {α : Type} {a : α} (h : (R.bad p e : R α) = .ok a) : False := by cases h
set_option maxHeartbeats 4000000 in
theorem Tryz.value_step (d : Nat) (hN : Tryz.NumOk) (hL : ∀ d', d = d' + 1 → Tryz.ValOk d' ∧ Tryz.ObjOk d') : Tryz.ValOk d := by
  intro w b t p o h hT hbg hod
  have HV := Jv.value_eq t d p
  have hp := h.hp
  have ht := h.ht
  have ho := h.ho
  have hb := h.hb
  by_cases hlt : p < t.size
  · rw [Jv.next_at hlt] at HV
    simp only [R.bind] at HV
    have hnx := Tryz.next_ok h hlt
    have hlet := Tryz.isLetter_any (t.get! p)
    have hdig := Tryz.isDigit_any (t.get! p)
    generalize t.get! p = c at *
    have HR : Hid (Rd w b t p o) := h
    clear h
    by_cases c1 : isLetter c = true
    · rw [if_pos c1] at HV
      have HX : Hid (value t d p = word t p) := HV
      rw [c1] at hlet
      have hw := fun n => Tryz.word_any (HR.out.drewN n)
      clear HV c1 hdig
      go_enter Tryz.func77, Tryz.ntmps77
      go_wp2_with (first | (go_at_call 102; refine hnx.mono ?_; rintro e1 w1 ⟨rfl, n, rfl⟩) | (go_at_call 103; refine (hlet _).mono ?_; rintro e2 w2 ⟨rfl, rfl⟩) | fail)
      refine (hw _).mono ?_
      rintro e3 w3 (⟨v, q, hq, x, rfl, h2, h3, h4⟩ | ⟨p1, e1, hq, ⟨y, hy, rfl, hy0, hy1⟩, hk3⟩)
      · go_wp2
        go_ret
        exact Or.inl ⟨v, q, HX.out.trans hq, x, rfl, h2, h3, Jv.wk_from h4 rfl rfl rfl rfl⟩
      · exact ⟨rfl, Or.inr ⟨_, _, HX.out.trans hq, ⟨y, hy, rfl, hy0, hy1⟩, Jv.wk_from hk3 rfl rfl rfl rfl⟩⟩
    · rw [if_neg c1] at HV
      have c1' : isLetter c = false := by simpa using c1
      rw [c1'] at hlet
      clear c1 c1'
      by_cases c2 : isDigit c = true
      · rw [if_pos (by simp [c2])] at HV
        have HX : Hid (value t d p = number t p) := HV
        rw [c2] at hdig
        have hw := fun n => hN (w.drewN n) b t p o (HR.out.drewN n) (hT.drewN n) hbg
        clear HV c2
        go_enter Tryz.func77, Tryz.ntmps77
        go_wp2_with (first | (go_at_call 102; refine hnx.mono ?_; rintro e1 w1 ⟨rfl, n, rfl⟩) | (go_at_call 103; refine (hlet _).mono ?_; rintro e2 w2 ⟨rfl, rfl⟩) | (go_at_call 105; refine (hdig _).mono ?_; rintro e2 w2 ⟨rfl, rfl⟩) | fail)
        refine (hw _).mono ?_
        rintro e3 w3 (⟨v, q, hq, x, rfl, h2, h3, h4⟩ | ⟨p1, e1, hq, ⟨y, hy, rfl, hy0, hy1⟩, hk3⟩)
        · go_wp2
          go_ret
          exact Or.inl ⟨v, q, HX.out.trans hq, x, rfl, h2, h3, Jv.wk_from h4 rfl rfl rfl rfl⟩
        · exact ⟨rfl, Or.inr ⟨_, _, HX.out.trans hq, ⟨y, hy, rfl, hy0, hy1⟩, Jv.wk_from hk3 rfl rfl rfl rfl⟩⟩
      · have c2' : isDigit c = false := by simpa using c2
        rw [c2'] at hdig
        by_cases c45 : c = 45
        · subst c45
          rw [if_pos (by simp)] at HV
          have HX : Hid (value t d p = number t p) := HV
          have hw := fun n => hN (w.drewN n) b t p o (HR.out.drewN n) (hT.drewN n) hbg
          clear HV c2 c2'
          have hnx' : Calls Tryz.prog 102 #[.pointer (some ⟨b, 0, none⟩)] w fun en w' => en = .returned (.int .u8 45) ∧ ∃ n, w' = w.drewN n := hnx
          have hlet' : ∀ w, Calls Tryz.prog 103 #[.int .u8 45] w fun en w' => en = .returned (.bool false) ∧ w' = w := hlet
          have hdig' : ∀ w, Calls Tryz.prog 105 #[.int .u8 45] w fun en w' => en = .returned (.bool false) ∧ w' = w := hdig
          clear hnx hlet hdig
          have hnx := hnx'
          have hlet := hlet'
          have hdig := hdig'
          clear hnx' hlet' hdig'
          go_enter Tryz.func77, Tryz.ntmps77
          go_wp2_with (first | (go_at_call 102; refine hnx.mono ?_; rintro e1 w1 ⟨rfl, n, rfl⟩) | (go_at_call 103; refine (hlet _).mono ?_; rintro e2 w2 ⟨rfl, rfl⟩) | (go_at_call 105; refine (hdig _).mono ?_; rintro e2 w2 ⟨rfl, rfl⟩) | fail)
          refine (hw _).mono ?_
          rintro e3 w3 (⟨v, q, hq, x, rfl, h2, h3, h4⟩ | ⟨p1, e1, hq, ⟨y, hy, rfl, hy0, hy1⟩, hk3⟩)
          · go_wp2
            go_ret
            exact Or.inl ⟨v, q, HX.out.trans hq, x, rfl, h2, h3, Jv.wk_from h4 rfl rfl rfl rfl⟩
          · exact ⟨rfl, Or.inr ⟨_, _, HX.out.trans hq, ⟨y, hy, rfl, hy0, hy1⟩, Jv.wk_from hk3 rfl rfl rfl rfl⟩⟩
        · have h45 := Jv.u8_ne c45
          have h45' : ¬ (c.toNat : Int) = 45 := h45
          rw [if_neg (by simp [c2', c45])] at HV
          clear c2 c2' h45
          by_cases c34 : c = 34
          · subst c34
            rw [if_pos rfl] at HV
            have HX : Hid (value t d p = (Go.Jv.quoted t p).bind fun x => .ok (.text x.1, x.2)) := HV
            have hw := fun n => Tryz.quoted_any (HR.out.drewN n) (hT.drewN n) hbg
            clear HV c45 h45'
            have hnx' : Calls Tryz.prog 102 #[.pointer (some ⟨b, 0, none⟩)] w fun en w' => en = .returned (.int .u8 34) ∧ ∃ n, w' = w.drewN n := hnx
            have hlet' : ∀ w, Calls Tryz.prog 103 #[.int .u8 34] w fun en w' => en = .returned (.bool false) ∧ w' = w := hlet
            have hdig' : ∀ w, Calls Tryz.prog 105 #[.int .u8 34] w fun en w' => en = .returned (.bool false) ∧ w' = w := hdig
            clear hnx hlet hdig
            have hnx := hnx'
            have hlet := hlet'
            have hdig := hdig'
            clear hnx' hlet' hdig'
            go_enter Tryz.func77, Tryz.ntmps77
            go_wp2_with (first | (go_at_call 102; refine hnx.mono ?_; rintro e1 w1 ⟨rfl, n, rfl⟩) | (go_at_call 103; refine (hlet _).mono ?_; rintro e2 w2 ⟨rfl, rfl⟩) | (go_at_call 105; refine (hdig _).mono ?_; rintro e2 w2 ⟨rfl, rfl⟩) | fail)
            refine (hw _).mono ?_
            rintro e3 w3 (⟨s, q, hq, rfl, h3, h4⟩ | ⟨p1, e1, hq, ⟨y, hy, rfl, hy0, hy1⟩, hk3⟩)
            · go_wp2
              go_ret
              have h4' : Wk b w w3 := Jv.wk_from h4 rfl rfl rfl rfl
              exact Or.inl ⟨.text s, q, HX.out.trans (by rw [hq]; rfl), Tryz.vok_new h3 h4' (v := .text s) (fun h => ⟨h, Jv.Vb.new w3 3 false 0 s Jv.nilS Jv.nilS _⟩)⟩
            · exact ⟨rfl, Or.inr ⟨_, _, HX.out.trans (by rw [hq]; rfl), ⟨y, hy, rfl, hy0, hy1⟩, Jv.wk_from hk3 rfl rfl rfl rfl⟩⟩
          · have h34 : ¬ (c.toNat : Int) = 34 := Jv.u8_ne c34
            rw [if_neg c34] at HV
            by_cases c91 : c = 91
            · subst c91
              rw [if_pos rfl] at HV
              clear c45 h45' c34 h34
              have hnx' : Calls Tryz.prog 102 #[.pointer (some ⟨b, 0, none⟩)] w fun en w' => en = .returned (.int .u8 91) ∧ ∃ n, w' = w.drewN n := hnx
              have hlet' : ∀ w, Calls Tryz.prog 103 #[.int .u8 91] w fun en w' => en = .returned (.bool false) ∧ w' = w := hlet
              have hdig' : ∀ w, Calls Tryz.prog 105 #[.int .u8 91] w fun en w' => en = .returned (.bool false) ∧ w' = w := hdig
              clear hnx hlet hdig
              have hnx := hnx'
              have hlet := hlet'
              have hdig := hdig'
              clear hnx' hlet' hdig'
              cases d with
              | zero =>
                obtain rfl : o = 10 := by omega
                have HX : Hid (value t 0 p = .bad p eDepth) := HV
                have hw := fun n => Tryz.begin_dies (HR.out.drewN n) (.inl rfl)
                clear HV hL
                go_enter Tryz.func77, Tryz.ntmps77
                go_wp2_with (first | (go_at_call 102; refine hnx.mono ?_; rintro e1 w1 ⟨rfl, n, rfl⟩) | (go_at_call 103; refine (hlet _).mono ?_; rintro e2 w2 ⟨rfl, rfl⟩) | (go_at_call 105; refine (hdig _).mono ?_; rintro e2 w2 ⟨rfl, rfl⟩) | fail)
                refine (hw _).mono ?_
                rintro e3 w3 ⟨⟨y, hy, rfl, hy0, hy1⟩, hk3⟩
                exact ⟨rfl, Or.inr ⟨_, _, HX.out, ⟨y, hy, rfl, hy0, hy1⟩, Jv.wk_from hk3 rfl rfl rfl rfl⟩⟩
              | succ d =>
                have HX : Hid (value t (d + 1) p = listFrom t (value t d) 66 (p + 1) []) := HV
                have hw := fun n => Tryz.list_any (hL d rfl).1 (HR.out.drewN n) (hT.drewN n) hbg hod hlt
                clear HV hL
                go_enter Tryz.func77, Tryz.ntmps77
                go_wp2_with (first | (go_at_call 102; refine hnx.mono ?_; rintro e1 w1 ⟨rfl, n, rfl⟩) | (go_at_call 103; refine (hlet _).mono ?_; rintro e2 w2 ⟨rfl, rfl⟩) | (go_at_call 105; refine (hdig _).mono ?_; rintro e2 w2 ⟨rfl, rfl⟩) | fail)
                refine (hw _).mono ?_
                rintro e3 w3 (⟨v, q, hq, x, rfl, h2, h3, h4⟩ | ⟨p1, e1, hq, ⟨y, hy, rfl, hy0, hy1⟩, hk3⟩)
                · go_wp2
                  go_ret
                  exact Or.inl ⟨v, q, HX.out.trans hq, x, rfl, h2, h3, Jv.wk_from h4 rfl rfl rfl rfl⟩
                · exact ⟨rfl, Or.inr ⟨_, _, HX.out.trans hq, ⟨y, hy, rfl, hy0, hy1⟩, Jv.wk_from hk3 rfl rfl rfl rfl⟩⟩
            · have h91 : ¬ (c.toNat : Int) = 91 := Jv.u8_ne c91
              rw [if_neg c91] at HV
              by_cases c123 : c = 123
              · subst c123
                rw [if_pos rfl] at HV
                clear c45 h45' c34 h34 c91 h91
                have hnx' : Calls Tryz.prog 102 #[.pointer (some ⟨b, 0, none⟩)] w fun en w' => en = .returned (.int .u8 123) ∧ ∃ n, w' = w.drewN n := hnx
                have hlet' : ∀ w, Calls Tryz.prog 103 #[.int .u8 123] w fun en w' => en = .returned (.bool false) ∧ w' = w := hlet
                have hdig' : ∀ w, Calls Tryz.prog 105 #[.int .u8 123] w fun en w' => en = .returned (.bool false) ∧ w' = w := hdig
                clear hnx hlet hdig
                have hnx := hnx'
                have hlet := hlet'
                have hdig := hdig'
                clear hnx' hlet' hdig'
                cases d with
                | zero =>
                  obtain rfl : o = 10 := by omega
                  have HX : Hid (value t 0 p = .bad p eDepth) := HV
                  have hw := fun n => Tryz.begin_dies (HR.out.drewN n) (.inr rfl)
                  clear HV hL
                  go_enter Tryz.func77, Tryz.ntmps77
                  go_wp2_with (first | (go_at_call 102; refine hnx.mono ?_; rintro e1 w1 ⟨rfl, n, rfl⟩) | (go_at_call 103; refine (hlet _).mono ?_; rintro e2 w2 ⟨rfl, rfl⟩) | (go_at_call 105; refine (hdig _).mono ?_; rintro e2 w2 ⟨rfl, rfl⟩) | fail)
                  refine (hw _).mono ?_
                  rintro e3 w3 ⟨⟨y, hy, rfl, hy0, hy1⟩, hk3⟩
                  exact ⟨rfl, Or.inr ⟨_, _, HX.out, ⟨y, hy, rfl, hy0, hy1⟩, Jv.wk_from hk3 rfl rfl rfl rfl⟩⟩
                | succ d =>
                  have HX : Hid (value t (d + 1) p = objFrom t (value t d) 66 (p + 1) [] []) := HV
                  have hw := fun n => (hL d rfl).2 (w.drewN n) b t p o (HR.out.drewN n) (hT.drewN n) hbg hod hlt
                  clear HV hL
                  go_enter Tryz.func77, Tryz.ntmps77
                  go_wp2_with (first | (go_at_call 102; refine hnx.mono ?_; rintro e1 w1 ⟨rfl, n, rfl⟩) | (go_at_call 103; refine (hlet _).mono ?_; rintro e2 w2 ⟨rfl, rfl⟩) | (go_at_call 105; refine (hdig _).mono ?_; rintro e2 w2 ⟨rfl, rfl⟩) | fail)
                  refine (hw _).mono ?_
                  rintro e3 w3 (⟨v, q, hq, x, rfl, h2, h3, h4⟩ | ⟨p1, e1, hq, ⟨y, hy, rfl, hy0, hy1⟩, hk3⟩)
                  · go_wp2
                    go_ret
                    exact Or.inl ⟨v, q, HX.out.trans hq, x, rfl, h2, h3, Jv.wk_from h4 rfl rfl rfl rfl⟩
                  · exact ⟨rfl, Or.inr ⟨_, _, HX.out.trans hq, ⟨y, hy, rfl, hy0, hy1⟩, Jv.wk_from hk3 rfl rfl rfl rfl⟩⟩
              · have h123 : ¬ (c.toNat : Int) = 123 := Jv.u8_ne c123
                rw [if_neg c123] at HV
                have HX : Hid (value t d p = .bad p eSyntax) := HV
                clear HV hL c45 c34 c91 c123
                obtain ⟨d0, d1, d2, g0, g1, g2, hb1, -, -, -⟩ := HR.out
                go_enter Tryz.func77, Tryz.ntmps77
                go_wp2_with (first | (go_at_call 102; refine hnx.mono ?_; rintro e1 w1 ⟨rfl, n, rfl⟩) | (go_at_call 103; refine (hlet _).mono ?_; rintro e2 w2 ⟨rfl, rfl⟩) | (go_at_call 105; refine (hdig _).mono ?_; rintro e2 w2 ⟨rfl, rfl⟩) | (go_at_call 53; refine (Tryz.fault_any _ _ _).mono ?_; rintro e9 w9 ⟨rfl, rfl⟩) | fail)
                have hq := Jv.bad_new (T := 88) (U := 100) (n := n) (p := p) (e := 20) hb1
                exact ⟨rfl, Or.inr ⟨_, _, HX.out, hq.1, hq.2⟩⟩
  · obtain rfl : p = t.size := by omega
    rw [Jv.next_end hlt] at HV
    have HX : Hid (value t d t.size = .bad t.size eSyntax) := HV
    have hnx := Tryz.next_bad h
    clear HV h
    go_enter Tryz.func77, Tryz.ntmps77
    go_wp2_with (first | (go_at_call 102; refine hnx.mono ?_; rintro e1 w1 ⟨⟨y, hy, rfl, hy0, hy1⟩, hk3⟩) | fail)
    exact ⟨rfl, Or.inr ⟨_, _, HX.out, ⟨y, hy, rfl, hy0, hy1⟩, hk3⟩⟩
/-- 'value', once 'number' and 'object' stand. -/
theorem Tryz.value_all (hN : Tryz.NumOk) (hO : ∀ d, Tryz.ValOk d → Tryz.ObjOk d) : ∀ d, Tryz.ValOk d
  | 0 => Tryz.value_step 0 hN (fun d' h => by omega)
  | d + 1 => Tryz.value_step (d + 1) hN (fun d' h => by have e : d = d' := (by omega); subst e; exact ⟨Tryz.value_all hN hO d, hO d (Tryz.value_all hN hO d)⟩)
end Go.Proofs
namespace Go.Proofs
open Go.RowKit Go.Jv
set_option maxHeartbeats 2000000 in
theorem Tryz.whole_any (hV : Tryz.ValOk 10) {w : World} {b : Nat} {t : ByteArray} (h : Rd w b t 0 0) (hT : Tryz.Tb w) (hbg : 8 ≤ b) :
    Calls Tryz.prog 55 #[.pointer (some ⟨b, 0, none⟩)] w fun en w' =>
      (∃ v x, wholeText t = .ok v ∧ en = .returned (.pointer (some ⟨x, 0, none⟩)) ∧ Tryz.Tr w' (fun g => w.heap.size ≤ g) v x ∧ Wk b w w') ∨ (∃ p' e, wholeText t = .bad p' e ∧ Bad 88 p' e en w' ∧ Wk b w w') := by
  have hbl := Tryz.blanks_any h
  have hb := h.hb
  clear h
  go_enter Tryz.func55, Tryz.ntmps55
  go_wp2_with (first | (go_at_call 76; refine hbl.mono ?_; clear hbl; rintro e1 w1 ⟨rfl, hR1, hW1⟩) | fail)
  have hT1 := hT.wk hW1 hbg
  refine (hV w1 b t (blanks t 0) 0 hR1 hT1 hbg rfl).mono ?_
  rintro e2 w2 (⟨v, q, hq, x, rfl, h2, h3, h4⟩ | ⟨p1, e1, hq, ⟨y, hy, rfl, hy0, hy1⟩, hk3⟩)
  · have hw : wholeText t = (if blanks t q < t.size then .bad (blanks t q) eSyntax else .ok v) := by unfold wholeText; rw [hq]; rfl
    have HW : Hid (wholeText t = (if blanks t q < t.size then .bad (blanks t q) eSyntax else .ok v)) := hw
    have HTR : Hid (Tryz.Tr w2 (fun g => w1.heap.size ≤ g) v x) := h2
    have hle := Jv.blanks_le t q h3.hp
    clear hw hq h2
    have hbl := Tryz.blanks_any h3
    go_wp2_with (first | (go_at_call 76; refine hbl.mono ?_; clear hbl; rintro e3 w3 ⟨rfl, hR3, hW3⟩; have HR3 : Hid (Rd w3 b t (blanks t q) 0) := hR3; obtain ⟨c0, c1, c2, f0, f1, f2, hb3, -, -, -⟩ := hR3) | fail)
    by_cases hlt : blanks t q < t.size
    · go_quiet (fail)
      go_wp2_with (first | (go_at_call 53; refine (Tryz.fault_any _ _ _).mono ?_; rintro e9 w9 ⟨rfl, rfl⟩) | fail)
      have hq := Jv.bad_new (T := 88) (U := 100) (n := nq) (p := blanks t q) (e := 20) hb3
      exact ⟨rfl, Or.inr ⟨_, _, HW.out.trans (if_pos hlt), hq.1, ((hW1.trans h4).trans hW3).trans hq.2⟩⟩
    · have hs : blanks t q = t.size := by omega
      have hd : decide ((blanks t q : Int) < t.size) = false := decide_eq_false (by omega)
      go_quiet (fail)
      go_wp2
      go_ret
      refine Or.inl ⟨v, x, HW.out.trans (if_neg hlt), rfl, ?_, ?_⟩
      · have ho := HTR.out
        have hx : ∀ n, Tryz.Tr (w3.drewN n) (fun g => w.heap.size ≤ g) v x := fun n => by
          refine Tryz.Tr_mono (fun g hg _ => Nat.le_trans hW1.size hg) v x (Tryz.Tr_keep (w := w2) (w' := w3.drewN n) (fun g hg hlt => hW3.block g hlt (fun e => ?_)) hW3.size v x ho)
          subst e
          have := hW1.size
          have h9 : w1.heap.size ≤ g := hg
          omega
        exact hx _
      · exact ((hW1.trans h4).trans hW3).drewN _
  · have hw : wholeText t = .bad p1 e1 := by unfold wholeText; rw [hq]; rfl
    exact ⟨rfl, Or.inr ⟨_, _, hw, ⟨y, hy, rfl, hy0, hy1⟩, hW1.trans hk3⟩⟩
theorem Tryz.assertFault (v : Value) (w : World) : (Instr.typeAssert (.iface 88 v) 20 88 false).run Tryz.prog w = .ok v w := by kernel_rfl
theorem Tryz.catch_idle (p q : Addr) (w : World) :
    CallsD Tryz.prog 54 #[.pointer (some p), .pointer (some q)] .returning w fun e u' w' => e = .returned (.tuple #[]) ∧ u' = .returning ∧ w' = w := by
  refine callsD_of_wpS Tryz.func54 rfl fun c₀ cs hu => ?_
  apply wpS_seq
  apply wpS_region
  simp [wpOpsS, go_sem, recoverD, hu, Tryz.ntmps54, Exit.thenS]
  apply wpS_seq
  apply wpS_region
  simp [wpOpsS, go_sem, Exit.thenS]
  refine wpS_cond (t := false) (by simp [Act.eval, Array.replicate]) ?_
  simp only [Bool.false_eq_true, if_false]
  refine wpS_of_wp (wp_skip ?_)
  cases c₀
  simp_all [bodyPostS, results, Tryz.results54]
theorem Tryz.catch_panicking (p q : Addr) (pv : Value) (older : List PanicEntry) (w : World) (u1 u2 : Value) (hp : w.cell? p = some u1) (hq : w.cell? q = some u2) (hfp : w.frozen? p = false) (hfq : w.frozen? q = false) (hpq : p ≠ q) :
    CallsD Tryz.prog 54 #[.pointer (some p), .pointer (some q)] (.panicking ({ v := .iface 88 pv, recovered := false } :: older)) w fun e u' w' =>
      e = .returned (.tuple #[]) ∧ u' = .panicking ({ v := .iface 88 pv, recovered := true } :: older) ∧ w' = ((w.setCell p (.pointer none)).setCell q (.iface 88 pv)).drew := by
  refine callsD_of_wpS Tryz.func54 rfl fun c₀ cs hu => ?_
  apply wpS_seq
  apply wpS_region
  simp [wpOpsS, go_sem, recoverD, hu, Tryz.ntmps54, Exit.thenS]
  apply wpS_seq
  apply wpS_region
  simp [wpOpsS, go_sem, Exit.thenS]
  refine wpS_cond (t := true) (by simp [Act.eval, Array.replicate]) ?_
  simp only [if_true]
  refine wpS_of_wp ?_
  have et : (#[Value.pointer (some p), Value.pointer (some q)] ++ ((((Array.replicate 7 undef).setIfInBounds 1 (Value.iface 88 pv)).setIfInBounds 0 (Value.iface 88 pv)).setIfInBounds 2 (Value.iface 88 pv)).setIfInBounds 3 (Value.bool true)) = #[Value.pointer (some p), Value.pointer (some q), .iface 88 pv, .iface 88 pv, .iface 88 pv, .bool true, undef, undef, undef] := rfl
  rw [et]
  have hta : ∀ (v : Value) (w : World), (Instr.typeAssert (.iface 88 v) 20 88 false).run Tryz.prog w = .ok v w := fun v w => Tryz.assertFault v w
  go_region
  simp [bodyPostS, results, Tryz.results54]
/-- What 'Parse' answers. -/
def Tryz.ParseOk (t : ByteArray) (w : World) (en : Ending) (w' : World) : Prop :=
  (∃ v x, parse t = .ok v ∧ en = .returned (.tuple #[.pointer (some ⟨x, 0, none⟩), .nilIface]) ∧ Tryz.Tr w' (fun g => w.heap.size ≤ g) v x ∧ Below w.heap.size w w') ∨
  (∃ p e y, parse t = .bad p e ∧ en = .returned (.tuple #[.pointer none, .iface 88 (.pointer (some ⟨y, 0, none⟩))]) ∧ w'.cell? ⟨y, 0, none⟩ = some (.int .i64 p) ∧ w'.cell? ⟨y, 1, none⟩ = some (.int .i64 e) ∧ Below w.heap.size w w')
set_option maxHeartbeats 4000000 in
theorem Tryz.parse_long (t : ByteArray) (a : Option Addr) (c : Nat) (w : World) (h : 4096 < t.size) (hs : t.size ≤ 140737488355328) :
    Calls Tryz.prog 20 #[.slice a t.size c] w fun en w' => Tryz.ParseOk t w en w' := by
  have hp : parse t = .bad 4096 eSize := by unfold parse; rw [if_pos h]
  have HP : Hid (parse t = .bad 4096 eSize) := hp
  have h' : (4096 : Int) < t.size := by omega
  clear hp h
  go_enter_defers Tryz.func20, Tryz.ntmps20
  go_wp2_with (first | (go_at_call 53; refine (Tryz.fault_any _ _ _).mono ?_; rintro e9 w9 ⟨rfl, rfl⟩) | fail)
  have hB : Below w.heap.size w (((w.alloc (.cells #[.pointer none] 24)).alloc (.cells #[.iface 88 (.pointer (some ⟨w.heap.size + 1 + 1, 0, none⟩))] 51)).alloc (.cells #[.int .i64 4096, .int .i64 22] 100)) :=
    (((Below.refl _ w).alloc (Nat.le_refl _) _).alloc (by simp) _).alloc (by simp; omega) _
  refine ⟨.tuple #[.pointer none, .iface 88 (.pointer (some ⟨w.heap.size + 1 + 1, 0, none⟩))], by simp [results, Tryz.results20, go_sem], ?_⟩
  exact Or.inr ⟨4096, 22, w.heap.size + 1 + 1, HP.out, rfl, by simp [go_sem], by simp [go_sem], hB⟩
set_option maxHeartbeats 4000000 in
theorem Tryz.parse_short (hV : Tryz.ValOk 10) (t : ByteArray) (a : Option Addr) (c : Nat) (w : World) (h : t.size ≤ 4096) (hT : Tryz.Tb w)
    (hcv : ∀ W : World, Below w.heap.size w W → (convert 22 9 (.slice a t.size c)).run Tryz.prog W = .ok (.string t) W) :
    Calls Tryz.prog 20 #[.slice a t.size c] w fun en w' => Tryz.ParseOk t w en w' := by
  have hp : parse t = wholeText t := by unfold parse; rw [if_neg (by omega)]
  have HP : Hid (parse t = wholeText t) := hp
  have h' : ¬ (4096 : Int) < t.size := by omega
  have hmf : ∀ (fn : Fn) (first cap : Array Value) (w : World), (Instr.makeFunc fn first cap).run Tryz.prog w = .ok (.func fn first cap) w := fun _ _ _ _ => rfl
  have hcv' := hcv _ (((Below.refl w.heap.size w).alloc (Nat.le_refl _) (.cells #[.pointer none] 24)).alloc (by simp) (.cells #[.nilIface] 51))
  clear hp hcv
  go_enter_defers Tryz.func20, Tryz.ntmps20
  go_wp2_with (first | fail)
  have hB0 : Below w.heap.size w (((w.alloc (.cells #[.pointer none] 24)).alloc (.cells #[.nilIface] 51)).alloc (.cells #[.string t, .int .i64 0, .int .i64 0] 91)) :=
    (((Below.refl _ w).alloc (Nat.le_refl _) _).alloc (by simp) _).alloc (by simp; omega) _
  have hT0 := hT.below hB0 hT.size
  have hR0 : Rd (((w.alloc (.cells #[.pointer none] 24)).alloc (.cells #[.nilIface] 51)).alloc (.cells #[.string t, .int .i64 0, .int .i64 0] 91)) (w.heap.size + 1 + 1) t 0 0 := by
    refine ⟨?_, ?_, ?_, ?_, ?_, ?_, by simp, Nat.zero_le _, h, by omega⟩ <;> simp [go_sem]
  have hc1 : (((w.alloc (.cells #[.pointer none] 24)).alloc (.cells #[.nilIface] 51)).alloc (.cells #[.string t, .int .i64 0, .int .i64 0] 91)).cell? ⟨w.heap.size, 0, none⟩ = some (.pointer none) := by simp [go_sem]
  have hc2 : (((w.alloc (.cells #[.pointer none] 24)).alloc (.cells #[.nilIface] 51)).alloc (.cells #[.string t, .int .i64 0, .int .i64 0] 91)).cell? ⟨w.heap.size + 1, 0, none⟩ = some .nilIface := by simp [go_sem]
  have hf1 : (((w.alloc (.cells #[.pointer none] 24)).alloc (.cells #[.nilIface] 51)).alloc (.cells #[.string t, .int .i64 0, .int .i64 0] 91)).frozen? ⟨w.heap.size, 0, none⟩ = false := by simp [go_sem]
  have hf2 : (((w.alloc (.cells #[.pointer none] 24)).alloc (.cells #[.nilIface] 51)).alloc (.cells #[.string t, .int .i64 0, .int .i64 0] 91)).frozen? ⟨w.heap.size + 1, 0, none⟩ = false := by simp [go_sem]
  have hz0 : (((w.alloc (.cells #[.pointer none] 24)).alloc (.cells #[.nilIface] 51)).alloc (.cells #[.string t, .int .i64 0, .int .i64 0] 91)).heap.size = w.heap.size + 3 := by simp
  have hwh := Tryz.whole_any hV hR0 hT0 (by have := hT.size; omega)
  clear hcv' hR0 hT0
  refine hwh.mono ?_
  clear hwh
  generalize (((w.alloc (.cells #[.pointer none] 24)).alloc (.cells #[.nilIface] 51)).alloc (.cells #[.string t, .int .i64 0, .int .i64 0] 91)) = W at hB0 hc1 hc2 hf1 hf2 hz0
  rintro e3 w3 (⟨v, x, hq, rfl, htr, hk⟩ | ⟨p1, e1, hq, ⟨y, hy, rfl, hy0, hy1⟩, hk⟩)
  · have d1 := (hk.cell (p := ⟨w.heap.size, 0, none⟩) (by show w.heap.size < _; omega) (by show w.heap.size ≠ _; omega)).trans hc1
    have d2 := (hk.cell (p := ⟨w.heap.size + 1, 0, none⟩) (by show w.heap.size + 1 < _; omega) (by show w.heap.size + 1 ≠ _; omega)).trans hc2
    have g1 := (hk.frozen (p := ⟨w.heap.size, 0, none⟩) (by show w.heap.size < _; omega) (by show w.heap.size ≠ _; omega)).trans hf1
    have g2 := (hk.frozen (p := ⟨w.heap.size + 1, 0, none⟩) (by show w.heap.size + 1 < _; omega) (by show w.heap.size + 1 ≠ _; omega)).trans hf2
    have HQ : Hid (wholeText t = .ok v) := hq
    have HTR : Hid (Tryz.Tr w3 (fun g => W.heap.size ≤ g) v x) := htr
    clear hq htr hc1 hc2 hf1 hf2
    go_wp2
    have hB3 := Wk.toBelow hB0 hk (by omega)
    have hW4 : Below w.heap.size w ((w3.setCell ⟨w.heap.size, 0, none⟩ (.pointer (some ⟨x, 0, none⟩))).setCell ⟨w.heap.size + 1, 0, none⟩ .nilIface) := (hB3.setCell (Nat.le_refl _) _).setCell (by show w.heap.size ≤ w.heap.size + 1; omega) _
    have r1 : ((w3.setCell ⟨w.heap.size, 0, none⟩ (.pointer (some ⟨x, 0, none⟩))).setCell ⟨w.heap.size + 1, 0, none⟩ .nilIface).cell? ⟨w.heap.size, 0, none⟩ = some (.pointer (some ⟨x, 0, none⟩)) := by
      rw [World.cell?_setCell_other _ _ _ _ (by simp)]
      exact World.cell?_setCell_same' _ _ _ (by rw [d1]; rfl)
    have r2 : ((w3.setCell ⟨w.heap.size, 0, none⟩ (.pointer (some ⟨x, 0, none⟩))).setCell ⟨w.heap.size + 1, 0, none⟩ .nilIface).cell? ⟨w.heap.size + 1, 0, none⟩ = some .nilIface :=
      World.cell?_setCell_same' _ _ _ (by rw [World.cell?_setCell_other _ _ _ _ (by simp), d2]; rfl)
    have hTr : Tryz.Tr ((w3.setCell ⟨w.heap.size, 0, none⟩ (.pointer (some ⟨x, 0, none⟩))).setCell ⟨w.heap.size + 1, 0, none⟩ .nilIface) (fun g => w.heap.size ≤ g) v x := by
      refine Tryz.Tr_mono (ok := fun g => W.heap.size ≤ g) (fun g hg _ => by show w.heap.size ≤ g; have h9 : W.heap.size ≤ g := hg; omega) v x (Tryz.Tr_keep (w := w3) (fun g hg _ => ?_) (by simp) v x HTR.out)
      have h9 : W.heap.size ≤ g := hg
      rw [Below.heap_setCell _ _ _ g (by show g ≠ w.heap.size + 1; omega), Below.heap_setCell _ _ _ g (by show g ≠ w.heap.size; omega)]
    refine leaves_cons (f := 54) (args := #[.pointer (some ⟨w.heap.size, 0, none⟩), .pointer (some ⟨w.heap.size + 1, 0, none⟩)]) (by simp) (by simp [go_sem]) ?_
    refine (Tryz.catch_idle ⟨w.heap.size, 0, none⟩ ⟨w.heap.size + 1, 0, none⟩ _).mono ?_
    rintro e4 u' w4 ⟨rfl, rfl, rfl⟩
    refine ⟨.tuple #[.pointer (some ⟨x, 0, none⟩), .nilIface], by simp [results, Tryz.results20, go_sem, r1, r2], ?_⟩
    exact Or.inl ⟨v, x, HP.out.trans HQ.out, rfl, hTr, hW4⟩
  · have d1 := (hk.cell (p := ⟨w.heap.size, 0, none⟩) (by show w.heap.size < _; omega) (by show w.heap.size ≠ _; omega)).trans hc1
    have d2 := (hk.cell (p := ⟨w.heap.size + 1, 0, none⟩) (by show w.heap.size + 1 < _; omega) (by show w.heap.size + 1 ≠ _; omega)).trans hc2
    have g1 := (hk.frozen (p := ⟨w.heap.size, 0, none⟩) (by show w.heap.size < _; omega) (by show w.heap.size ≠ _; omega)).trans hf1
    have g2 := (hk.frozen (p := ⟨w.heap.size + 1, 0, none⟩) (by show w.heap.size + 1 < _; omega) (by show w.heap.size + 1 ≠ _; omega)).trans hf2
    have HQ : Hid (wholeText t = .bad p1 e1) := hq
    clear hq hc1 hc2 hf1 hf2
    refine leaves_cons (f := 54) (args := #[.pointer (some ⟨w.heap.size, 0, none⟩), .pointer (some ⟨w.heap.size + 1, 0, none⟩)]) (by simp) (by simp [go_sem]) ?_
    refine (Tryz.catch_panicking ⟨w.heap.size, 0, none⟩ ⟨w.heap.size + 1, 0, none⟩ _ [] _ _ _ d1 d2 g1 g2 (by simp)).mono ?_
    rintro e4 u' w4 ⟨rfl, rfl, rfl⟩
    have hB3 := Wk.toBelow hB0 hk (by omega)
    have hW4 : Below w.heap.size w (((w3.setCell ⟨w.heap.size, 0, none⟩ (.pointer none)).setCell ⟨w.heap.size + 1, 0, none⟩ (.iface 88 (.pointer (some ⟨y, 0, none⟩)))).drew) := ((hB3.setCell (Nat.le_refl _) _).setCell (by show w.heap.size ≤ w.heap.size + 1; omega) _).drew
    have ny1 : y ≠ w.heap.size := by rintro rfl; rw [d1] at hy0; cases hy0
    have ny2 : y ≠ w.heap.size + 1 := by rintro rfl; rw [d2] at hy0; cases hy0
    have q : ∀ k u1 u2, ((w3.setCell ⟨w.heap.size, 0, none⟩ u1).setCell ⟨w.heap.size + 1, 0, none⟩ u2).drew.cell? ⟨y, k, none⟩ = w3.cell? ⟨y, k, none⟩ := fun k u1 u2 => by
      show ((w3.setCell ⟨w.heap.size, 0, none⟩ u1).setCell ⟨w.heap.size + 1, 0, none⟩ u2).cell? ⟨y, k, none⟩ = _
      rw [World.cell?_setCell_other _ _ _ _ (by intro e; injection e with e; omega), World.cell?_setCell_other _ _ _ _ (by intro e; injection e with e; omega)]
    have r1 : ((w3.setCell ⟨w.heap.size, 0, none⟩ (.pointer none)).setCell ⟨w.heap.size + 1, 0, none⟩ (.iface 88 (.pointer (some ⟨y, 0, none⟩)))).cell? ⟨w.heap.size, 0, none⟩ = some (.pointer none) := by
      rw [World.cell?_setCell_other _ _ _ _ (by simp)]
      exact World.cell?_setCell_same' _ _ _ (by rw [d1]; rfl)
    have r2 : ((w3.setCell ⟨w.heap.size, 0, none⟩ (.pointer none)).setCell ⟨w.heap.size + 1, 0, none⟩ (.iface 88 (.pointer (some ⟨y, 0, none⟩)))).cell? ⟨w.heap.size + 1, 0, none⟩ = some (.iface 88 (.pointer (some ⟨y, 0, none⟩))) :=
      World.cell?_setCell_same' _ _ _ (by rw [World.cell?_setCell_other _ _ _ _ (by simp), d2]; rfl)
    refine ⟨.tuple #[.pointer none, .iface 88 (.pointer (some ⟨y, 0, none⟩))], by simp [results, Tryz.results20, go_sem, r1, r2], ?_⟩
    exact Or.inr ⟨p1, e1, y, HP.out.trans HQ.out, rfl, (q _ _ _).trans hy0, (q _ _ _).trans hy1, hW4⟩
end Go.Proofs
namespace Go.Proofs
open Go.RowKit Go.Jv
theorem Tryz.key_yes {w : World} {b : Nat} {t : ByteArray} {p o lo : Nat} {kv : Value} {ks : List ByteArray} {k : ByteArray} {q : Nat} (he : key t p ks = .ok (k, q)) (h : Rd w b t p o) (hT : Tryz.Tb w) (hbg : 8 ≤ b) (hrow : w.ownsRow lo 9 1 kv ks.length (ks.map Value.string)) (hlo : b < lo) (hks : ks.length ≤ 64) :
    Calls Tryz.prog 129 #[.pointer (some ⟨b, 0, none⟩), kv] w fun en w' => en = .returned (.tuple #[.string k, .int .i64 (place ks k : Nat)]) ∧ Rd w' b t q o ∧ Wk b w w' := by
  refine (Tryz.key_any h hT hbg hrow hlo hks).mono fun e w' hq => ?_
  rcases hq with ⟨k', q', hm, hV⟩ | ⟨p', e', hm, _⟩
  · rw [he] at hm; injection hm with hm; injection hm with h1 h2; subst h1; subst h2; exact hV
  · rw [he] at hm; cases hm
theorem Tryz.key_no {w : World} {b : Nat} {t : ByteArray} {p o lo : Nat} {kv : Value} {ks : List ByteArray} {p1 e1 : Nat} (he : key t p ks = .bad p1 e1) (h : Rd w b t p o) (hT : Tryz.Tb w) (hbg : 8 ≤ b) (hrow : w.ownsRow lo 9 1 kv ks.length (ks.map Value.string)) (hlo : b < lo) (hks : ks.length ≤ 64) :
    Calls Tryz.prog 129 #[.pointer (some ⟨b, 0, none⟩), kv] w fun en w' => Bad 88 p1 e1 en w' ∧ Wk b w w' := by
  refine (Tryz.key_any h hT hbg hrow hlo hks).mono fun e w' hq => ?_
  rcases hq with ⟨k', q', hm, _⟩ | ⟨p', e', hm, hB, hW⟩
  · rw [he] at hm; cases hm
  · rw [he] at hm; injection hm with h1 h2; subst h1; subst h2; exact ⟨hB, hW⟩
theorem Jv.row_alloc {w : World} {B : Nat} {e : TypeId} {size : Nat} {v : Value} {n : Nat} {xs : List Value} (h : w.ownsRow B e size v n xs) (o : Obj) : (w.alloc o).ownsRow B e size v n xs :=
  Jv.row_kept h fun g _ h2 => Below.heap_alloc w o g h2
theorem Jv.ptrs_len (xs : List Nat) : (Jv.ptrs xs).length = xs.length := by simp [Jv.ptrs]
set_option maxHeartbeats 8000000 in
set_option maxRecDepth 10000 in
theorem Tryz.object_any {d : Nat} (hv : Tryz.ValOk d) : Tryz.ObjOk d := by
  intro w b t p o h hT hbg hod hlt
  have hbeg := Tryz.begin_ok h hlt (by omega)
  have hb0 := h.hb
  clear h
  go_enter Tryz.func109, Tryz.ntmps109
  go_wp2_with (first | (go_at_call 127; refine hbeg.mono ?_; rintro e1 w1 ⟨rfl, hR1, hW1⟩) | fail)
  go_loopg [] 66 (fun k wr => ∃ q ks had kv sv xs, objFrom t (value t d) k q ks had = objFrom t (value t d) 66 (p + 1) [] [] ∧ k + had.length = 66 ∧ had.length ≤ 64 ∧ ks.length = had.length ∧ Tryz.Oc b t q (o + 1) w w1.heap.size ks had kv sv xs none wr)
  case atStart =>
    have hB1 : Below w1.heap.size w1 (w1.alloc (.cells #[.int .i64 5, .bool false, .int .i64 0, .string emp, Jv.nilS, Jv.nilS] 64)) := (Below.refl _ _).alloc (Nat.le_refl _) _
    refine ⟨p + 1, [], [], Jv.nilS, Jv.nilS, [], rfl, rfl, by simp, rfl, Jv.Vb.new w1 5 false 0 emp Jv.nilS Jv.nilS _, ⟨rfl, .inl ⟨rfl, rfl⟩⟩, ⟨rfl, .inl ⟨rfl, rfl⟩⟩, (fun m e => by cases e), rfl, (fun v y e => by cases e), hR1.below hB1, hW1.below hB1 hW1.size, ?_, hW1.size, hb0, hbg⟩
    exact (hT.wk hW1 hbg).below hB1 (hT.wk hW1 hbg).size
  case round =>
    obtain ⟨q, ks, had, kv, sv, xs, he, hkk, h64, hkl, hO⟩ := hrel
    obtain ⟨ag, cg, hsv⟩ := Jv.row_form hO.row
    have hxl : xs.length = had.length := Tryz.Trs_len had xs hO.trs
    have hle : Calls Tryz.prog 38 #[.pointer (some ⟨w1.heap.size, 0, none⟩)] wr fun e w'' => e = .returned (.int .i64 had.length) ∧ w'' = wr := by
      have hvb := hO.vb
      rw [hsv, hxl] at hvb
      exact Tryz.len_any hvb
    obtain ⟨k, hk⟩ : ∃ k, gk = k + 1 := ⟨gk - 1, by omega⟩
    have hstep : objFrom t (value t d) gk q ks had = (more t q 125 had.length).bind fun m => if m.1 = false then .ok (.obj ks had, m.2) else (key t m.2 ks).bind fun kk => (value t d kk.2).bind fun x => objFrom t (value t d) k x.2 (insertAt ks (place ks kk.1) kk.1) (insertAt had (place ks kk.1) x.1) := by rw [hk]; rfl
    have HE : Hid (objFrom t (value t d) gk q ks had = objFrom t (value t d) 66 (p + 1) [] []) := he
    have HO : Hid (Tryz.Oc b t q (o + 1) w w1.heap.size ks had kv sv xs none wr) := hO
    have HK : Hid (gk = k + 1) := hk
    have HKK : Hid (gk + had.length = 66) := hkk
    have HKL : Hid (ks.length = had.length) := hkl
    have HXL : Hid (xs.length = had.length) := hxl
    clear he hk hkk hkl hxl hsv hbeg hR1
    cases hm : more t q 125 had.length with
    | bad p1 e1 =>
      have HX : Hid (objFrom t (value t d) 66 (p + 1) [] [] = .bad p1 e1) := HE.out.symm.trans (by rw [hstep, hm]; rfl)
      have hmo : Calls Tryz.prog 128 #[.pointer (some ⟨b, 0, none⟩), .int .u8 125, .int .i64 had.length] wr fun en w' => Bad 88 p1 e1 en w' ∧ Wk b wr w' := Tryz.more_no (x := 125) hm hO.rd (by omega) (by omega)
      clear hm hstep hO
      go_wp2_with (first | (go_at_call 38; refine hle.mono ?_; rintro e2 w2 ⟨rfl, rfl⟩) | (go_at_call 128; refine hmo.mono ?_; rintro e3 w3 ⟨⟨y, hy, rfl, hy0, hy1⟩, hk3⟩) | fail)
      exact ⟨rfl, Or.inr ⟨_, _, HX.out, ⟨y, hy, rfl, hy0, hy1⟩, HO.out.wk.trans hk3⟩⟩
    | ok m =>
      obtain ⟨mb, q1⟩ := m
      cases mb with
      | false =>
        have HX : Hid (objFrom t (value t d) 66 (p + 1) [] [] = .ok (.obj ks had, q1)) := HE.out.symm.trans (by rw [hstep, hm]; rfl)
        have hmo : Calls Tryz.prog 128 #[.pointer (some ⟨b, 0, none⟩), .int .u8 125, .int .i64 had.length] wr fun en w' => en = .returned (.bool false) ∧ Rd w' b t q1 (o + 1 - 1) ∧ Wk b wr w' := Tryz.more_end (x := 125) hm hO.rd (by omega) (by omega)
        clear hm hstep hO
        go_wp2_with (first | (go_at_call 38; refine hle.mono ?_; rintro e2 w2 ⟨rfl, rfl⟩) | (go_at_call 128; refine hmo.mono ?_; rintro e3 w3 ⟨rfl, hR3, hW3⟩) | fail)
        go_ret
        have hO3 := HO.out.wk_on hW3 hR3
        have hmo : ∀ g, Jv.okp w1.heap.size kv sv g → g < w3.heap.size → w.heap.size ≤ g := fun g hg _ => by have h1 := hg.1; have h2 := hO3.hx; omega
        refine Or.inl ⟨.obj ks had, q1, HX.out, w1.heap.size, rfl, ⟨hO3.hx, kv, sv, xs, hO3.vb, ⟨?_, fun k hk => ?_⟩, ⟨?_, fun k hk => ?_⟩, Tryz.Trs_mono hmo had xs hO3.trs, by rw [HKL.out, HXL.out]⟩, hR3, hO3.wk⟩
        · rw [List.length_map]; exact Jv.row_move hO3.krow fun g _ => ⟨Nat.zero_le _, rfl⟩
        · have h1 := (Jv.row_lt hO3.krow k hk).1; have h2 := hO3.hx; show w.heap.size ≤ k; omega
        · have hl : (Jv.ptrs xs).length = xs.length := by simp [Jv.ptrs]
          rw [hl]; exact Jv.row_move hO3.row fun g _ => ⟨Nat.zero_le _, rfl⟩
        · have h1 := (Jv.row_lt hO3.row k hk).1; have h2 := hO3.hx; show w.heap.size ≤ k; omega
      | true =>
        have hmo : Calls Tryz.prog 128 #[.pointer (some ⟨b, 0, none⟩), .int .u8 125, .int .i64 had.length] wr fun en w' => en = .returned (.bool true) ∧ q1 < t.size ∧ Rd w' b t q1 (o + 1) ∧ Wk b wr w' := Tryz.more_yes (x := 125) hm hO.rd (by omega) (by omega)
        have hn64 := Jv.more_had hm
        have HST : Hid (objFrom t (value t d) 66 (p + 1) [] [] = (key t q1 ks).bind fun kk => (value t d kk.2).bind fun x => objFrom t (value t d) k x.2 (insertAt ks (place ks kk.1) kk.1) (insertAt had (place ks kk.1) x.1)) := HE.out.symm.trans (by rw [hstep, hm]; rfl)
        have hck : ∀ w3, Wk b wr w3 → w3.cell? ⟨w1.heap.size, 4, none⟩ = some kv := fun w3 hW => (Jv.vb_wk HO.out.vb hW (by have h1 := HO.out.hx; omega)).c4
        clear hm hstep hO
        cases hke : key t q1 ks with
        | bad p1 e1 =>
          have HX : Hid (objFrom t (value t d) 66 (p + 1) [] [] = .bad p1 e1) := HST.out.trans (by rw [hke]; rfl)
          go_wp2_with (first | (go_at_call 38; refine hle.mono ?_; rintro e2 w2 ⟨rfl, rfl⟩) | (go_at_call 128; refine hmo.mono ?_; rintro e3 w3 ⟨rfl, hq1, hR3, hW3⟩; have hc3 := hck w3 hW3) | fail)
          have hO3 := HO.out.wk_on hW3 hR3
          refine (Tryz.key_no hke hR3 hO3.tb hbg hO3.krow (by have h1 := hO3.hx; omega) (by rw [HKL.out]; omega)).mono ?_
          rintro e4 w4 ⟨⟨y, hy, rfl, hy0, hy1⟩, hk3⟩
          exact ⟨rfl, Or.inr ⟨_, _, HX.out, ⟨y, hy, rfl, hy0, hy1⟩, hO3.wk.trans hk3⟩⟩
        | ok kq =>
          obtain ⟨kk, q2⟩ := kq
          have HST2 : Hid (objFrom t (value t d) 66 (p + 1) [] [] = (value t d q2).bind fun x => objFrom t (value t d) k x.2 (insertAt ks (place ks kk) kk) (insertAt had (place ks kk) x.1)) := HST.out.trans (by rw [hke]; rfl)
          go_wp2_with (first | (go_at_call 38; refine hle.mono ?_; rintro e2 w2 ⟨rfl, rfl⟩) | (go_at_call 128; refine hmo.mono ?_; rintro e3 w3 ⟨rfl, hq1, hR3, hW3⟩; have hc3 := hck w3 hW3) | fail)
          have hO3 := HO.out.wk_on hW3 hR3
          refine (Tryz.key_yes hke hR3 hO3.tb hbg hO3.krow (by have h1 := hO3.hx; omega) (by rw [HKL.out]; omega)).mono ?_
          rintro e4 w4 ⟨rfl, hR4, hW4⟩
          have hO4 := hO3.wk_on hW4 hR4
          clear hO3 hc3 hle hmo hck HST hke
          go_wp2_with fail
          cases hva : value t d q2 with
          | bad p1 e1 =>
            have HX : Hid (objFrom t (value t d) 66 (p + 1) [] [] = .bad p1 e1) := HST2.out.trans (by rw [hva]; rfl)
            refine (Tryz.val_no hv hR4 hO4.tb hbg (by omega) hva).mono ?_
            rintro e5 w5 ⟨⟨y, hy, rfl, hy0, hy1⟩, hk3⟩
            exact ⟨rfl, Or.inr ⟨_, _, HX.out, ⟨y, hy, rfl, hy0, hy1⟩, hO4.wk.trans hk3⟩⟩
          | ok vq =>
            obtain ⟨v, q3⟩ := vq
            have HX : Hid (objFrom t (value t d) k q3 (insertAt ks (place ks kk) kk) (insertAt had (place ks kk) v) = objFrom t (value t d) 66 (p + 1) [] []) := (HST2.out.trans (by rw [hva]; rfl)).symm
            refine (Tryz.val_yes hv hR4 hO4.tb hbg (by omega) hva).mono ?_
            rintro e5 w5 ⟨y, rfl, htr, hR5, hW5⟩
            have hO5 := hO4.ready hW5 hR5 htr
            have HO5 : Hid (Tryz.Oc b t q3 (o + 1) w w1.heap.size ks had kv sv xs (some (v, y)) w5) := hO5
            have hc54 := hO5.vb.c4
            have hpl := Jv.place_le ks kk
            have hx5 := hO5.vb.lt
            have hins := Tryz.ins_any_str (w1.heap.size + 1) kv (ks.map Value.string) (w5.alloc (.cells #[.string kk] 9)) (by rw [List.length_map]; exact Jv.row_alloc hO5.krow _) (by simp; omega) (place ks kk) (by rw [List.length_map]; exact hpl) (by rw [List.length_map, HKL.out]; exact h64) (.string kk) rfl (by simp [Value.oneCell']) w5.heap.size (heap_alloc_new w5 _) (fun e => by have := (Jv.row_lt hO5.krow _ e).2; omega)
            rw [List.length_map] at hins
            clear hva hO4 hO5 hR5 htr HST2 hR4
            go_wp2_with (first
              | (go_at_call 130; refine hins.mono ?_; clear hins; rintro e6 w6 ⟨g6, cap6, rfl, hrow6, hgr6, hat6⟩; have hxx := (HO5.out.rest (f := 4) (u := (.slice (some ⟨g6, 0, none⟩) (ks.length + 1) cap6)) hgr6 (fun m e => Jv.row_lt HO5.out.krow m e)).2.2.2.2.2; have hs6 : w5.heap.size ≤ w6.heap.size := (by have := hgr6.size; simp at this; omega); have hvb6 := HO5.out.vb.keep hxx hs6; have HO6 : Hid (Tryz.Oc b t q3 (o + 1) w w1.heap.size (insertAt ks (place ks kk) kk) had (.slice (some ⟨g6, 0, none⟩) (ks.length + 1) cap6) sv xs (some (v, y)) (w6.setCell ⟨w1.heap.size, 4, none⟩ (.slice (some ⟨g6, 0, none⟩) (ks.length + 1) cap6))) := HO5.out.key hgr6 hrow6 (hat6.imp id (fun h => (by simpa using h))); have h64c := hvb6.c4; have h65c := hvb6.c5; have h64f := hvb6.f4; have h65f := hvb6.f5; have hins2 := Tryz.ins_any_ptr (w1.heap.size + 1) sv (Jv.ptrs xs) ((w6.setCell ⟨w1.heap.size, 4, none⟩ (.slice (some ⟨g6, 0, none⟩) (ks.length + 1) cap6)).alloc (.cells #[.pointer (some ⟨y, 0, none⟩)] 24)) (by rw [Jv.ptrs_len]; exact Jv.row_alloc HO6.out.row _) (by simp; omega) (place ks kk) (by rw [Jv.ptrs_len, HXL.out, ← HKL.out]; exact hpl) (by rw [Jv.ptrs_len, HXL.out]; exact h64) (.pointer (some ⟨y, 0, none⟩)) rfl (by simp [Jv.ptrs, Value.oneCell']) w6.heap.size (by have h9 := heap_alloc_new (w6.setCell ⟨w1.heap.size, 4, none⟩ (.slice (some ⟨g6, 0, none⟩) (ks.length + 1) cap6)) (.cells #[.pointer (some ⟨y, 0, none⟩)] 24); simpa using h9) (fun e => by have h9 := (Jv.row_lt HO6.out.row _ e).2; simp at h9); rw [Jv.ptrs_len] at hins2; clear hvb6)
              | (go_at_call 131; refine hins2.mono ?_; clear hins2; rintro e8 w8 ⟨g8, cap8, rfl, hrow8, hgr8, hat8⟩; have hxx8 := (HO6.out.rest (f := 5) (u := (.slice (some ⟨g8, 0, none⟩) (xs.length + 1) cap8)) hgr8 (fun m e => Jv.row_lt HO6.out.row m e)).2.2.2.2.2; have hs8 : (w6.setCell ⟨w1.heap.size, 4, none⟩ (.slice (some ⟨g6, 0, none⟩) (ks.length + 1) cap6)).heap.size ≤ w8.heap.size := (by have := hgr8.size; simp at this ⊢; omega); have hvb8 := HO6.out.vb.keep hxx8 hs8; have h85c := hvb8.c5; have h85f := hvb8.f5; clear hvb8)
              | fail)
            go_roundg k
            case measure => have := HK.out; omega
            case rel =>
              have h1 := HK.out
              have h2 := HKK.out
              have h3 := HKL.out
              refine ⟨q3, insertAt ks (place ks kk) kk, insertAt had (place ks kk) v, .slice (some ⟨g6, 0, none⟩) (ks.length + 1) cap6, .slice (some ⟨g8, 0, none⟩) (xs.length + 1) cap8, insertAt xs (place ks kk) y, HX.out, by rw [insertAt_len]; omega, by rw [insertAt_len]; omega, by rw [insertAt_len, insertAt_len]; omega, ?_⟩
              exact HO6.out.item (by omega) hgr8 hrow8 (hat8.imp id (fun h => (by simpa using h)))
/-- 'number', as 'value' takes it. -/
theorem Tryz.num_ok : Tryz.NumOk := fun _ _ _ _ _ h hT hbg => Tryz.number_any h hT hbg
theorem Tryz.value_ok : ∀ d, Tryz.ValOk d := Tryz.value_all Tryz.num_ok (fun _ h => Tryz.object_any h)
/-- 'Parse', at every text. -/
theorem Tryz.parse_any (t : ByteArray) (a : Option Addr) (c : Nat) (w : World) (hs : t.size ≤ 140737488355328) (hT : Tryz.Tb w)
    (hcv : ∀ W : World, Below w.heap.size w W → (convert 22 9 (.slice a t.size c)).run Tryz.prog W = .ok (.string t) W) :
    Calls Tryz.prog 20 #[.slice a t.size c] w fun en w' => Tryz.ParseOk t w en w' := by
  by_cases h : 4096 < t.size
  · exact Tryz.parse_long t a c w h hs
  · exact Tryz.parse_short (Tryz.value_ok 10) t a c w (by omega) hT hcv
end Go.Proofs
