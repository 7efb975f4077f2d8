/-
  'number'.
-/
import Derived.Test.YtejibjeidklnkaaGreatDoorJa
import Derived.Test.YtejibjeidklnkaaGreatDoorJn1
import Derived.Test.YtejibjeidklnkaaGreatDoorJn2
import Derived.Lib.AtoiErrMem
namespace Go.Proofs
open Go.RowKit Go.Jv
theorem Tryz.isNumber_any (s : ByteArray) (hs : s.size ≤ 5000) (w : World) :
    Calls Tryz.prog 38 #[.string s] w fun e w' => e = .returned (.bool (isNumber s)) ∧ Below w.heap.size w w' := by
  have hTP : ∀ w, Calls Tryz.prog 54 #[.string s, .string ⟨#[45]⟩] w fun e w' => e = .returned (.string (trim s)) ∧ w' = w := fun w => Tryz.strings_TrimPrefix s ⟨#[45]⟩ w
  have h1 := Jv.trim_size s
  have h2 := Jv.dg_size (trim s)
  have hD0 := Tryz.digits_any (trim s) (by omega)
  have hN : isNumber s = (if dg1 (trim s) = emp then false else if 1 < (dg1 (trim s)).size ∧ (dg1 (trim s)).get! 0 = 48 then false else num1 (dg2 (trim s))) := rfl
  have HN : Hid (isNumber s = (if dg1 (trim s) = emp then false else if 1 < (dg1 (trim s)).size ∧ (dg1 (trim s)).get! 0 = 48 then false else num1 (dg2 (trim s)))) := hN
  clear hN
  generalize dg1 (trim s) = a at *
  generalize dg2 (trim s) = r at *
  by_cases ha : a = emp
  · have HX : Hid (isNumber s = false) := HN.out.trans (if_pos ha)
    have hae : a.toList.isEmpty = true := (Jv.emp_iff a).1 ha
    clear ha HN
    go_enter Tryz.func38, Tryz.ntmps38
    go_wp2_with (first | (go_at_call 54; refine (hTP _).mono ?_; rintro e9 w9 ⟨rfl, rfl⟩) | (go_at_call 53; refine (hD0 _).mono ?_; clear hD0; rintro e9 w1 ⟨rfl, hb1⟩) | fail)
    go_ret
    exact ⟨Jv.ret_bool HX.out.symm, hb1⟩
  · have hae : a.toList.isEmpty = false := by
      cases h : a.toList.isEmpty with
      | true => exact absurd ((Jv.emp_iff a).2 h) ha
      | false => rfl
    have h0 : 0 < a.size := by
      rcases Nat.eq_zero_or_pos a.size with h | h
      · exact absurd (by obtain ⟨x⟩ := a; cases x with | mk l => cases l with | nil => rfl | cons y l => simp [ByteArray.size] at h) ha
      · exact h
    have hg : a[0]'h0 = a.get! 0 := Jv.get_eq a 0 h0
    by_cases hb : 1 < a.size ∧ a.get! 0 = 48
    · obtain ⟨hz1, hz2⟩ := hb
      have HX : Hid (isNumber s = false) := HN.out.trans (by rw [if_neg ha, if_pos ⟨hz1, hz2⟩])
      rw [hz2] at hg
      have hz1' : (1 : Int) < a.size := by omega
      clear hz1 hz2 ha HN
      go_enter Tryz.func38, Tryz.ntmps38
      go_wp2_with (first | (go_at_call 54; refine (hTP _).mono ?_; rintro e9 w9 ⟨rfl, rfl⟩) | (go_at_call 53; refine (hD0 _).mono ?_; clear hD0; rintro e9 w1 ⟨rfl, hb1⟩) | fail)
      go_ret
      exact ⟨Jv.ret_bool HX.out.symm, hb1⟩
    · have HN2 : Hid (isNumber s = num1 r) := HN.out.trans (by rw [if_neg ha, if_neg hb])
      have hc : (a.size : Int) ≤ 1 ∨ ((1 < (a.size : Int)) ∧ (((a.get! 0).toNat : Int) == 48) = false) := by
        by_cases h : 1 < (a.size : Int)
        · refine .inr ⟨h, ?_⟩
          have hne : ¬ ((a.get! 0).toNat : Int) = 48 := fun e => hb ⟨by omega, UInt8.toNat_inj.1 (by simpa using (by omega : (a.get! 0).toNat = 48))⟩
          simpa using hne
        · exact .inl (by omega)
      have hrs : r.size ≤ 5000 := by omega
      cases h46 : pre r 46 with
      | true =>
        have HM : Hid (isNumber s = num2 (dg1 (r.extract 1 r.size)) (dg2 (r.extract 1 r.size))) := HN2.out.trans (by unfold num1; exact if_pos h46)
        cases e101 : pre (dg2 (r.extract 1 r.size)) 101 with
        | true =>
          cases s43 : pre ((dg2 (r.extract 1 r.size)).extract 1 (dg2 (r.extract 1 r.size)).size) 43 with
          | true => exact Tryz.num_de43 s a r hs w hae hD0 hrs h0 _ hg hc h46 _ _ rfl rfl e101 s43 HM
          | false =>
            cases s45 : pre ((dg2 (r.extract 1 r.size)).extract 1 (dg2 (r.extract 1 r.size)).size) 45 with
            | true => exact Tryz.num_de45 s a r hs w hae hD0 hrs h0 _ hg hc h46 _ _ rfl rfl e101 s43 s45 HM
            | false => exact Tryz.num_de s a r hs w hae hD0 hrs h0 _ hg hc h46 _ _ rfl rfl e101 s43 s45 HM
        | false =>
          cases e69 : pre (dg2 (r.extract 1 r.size)) 69 with
          | true =>
            cases s43 : pre ((dg2 (r.extract 1 r.size)).extract 1 (dg2 (r.extract 1 r.size)).size) 43 with
            | true => exact Tryz.num_dE43 s a r hs w hae hD0 hrs h0 _ hg hc h46 _ _ rfl rfl e101 e69 s43 HM
            | false =>
              cases s45 : pre ((dg2 (r.extract 1 r.size)).extract 1 (dg2 (r.extract 1 r.size)).size) 45 with
              | true => exact Tryz.num_dE45 s a r hs w hae hD0 hrs h0 _ hg hc h46 _ _ rfl rfl e101 e69 s43 s45 HM
              | false => exact Tryz.num_dE s a r hs w hae hD0 hrs h0 _ hg hc h46 _ _ rfl rfl e101 e69 s43 s45 HM
          | false => exact Tryz.num_dn s a r hs w hae hD0 hrs h0 _ hg hc h46 _ _ rfl rfl e101 e69 HM
      | false =>
        have HM : Hid (isNumber s = num2 nought r) := HN2.out.trans (by unfold num1; exact if_neg (by rw [h46]; simp))
        cases e101 : pre r 101 with
        | true =>
          cases s43 : pre (r.extract 1 r.size) 43 with
          | true => exact Tryz.num_ne43 s a r hs w hae hD0 hrs h0 _ hg hc h46 e101 s43 HM
          | false =>
            cases s45 : pre (r.extract 1 r.size) 45 with
            | true => exact Tryz.num_ne45 s a r hs w hae hD0 hrs h0 _ hg hc h46 e101 s43 s45 HM
            | false => exact Tryz.num_ne s a r hs w hae hD0 hrs h0 _ hg hc h46 e101 s43 s45 HM
        | false =>
          cases e69 : pre r 69 with
          | true =>
            cases s43 : pre (r.extract 1 r.size) 43 with
            | true => exact Tryz.num_nE43 s a r hs w hae hD0 hrs h0 _ hg hc h46 e101 e69 s43 HM
            | false =>
              cases s45 : pre (r.extract 1 r.size) 45 with
              | true => exact Tryz.num_nE45 s a r hs w hae hD0 hrs h0 _ hg hc h46 e101 e69 s43 s45 HM
              | false => exact Tryz.num_nE s a r hs w hae hD0 hrs h0 _ hg hc h46 e101 e69 s43 s45 HM
          | false => exact Tryz.num_nn s a r hs w hae hD0 hrs h0 _ hg hc h46 e101 e69 HM
theorem Jv.bytesWorld_below {w w' : World} {T : TypeId} (h : w' = w ∨ ∃ t, w' = Lib.bytesWorld w T t) : Below w.heap.size w w' := by
  rcases h with rfl | ⟨t, rfl⟩
  · exact Below.refl _ _
  · exact Lib.bytesWorld_below _ _ _
/-- 'strconv.ParseInt', as 'number' takes it. -/
theorem Tryz.parse_some (s : ByteArray) (hs : s.size ≤ 5000) (n : Int) (h : Lib.parseIntB 64 s.data.toList = .ok n) (w : World) :
    Calls Tryz.prog 39 #[.string s, .int .i64 10, .int .i64 64] w fun e w' => e = .returned (.tuple #[.int .i64 n, .nilIface]) ∧ Below w.heap.size w w' :=
  (Tryz.strconv_ParseInt_10_at64_ok s (by omega) n h w).mono fun _ _ hq => ⟨hq.1, Jv.bytesWorld_below hq.2⟩
theorem Tryz.parse_none (s : ByteArray) (hs : s.size ≤ 5000) (h : ∀ n, Lib.parseIntB 64 s.data.toList ≠ .ok n) (w : World) (hT : Tryz.Tb w) :
    Calls Tryz.prog 39 #[.string s, .int .i64 10, .int .i64 64] w fun e w' => ∃ n N, e = .returned (.tuple #[.int .i64 n, .iface 104 (.pointer (some ⟨N, 0, none⟩))]) ∧ Below w.heap.size w w' := by
  cases hp : Lib.parseIntB 64 s.data.toList with
  | ok n => exact absurd hp (h n)
  | «syntax» =>
    obtain ⟨te, pe, hc⟩ := hT.here.es
    exact (Tryz.strconv_ParseInt_10_at64_syntax s (by omega) hp _ w hc (.inr ⟨te, pe, rfl⟩)).mono fun _ _ ⟨N, h1, _, _, h4⟩ => ⟨_, N, h1, h4⟩
  | range =>
    obtain ⟨te, pe, hc⟩ := hT.here.er
    exact (Tryz.strconv_ParseInt_10_at64_range s (by omega) hp _ w hc (.inr ⟨te, pe, rfl⟩)).mono fun _ _ ⟨N, h1, _, _, h4⟩ => ⟨_, N, h1, h4⟩
set_option maxHeartbeats 2000000 in
theorem Tryz.number_any {w : World} {b : Nat} {t : ByteArray} {p o : Nat} (h : Rd w b t p o) (hT : Tryz.Tb w) (hbg : 8 ≤ b) :
    Calls Tryz.prog 29 #[.pointer (some ⟨b, 0, none⟩)] w fun en w' =>
      (∃ v q, number t p = .ok (v, q) ∧ Tryz.Vok b t o w v q en w') ∨ (∃ p' e, number t p = .bad p' e ∧ Bad 40 p' e en w' ∧ Wk b w w') := by
  have hrun := Tryz.run_isOfNumber h
  have hle := Jv.run_le isOfNumber t p h.hp
  obtain ⟨c0, c1, c2, f0, f1, f2, hb, hp, ht, ho⟩ := h
  have hsz : (sub t p (run isOfNumber t p)).size ≤ 5000 := by unfold sub; rw [ByteArray.size_extract]; omega
  have hw : number t p = (if isNumber (sub t p (run isOfNumber t p)) = true then (match numOf (sub t p (run isOfNumber t p)) with | some n => .ok (.int n, run isOfNumber t p) | none => .bad p eNumber) else .bad p eSyntax) := rfl
  have HW : Hid (number t p = _) := hw
  clear hw hle
  generalize run isOfNumber t p = q at *
  generalize sub t p q = s at *
  have hN := Tryz.isNumber_any s hsz
  cases hn : isNumber s with
  | false =>
    rw [hn] at hN
    have HX : Hid (number t p = .bad p eSyntax) := HW.out.trans (by rw [hn]; rfl)
    clear hn HW
    go_enter Tryz.func29, Tryz.ntmps29
    go_wp2_with (first | (go_at_call 23; refine hrun.mono ?_; rintro e1 w1 ⟨rfl, hR1, hW1⟩) | (go_at_call 38; refine (hN _).mono ?_; rintro e2 w2 ⟨rfl, hb2⟩) | (go_at_call 12; refine (Tryz.fault_any _ _ _).mono ?_; rintro e9 w9 ⟨rfl, rfl⟩) | fail)
    have hR2 := hR1.below hb2
    have hW2 := hW1.below hb2 hW1.size
    have hq := Jv.bad_new (T := 40) (U := 48) (n := 0) (p := p) (e := 20) hR2.hb
    exact ⟨rfl, Or.inr ⟨_, _, HX.out, hq.1, hW2.trans hq.2⟩⟩
  | true =>
    rw [hn] at hN
    have HX : Hid (number t p = (match numOf s with | some n => .ok (.int n, q) | none => .bad p eNumber)) := HW.out.trans (by rw [hn]; rfl)
    clear hn HW
    have hno : numOf s = (match Lib.parseIntB 64 s.data.toList with | .ok n => if -maxInt ≤ n ∧ n ≤ maxInt then some n else none | _ => none) := rfl
    by_cases hok : ∃ n, Lib.parseIntB 64 s.data.toList = .ok n
    · obtain ⟨n, hpn⟩ := hok
      have hP := Tryz.parse_some s hsz n hpn
      rw [hpn] at hno
      by_cases hin : -maxInt ≤ n ∧ n ≤ maxInt
      · have hno2 : numOf s = some n := hno.trans (if_pos hin)
        have HY : Hid (number t p = .ok (.int n, q)) := HX.out.trans (by rw [hno2])
        have i1 : -9007199254740991 ≤ n := hin.1
        have i2 : n ≤ 9007199254740991 := hin.2
        have im : max (-9007199254740991) (min n 9007199254740991) = n := by omega
        have hO := Tryz.ofInt_any n
        rw [im] at hO
        clear hno hno2 hin hpn HX im
        go_enter Tryz.func29, Tryz.ntmps29
        go_wp2_with (first | (go_at_call 23; refine hrun.mono ?_; rintro e1 w1 ⟨rfl, hR1, hW1⟩) | (go_at_call 38; refine (hN _).mono ?_; rintro e2 w2 ⟨rfl, hb2⟩) | (go_at_call 39; refine (hP _).mono ?_; rintro e3 w3 ⟨rfl, hb3⟩) | (go_at_call 40; refine (hO _).mono ?_; rintro e9 w9 ⟨rfl, rfl⟩) | fail)
        go_ret
        have hR3 := (hR1.below hb2).below hb3
        have hW3 := (hW1.below hb2 hW1.size).below hb3 (hW1.below hb2 hW1.size).size
        exact Or.inl ⟨.int n, q, HY.out, Tryz.vok_new hR3 hW3 (v := .int n) (fun h => ⟨⟨h, by unfold maxInt; omega, by unfold maxInt; omega⟩, Jv.Vb.new w3 2 false n emp Jv.nilS Jv.nilS _⟩)⟩
      · have hno2 : numOf s = none := hno.trans (if_neg hin)
        have HY : Hid (number t p = .bad p eNumber) := HX.out.trans (by rw [hno2])
        have hin' : n < -9007199254740991 ∨ 9007199254740991 < n := by unfold maxInt at hin; omega
        clear hno hno2 hin hpn HX
        rcases hin' with i1 | i1
        · go_enter Tryz.func29, Tryz.ntmps29
          go_wp2_with (first | (go_at_call 23; refine hrun.mono ?_; rintro e1 w1 ⟨rfl, hR1, hW1⟩) | (go_at_call 38; refine (hN _).mono ?_; rintro e2 w2 ⟨rfl, hb2⟩) | (go_at_call 39; refine (hP _).mono ?_; rintro e3 w3 ⟨rfl, hb3⟩) | (go_at_call 12; refine (Tryz.fault_any _ _ _).mono ?_; rintro e9 w9 ⟨rfl, rfl⟩) | fail)
          have hR3 := (hR1.below hb2).below hb3
          have hW3 := (hW1.below hb2 hW1.size).below hb3 (hW1.below hb2 hW1.size).size
          have hq := Jv.bad_new (T := 40) (U := 48) (n := 0) (p := p) (e := 23) hR3.hb
          exact ⟨rfl, Or.inr ⟨_, _, HY.out, hq.1, hW3.trans hq.2⟩⟩
        · have i2 : ¬ n < -9007199254740991 := by omega
          go_enter Tryz.func29, Tryz.ntmps29
          go_wp2_with (first | (go_at_call 23; refine hrun.mono ?_; rintro e1 w1 ⟨rfl, hR1, hW1⟩) | (go_at_call 38; refine (hN _).mono ?_; rintro e2 w2 ⟨rfl, hb2⟩) | (go_at_call 39; refine (hP _).mono ?_; rintro e3 w3 ⟨rfl, hb3⟩) | (go_at_call 12; refine (Tryz.fault_any _ _ _).mono ?_; rintro e9 w9 ⟨rfl, rfl⟩) | fail)
          have hR3 := (hR1.below hb2).below hb3
          have hW3 := (hW1.below hb2 hW1.size).below hb3 (hW1.below hb2 hW1.size).size
          have hq := Jv.bad_new (T := 40) (U := 48) (n := 0) (p := p) (e := 23) hR3.hb
          exact ⟨rfl, Or.inr ⟨_, _, HY.out, hq.1, hW3.trans hq.2⟩⟩
    · have hpn : ∀ n, Lib.parseIntB 64 s.data.toList ≠ .ok n := fun n h => hok ⟨n, h⟩
      have hno2 : numOf s = none := by
        cases hc : Lib.parseIntB 64 s.data.toList with
        | ok n => exact absurd hc (hpn n)
        | «syntax» => rw [hno, hc]
        | range => rw [hno, hc]
      have HY : Hid (number t p = .bad p eNumber) := HX.out.trans (by rw [hno2])
      clear hno hno2 hok HX
      go_enter Tryz.func29, Tryz.ntmps29
      go_wp2_with (first | (go_at_call 23; refine hrun.mono ?_; rintro e1 w1 ⟨rfl, hR1, hW1⟩) | (go_at_call 38; refine (hN _).mono ?_; rintro e2 w2 ⟨rfl, hb2⟩) | (go_at_call 39; refine (Tryz.parse_none s hsz hpn _ ((hT.wk hW1 hbg).below hb2 (hT.wk hW1 hbg).size)).mono ?_; rintro e3 w3 ⟨nn, N, rfl, hb3⟩) | (go_at_call 12; refine (Tryz.fault_any _ _ _).mono ?_; rintro e9 w9 ⟨rfl, rfl⟩) | fail)
      have hR3 := (hR1.below hb2).below hb3
      have hW3 := (hW1.below hb2 hW1.size).below hb3 (hW1.below hb2 hW1.size).size
      have hq := Jv.bad_new (T := 40) (U := 48) (n := 0) (p := p) (e := 23) hR3.hb
      exact ⟨rfl, Or.inr ⟨_, _, HY.out, hq.1, hW3.trans hq.2⟩⟩
end Go.Proofs
