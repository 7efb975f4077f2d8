/-
  WireOneWay: the walk.
-/
import Derived.Test.YtdefebinnmimgaaVm
import Derived.Deep.DeepCutAuto
namespace Go.Proofs
open Go.RowKit Go.Wi
/-- Between two things. -/
structure Try.Mid (B : Nat) (w0 w : World) (x : Nat) (b : List UInt8) (y : Nat) : Prop where
  ex : ∃ s l, Try.RW B w0 w x s y l ∧ Same s l ∧ s.t = b
theorem Wi.ba_size (l : List UInt8) : (ByteArray.mk l.toArray).size = l.length := by simp [ByteArray.size]
theorem Wi.kd_cases (k : Int) : Wi.kd k = 0 ∨ Wi.kd k = 1 ∨ (Wi.kd k ≠ 0 ∧ Wi.kd k ≠ 1) := by omega
theorem Wi.int_in (s : Rs) (hin : s.In) : -9223372036854775808 ≤ s.int.1 ∧ s.int.1 ≤ 9223372036854775807 := unzig_in (s.cnt_in hin).2.2
set_option maxRecDepth 4000 in
set_option maxHeartbeats 4000000 in
theorem Try.wireOneWayWalk (v : Value) (b : List UInt8) (u : Value) (q : List Wi.Th) (w : World) (hB : Bs w v b) (hlen : b.length ≤ 140737488351232) (hP : Wi.Things w u q) :
    Calls Try.prog 4 #[v, u] w fun e w' => e = .returned (.bool true) ∧ Below w.heap.size w w' := by
  have h0 := Try.shown_any w
  obtain ⟨ad, cap, rfl, hcap, hn, h1⟩ := hB.ex
  obtain ⟨ua, ucap, rfl, hucap, hum, -⟩ := hP.ex
  have HB : Hid (Bs w (.slice ad b.length cap) b) := hB
  have HP : Hid (Wi.Things w (.slice ua q.length ucap) q) := hP
  have Hlen : Hid (b.length ≤ 140737488351232) := hlen
  have hum' : q.length ≤ 9223372036854775807 := Nat.le_trans hucap hum
  clear hB hP hlen h1 hn hum
  go_enter Try.func4, Try.ntmps4
  go_wp2_with (first
    | (go_at_call 9; refine h0.mono ?_; clear h0; rintro e w1 ⟨rfl, hb1⟩; have h2 := Try.RB.new (Wi.Bs.up HB.out hb1) (Nat.le_trans Hlen.out (by decide)))
    | (go_at_call 12; refine h2.mono ?_; clear h2; rintro e w2 ⟨x, rfl, hR2⟩; have h3 := Try.RW.new hR2)
    | (go_at_call 13; refine h3.mono ?_; clear h3; rintro e w3 ⟨y, rfl, hRW⟩)
    | fail)
  have HM : Hid (Try.Mid w1.heap.size w1 w3 x b y) := ⟨_, [], hRW, ⟨0, Nat.zero_le _, rfl, fun _ => rfl⟩, rfl⟩
  have HB1 : Hid (Bs w1 (.slice ad b.length cap) b) := Wi.Bs.up HB.out hb1
  have HP1 : Hid (Wi.Things w1 (.slice ua q.length ucap) q) := Wi.Things.up HP.out hb1
  clear hRW hR2 HB HP
  go_loopw [8, 9, 10, 11] (fun i _ _ _ wr => ∃ k : Nat, k ≤ q.length ∧ i = .int .i64 k ∧ Try.Mid w1.heap.size w1 wr x b y) (fun i _ _ _ _ => q.length - (intOf i).toNat)
  case atStart => exact ⟨0, Nat.zero_le _, rfl, HM.out⟩
  case round =>
    obtain ⟨k, hk, rfl, hM⟩ := hrel
    obtain ⟨s, l, hRW, hS, hst⟩ := hM.ex
    have HS : Hid (Same s l) := hS
    have Hst : Hid (s.t = b) := hst
    have Hin : Hid (s.In) := hRW.inn.1
    have Hll : Hid (l.length ≤ 140737488351232) := (by have h1 := hS.len; have h2 := Hlen.out; rw [hst] at h1; show l.length ≤ _; omega)
    clear hM hS hst
    by_cases hkq : k < q.length
    · have q0 : (k : Int) < (q.length : Int) := by omega
      obtain ⟨p, hp⟩ : ∃ p, q[k]? = some p := ⟨_, List.getElem?_eq_getElem hkq⟩
      obtain ⟨ad', cap', e, -, -, hP2⟩ := (Wi.Things.up HP1.out hRW.bel).ex
      cases e
      rcases hP2 with hP2 | ⟨pb, po, rfl, hpb, hP2⟩
      · rw [hP2] at hkq; exact absurd hkq (by simp)
      · obtain ⟨c0, c1, c2, c3, c4⟩ := hP2 k p hp
        obtain ⟨hok1, -, la, ln, lc, hlv⟩ := HP1.out.ok p (List.mem_of_getElem? hp)
        rw [hlv] at c4
        have hkd := Try.kind_any p.k p.n p.y p.s la ln lc wr hok1
        have hw1 : ∀ (W : World), Below wr.heap.size wr W → Try.RW w1.heap.size w1 W x s y l := fun W hb => hRW.below hb
        clear hP2 hok1 hlv
        rcases Wi.kd_cases p.k with hk0 | hk0 | ⟨hk0, hk1⟩
        · rw [hk0] at hkd
          cases hf2 : s.int.2.f with
          | none =>
            have hSi := HS.out.int Hin.out hf2
            have hHS : Hid (Same s.int.2 (l ++ cnt (zig s.int.1)) ∧ s.int.2.t = b) := ⟨hSi.1, (int_t s Hin.out).1.trans Hst.out⟩
            have hin2 := Wi.int_in s Hin.out
            have Hin2 : Hid (-9223372036854775808 ≤ s.int.1 ∧ s.int.1 ≤ 9223372036854775807) := hin2
            have Hf2 : Hid (s.int.2.f = none) := hf2
            clear hSi hin2 hf2
            go_wp2_with (first
              | (go_at_call 14; refine hkd.mono ?_; clear hkd; rintro e w4 ⟨rfl, hb4⟩; have hRW4 := hw1 w4 hb4; have h4 := hRW4.rInt)
              | (go_at_call 15; refine h4.mono ?_; clear h4; rintro e w5 ⟨rfl, hRW5⟩; have h5 := hRW5.errNone Hf2.out; have h6 := hRW5.wInt s.int.1 Hin2.out.1 Hin2.out.2 (Nat.le_trans Hll.out (by decide)))
              | (go_at_call 16; refine h5.mono ?_; clear h5; rintro e w6 ⟨rfl, rfl⟩)
              | (go_at_call 17; refine h6.mono ?_; clear h6; rintro e w7 ⟨⟨v7, rfl⟩, hRW7⟩)
              | fail)
            go_roundw
            case rel => exact ⟨k + 1, by omega, by go_num, ⟨_, _, hRW7, hHS.out.1, hHS.out.2⟩⟩
            case measure => simp [intOf]; omega
          | some a =>
            have Hf2 : Hid (s.int.2.f ≠ none) := (by show s.int.2.f ≠ none; rw [hf2]; simp)
            have hHS : Hid (Same s.int.2 l ∧ s.int.2.t = b) := ⟨HS.out.fault (int_t s Hin.out).1 Hf2.out, (int_t s Hin.out).1.trans Hst.out⟩
            clear hf2
            go_wp2_with (first
              | (go_at_call 14; refine hkd.mono ?_; clear hkd; rintro e w4 ⟨rfl, hb4⟩; have hRW4 := hw1 w4 hb4; have h4 := hRW4.rInt)
              | (go_at_call 15; refine h4.mono ?_; clear h4; rintro e w5 ⟨rfl, hRW5⟩; have h5 := hRW5.errSome Hf2.out)
              | (go_at_call 16; refine h5.mono ?_; clear h5; rintro e w6 ⟨z, rfl, hRW6⟩)
              | fail)
            go_roundw
            case rel => exact ⟨k + 1, by omega, by go_num, ⟨_, _, hRW6, hHS.out.1, hHS.out.2⟩⟩
            case measure => simp [intOf]; omega
        · rw [hk0] at hkd
          cases hf2 : s.flag.2.f with
          | none =>
            have hSi := HS.out.flag Hin.out hf2
            have hHS : Hid (Same s.flag.2 (l ++ [if s.flag.1 then 1 else 0]) ∧ s.flag.2.t = b) := ⟨hSi.1, (s.flag_in Hin.out).2.trans Hst.out⟩
            have Hf2 : Hid (s.flag.2.f = none) := hf2
            clear hSi hf2
            go_wp2_with (first
              | (go_at_call 14; refine hkd.mono ?_; clear hkd; rintro e w4 ⟨rfl, hb4⟩; have hRW4 := hw1 w4 hb4; have h4 := hRW4.rFlag)
              | (go_at_call 18; refine h4.mono ?_; clear h4; rintro e w5 ⟨rfl, hRW5⟩; have h5 := hRW5.errNone Hf2.out; have h6 := hRW5.wFlag s.flag.1 (Nat.le_trans Hll.out (by decide)))
              | (go_at_call 16; refine h5.mono ?_; clear h5; rintro e w6 ⟨rfl, rfl⟩)
              | (go_at_call 19; refine h6.mono ?_; clear h6; rintro e w7 ⟨⟨v7, rfl⟩, hRW7⟩)
              | fail)
            go_roundw
            case rel => exact ⟨k + 1, by omega, by go_num, ⟨_, _, hRW7, hHS.out.1, hHS.out.2⟩⟩
            case measure => simp [intOf]; omega
          | some a =>
            have Hf2 : Hid (s.flag.2.f ≠ none) := (by show s.flag.2.f ≠ none; rw [hf2]; simp)
            have hHS : Hid (Same s.flag.2 l ∧ s.flag.2.t = b) := ⟨HS.out.fault (s.flag_in Hin.out).2 Hf2.out, (s.flag_in Hin.out).2.trans Hst.out⟩
            clear hf2
            go_wp2_with (first
              | (go_at_call 14; refine hkd.mono ?_; clear hkd; rintro e w4 ⟨rfl, hb4⟩; have hRW4 := hw1 w4 hb4; have h4 := hRW4.rFlag)
              | (go_at_call 18; refine h4.mono ?_; clear h4; rintro e w5 ⟨rfl, hRW5⟩; have h5 := hRW5.errSome Hf2.out)
              | (go_at_call 16; refine h5.mono ?_; clear h5; rintro e w6 ⟨z, rfl, hRW6⟩)
              | fail)
            go_roundw
            case rel => exact ⟨k + 1, by omega, by go_num, ⟨_, _, hRW6, hHS.out.1, hHS.out.2⟩⟩
            case measure => simp [intOf]; omega
        · have q5 : ((Wi.kd p.k : Int) == 0) = false := by simp; omega
          have q6 : ((Wi.kd p.k : Int) == 1) = false := by simp; omega
          have q7 : ¬ (Wi.kd p.k : Int) = 0 := by omega
          have q8 : ¬ (Wi.kd p.k : Int) = 1 := by omega
          generalize Wi.kd p.k = kk at *
          cases hf2 : s.text.2.f with
          | none =>
            have hSi := HS.out.text Hin.out hf2
            have hbz := Wi.ba_size s.text.1
            have hHS : Hid (Same s.text.2 (l ++ (cnt (ByteArray.mk s.text.1.toArray).size ++ (ByteArray.mk s.text.1.toArray).data.toList)) ∧ s.text.2.t = b) := ⟨(by rw [hbz]; exact hSi.1), (s.text_in Hin.out).2.trans Hst.out⟩
            have Hf2 : Hid (s.text.2.f = none) := hf2
            have Hln : Hid (l.length + (ByteArray.mk s.text.1.toArray).size ≤ 140737488355290) := (by
              have h1 := hSi.2
              rw [List.length_append, List.length_append, Hst.out] at h1
              have h2 := Hlen.out
              show l.length + (ByteArray.mk s.text.1.toArray).size ≤ _
              rw [hbz]; omega)
            clear hSi hf2 hbz
            go_wp2_with (first
              | (go_at_call 14; refine hkd.mono ?_; clear hkd; rintro e w4 ⟨rfl, hb4⟩; have hRW4 := hw1 w4 hb4; have h4 := hRW4.rText)
              | (go_at_call 20; refine h4.mono ?_; clear h4; rintro e w5 ⟨rfl, hRW5⟩; have h5 := hRW5.errNone Hf2.out; have h6 := hRW5.wText ⟨s.text.1.toArray⟩ Hln.out)
              | (go_at_call 16; refine h5.mono ?_; clear h5; rintro e w6 ⟨rfl, rfl⟩)
              | (go_at_call 21; refine h6.mono ?_; clear h6; rintro e w7 ⟨⟨v7, rfl⟩, hRW7⟩)
              | fail)
            go_roundw
            case rel => exact ⟨k + 1, by omega, by go_num, ⟨_, _, hRW7, hHS.out.1, hHS.out.2⟩⟩
            case measure => simp [intOf]; omega
          | some a =>
            have Hf2 : Hid (s.text.2.f ≠ none) := (by show s.text.2.f ≠ none; rw [hf2]; simp)
            have hHS : Hid (Same s.text.2 l ∧ s.text.2.t = b) := ⟨HS.out.fault (s.text_in Hin.out).2 Hf2.out, (s.text_in Hin.out).2.trans Hst.out⟩
            clear hf2
            go_wp2_with (first
              | (go_at_call 14; refine hkd.mono ?_; clear hkd; rintro e w4 ⟨rfl, hb4⟩; have hRW4 := hw1 w4 hb4; have h4 := hRW4.rText)
              | (go_at_call 20; refine h4.mono ?_; clear h4; rintro e w5 ⟨rfl, hRW5⟩; have h5 := hRW5.errSome Hf2.out)
              | (go_at_call 16; refine h5.mono ?_; clear h5; rintro e w6 ⟨z, rfl, hRW6⟩)
              | fail)
            go_roundw
            case rel => exact ⟨k + 1, by omega, by go_num, ⟨_, _, hRW6, hHS.out.1, hHS.out.2⟩⟩
            case measure => simp [intOf]; omega
    · have q0 : ¬ (k : Int) < (q.length : Int) := by omega
      have h4 := hRW.bytes (Nat.le_trans Hll.out (by decide))
      have hlb : l.length ≤ b.length := by have := HS.out.len; rw [Hst.out] at this; exact this
      have htk : l = b.take l.length := by
        obtain ⟨qq, e1, e2, -⟩ := HS.out
        rw [Hst.out] at e1 e2
        have : l.length = qq := by rw [e2, List.length_take]; omega
        rw [this]; exact e2
      have Htk : Hid (l = b.take l.length) := htk
      have hfin := HS.out.fin
      rw [Hst.out] at hfin
      clear htk
      go_wp2_with (first
        | (go_at_call 22; refine h4.mono ?_; clear h4; rintro e w5 ⟨oa, ocap, rfl, hbs5, hRW5⟩)
        | fail)
      have hB5 : Bs w5 (.slice ad l.length cap) l := (by
        obtain ⟨a1, c1, e1, e2, e3, e4⟩ := (Wi.Bs.up HB1.out hRW5.bel).ex
        cases e1
        refine ⟨ad, cap, rfl, by omega, e3, ?_⟩
        rcases e4 with e4 | ⟨g, o, e5, e6, e7⟩
        · refine .inl (List.eq_nil_of_length_eq_zero ?_)
          rw [e4] at hlb; simpa using hlb
        · refine .inr ⟨g, o, e5, e6, fun j u hu => ?_⟩
          have hj := (List.getElem?_eq_some_iff.1 hu).1
          rw [byteCells_len] at hj
          have e8 : (Lib.byteCells b)[j]? = some u := by
            rw [← hu, byteCell (by omega), byteCell hj]
            have e9 : l[j] = b[j] := by
              have : l[j]? = b[j]? := by rw [Htk.out, List.getElem?_take]; simp [hj]
              rw [List.getElem?_eq_getElem hj, List.getElem?_eq_getElem (by omega)] at this
              exact Option.some.inj this
            rw [e9]
          exact e7 j u e8)
      have hcv1 := fun m => Try.conv_bs (w := w5.drewN m) (Wi.Bs.up hbs5 (belowN (Below.refl _ _) m))
      have hcv2 := fun m => Try.conv_bs (w := w5.drewN m) (Wi.Bs.up hB5 (belowN (Below.refl _ _) m))
      have q1 : decide ((b.length : Int) < (l.length : Int)) = false := by simp; omega
      have q2 : (l.length : Int) ≤ (cap : Int) := by omega
      go_quiet (fail)
      have hRWn := hRW5.drewN nq
      have h7 := hRWn.rEnd
      have hge : w.heap.size ≤ w1.heap.size := hb1.size
      have Hb1 : Hid (Below w.heap.size w w1) := hb1
      clear hcv1 hcv2 hB5 hbs5 q1 hRW5 hRW HB1 HP1
      cases hf : s.f with
      | none =>
        rw [hf] at hfin
        have Hf : Hid (s.f = none) := hf
        clear hf
        by_cases hlb2 : l.length = b.length
        · have hfin2 : s.fin = true := by rw [hfin]; simp [hlb2]
          rw [hfin2] at h7
          clear hfin hfin2
          have q3 : ((l.length : Int) == (b.length : Int)) = true := by simp [hlb2]
          clear hlb2
          go_wp2_with (first
            | (go_at_call 23; refine h7.mono ?_; clear h7; rintro e w8 ⟨rfl, hRW8⟩; have h8 := hRW8.errNone Hf.out)
            | (go_at_call 16; refine h8.mono ?_; clear h8; rintro e w9 ⟨rfl, rfl⟩)
            | fail)
          go_ret
          exact ⟨by simp, Hb1.out.trans (hRW8.bel.mono hge)⟩
        · have hfin2 : s.fin = false := by rw [hfin]; simp [hlb2]
          rw [hfin2] at h7
          clear hfin hfin2
          have q3 : ((l.length : Int) == (b.length : Int)) = false := by simp; omega
          clear hlb2
          go_wp2_with (first
            | (go_at_call 23; refine h7.mono ?_; clear h7; rintro e w8 ⟨rfl, hRW8⟩; have h8 := hRW8.errNone Hf.out)
            | (go_at_call 16; refine h8.mono ?_; clear h8; rintro e w9 ⟨rfl, rfl⟩)
            | fail)
          go_ret
          exact ⟨by simp, Hb1.out.trans (hRW8.bel.mono hge)⟩
      | some a =>
        have hfin2 : s.fin = false := by rw [hfin, hf]; rfl
        rw [hfin2] at h7
        have Hf : Hid (s.f ≠ none) := (by show s.f ≠ none; rw [hf]; simp)
        clear hf hfin hfin2
        go_wp2_with (first
          | (go_at_call 23; refine h7.mono ?_; clear h7; rintro e w8 ⟨rfl, hRW8⟩; have h8 := hRW8.errSome Hf.out)
          | (go_at_call 16; refine h8.mono ?_; clear h8; rintro e w9 ⟨z, rfl, hRW9⟩)
          | fail)
        go_ret
        exact ⟨rfl, Hb1.out.trans (hRW9.bel.mono hge)⟩
end Go.Proofs
