/-
  Laid together by pack.py of LawSKeys.
-/
import Derived.Test.YtlfiebapfgpchaaGreatDoorPkD
namespace Go.Proofs
open Go.RowKit Go.Wi Go.Se Go.Ct Go.Dg
theorem Se.ob_form {w : World} {B : Nat} {ad : Option Addr} {n cap : Nat} {l : List UInt8} (h : Ob w B (.slice ad n cap) l) (hl : 0 < l.length) : ∃ g, ad = some ⟨g, 0, none⟩ ∧ n = l.length ∧ B ≤ g ∧ g < w.heap.size := by
  rcases h with ⟨_, rfl⟩ | ⟨g, cap', e, h1, h2, _⟩
  · simp at hl
  · injection e with e1 e2 e3
    exact ⟨g, e1, e2, h1, h2⟩
set_option maxHeartbeats 16000000 in
set_option maxRecDepth 4000 in
theorem Tryz.keys_good {w : World} {VA VB : Value} {la lb : List UInt8} (hA : Bs w VA la) (hvA : ∀ k, VA.ownBlock = some k → k < w.heap.size) (hB : Bs w VB lb) (hvB : ∀ k, VB.ownBlock = some k → k < w.heap.size) (hlB : lb.length ≤ 140737488355328) (a b c : Int) (hk : 16 ≤ la.length ∧ la.length ≤ 64) (hm : Se.Nu.May ⟨a, b, c, 0, 0⟩) (hT : Tryz.Tq w) :
    Calls Tryz.prog 5 #[VA, VB, .int .i64 a, .int .i64 b, .int .i64 c] w fun e w' => e = .returned (.bool true) ∧ Below w.heap.size w w' := by
  have haw := Tryz.awake_any w hT
  obtain ⟨⟨m1, m2⟩, ⟨m3, m4⟩, m5, m6⟩ := hm
  have hm : Se.Nu.May ⟨a, b, c, 0, 0⟩ := ⟨⟨m1, m2⟩, ⟨m3, m4⟩, m5, m6⟩
  have m1' : 1 ≤ a := m1
  have m2' : a ≤ 1000000 := m2
  have m3' : 1 ≤ b := m3
  have m4' : b ≤ 100 := m4
  have m5' : 1 ≤ c := m5
  have m6' : c ≤ 1000000 := m6
  have n1 : (16 : Int) ≤ (la.length : Int) := by omega
  have n2 : (la.length : Int) ≤ 64 := by omega
  have dc : decide (c ≤ 1000000) = true := by simp [m6']
  have HA : Hid (∀ W, Below w.heap.size w W → Bs W VA la ∧ ∀ k, VA.ownBlock = some k → k < W.heap.size) := fun W hb => ⟨hA.below hb hvA, fun k e => Nat.lt_of_lt_of_le (hvA k e) hb.size⟩
  have HB : Hid (∀ W, Below w.heap.size w W → Bs W VB lb ∧ ∀ k, VB.ownBlock = some k → k < W.heap.size) := fun W hb => ⟨hB.below hb hvB, fun k e => Nat.lt_of_lt_of_le (hvB k e) hb.size⟩
  have HM : Hid (Se.Nu.May ⟨a, b, c, 0, 0⟩) := hm
  have HT : Hid _ := hT
  have HL : Hid (16 ≤ la.length ∧ la.length ≤ 64) := hk
  have HLB : Hid _ := hlB
  obtain ⟨d, cA, rfl⟩ : ∃ d cap, VA = .slice (some d) la.length cap := by
    obtain ⟨ad, cap, e, _, _, h1⟩ := hA.ex
    rcases h1 with rfl | ⟨g, o, rfl, _⟩
    · simp at hk
    · exact ⟨_, cap, e⟩
  obtain ⟨adB, cB, rfl, _⟩ := hB.ex
  clear hA hvA hB hvB hlB hm hT hk m1 m2 m3 m4 m5 m6
  go_enter Tryz.func5, Tryz.ntmps5
  go_wp2_with (first
    | (go_at_call 6; refine haw.mono ?_; clear haw; rintro e w1 ⟨rfl, b1⟩; have q0 := Tryz.new_yes (HA.out w1 b1).1 (HA.out w1 b1).2 HL.out.1 HL.out.2 a b c HM.out)
    | (go_at_call 8; refine q0.mono ?_; clear q0; rintro e v1 ⟨k0, rfl, p0, b2⟩; have bv1 := b1.trans (b2.mono b1.size))
    | (at_builtin; refine Tryz.appClone rfl _ _ rfl (HA.out v1 bv1).1 (HA.out v1 bv1).2 rfl rfl (by have := HL.out; omega) ?_; intro ad2 cap2 w2 hr2 b3; have q1 := Tryz.new_yes (Bs.ofRow hr2) (fun k e => (hr2.lt k e).2) HL.out.1 HL.out.2 a b c HM.out; have ob2 := Ob.ofRow hr2; clear hr2)
    | (go_at_call 8; refine q1.mono ?_; clear q1; rintro e v3 ⟨k1, rfl, p1, b4⟩)
    | fail)
  obtain ⟨g, rfl, _, hg1, hg2⟩ := Se.ob_form ob2 (by have := HL.out; omega)
  have HO : Hid _ := ob2.below b4 (Nat.le_refl _)
  have P0 : Hid _ := p0
  have P1 : Hid _ := p1
  have B1 : Hid _ := b1
  have B2 : Hid _ := b2
  have B3 : Hid _ := b3
  have B4 : Hid _ := b4
  have G12 : Hid (v1.heap.size ≤ g ∧ g < w2.heap.size) := ⟨hg1, hg2⟩
  clear p0 p1 b1 b2 b3 b4 hg1 hg2 ob2 bv1
  go_loopw [18] (fun iv wr => ∃ (i : Nat) (l' : List UInt8), iv = .int .i64 i ∧ i ≤ la.length ∧ l'.length = la.length ∧ Hid (Ob wr v1.heap.size (.slice (some ⟨g, 0, none⟩) la.length cap2) l') ∧ Hid (Wo (fun k => k = g) v3 wr)) (fun iv _ => la.length - (intOf iv).toNat)
  case atStart => exact ⟨0, la, rfl, by omega, rfl, HO, Wo.refl _ _⟩
  case round =>
    clear HO
    obtain ⟨i, l', rfl, hi, hl', Ho, Hw⟩ := hrel
    by_cases hlt : i < la.length
    · have q1 : (i : Int) < la.length := by omega
      have hl : i < l'.length := by omega
      obtain ⟨hc, hf⟩ := Ho.out.cell hl
      obtain ⟨x, hx⟩ : ∃ x, x = l'[i]'hl := ⟨_, rfl⟩
      rw [← hx] at hc
      have HLL : Hid (l'.length = la.length ∧ i < l'.length) := ⟨hl', hl⟩
      clear hx hl hl'
      go_wp2
      go_roundw
      case rel =>
        refine ⟨i + 1, l'.set i (x ^^^ 85), by go_num, by omega, by rw [List.length_set]; exact HLL.out.1, ?_, Hw.out.setCell g i _ (.inl rfl)⟩
        exact Ho.out.set i (x ^^^ 85) _ (Dg.xor8 x 85) HLL.out.2
      case measure => simp [intOf]; omega
    · have q1 : ¬ (i : Int) < la.length := by omega
      have hbw : Below w.heap.size w wr := by
        have e1 := B1.out.trans (B2.out.mono B1.out.size)
        have e2 := e1.trans (B3.out.mono e1.size)
        have e3 := e2.trans (B4.out.mono e2.size)
        exact Wo.toBelow e3 Hw.out (fun k e => by have := G12.out.1; have := e1.size; omega) e3.size
      obtain ⟨X, hX⟩ : ∃ X : {x : Tk // x.ok}, X.1 = ⟨Se.ua, 1, a⟩ := ⟨⟨_, Se.xl_ok a m1' m2'⟩, rfl⟩
      obtain ⟨T1, hT1⟩ : ∃ T1, T1 = Se.Tk.text ⟨Se.ua, 1, a⟩ la := ⟨_, rfl⟩
      obtain ⟨T2, hT2⟩ : ∃ T2, T2 = Se.Tk.text ⟨Se.ua, 1, a⟩ l' := ⟨_, rfl⟩
      have HX : Hid (X.1 = ⟨Se.ua, 1, a⟩) := hX
      have HT1 : Hid (T1 = Se.Tk.text ⟨Se.ua, 1, a⟩ la) := hT1
      have HT2 : Hid (T2 = Se.Tk.text ⟨Se.ua, 1, a⟩ l') := hT2
      have HL' : Hid (l'.length = la.length) := hl'
      have q2 := Tryz.new_yes Ho.out.bs (fun k e => (Ho.out.lt k e).2) (by have := HL'.out; have := HL.out; omega) (by have := HL'.out; have := HL.out; omega) a b c HM.out
      have HBW : Hid _ := hbw
      clear hX hT1 hT2 hl' hbw
      go_upto_region 27 with (first
        | (go_at_call 8; refine q2.mono ?_; clear q2; rintro e v5 ⟨k2, rfl, p2, b5⟩; have bw5 := HBW.out.trans (b5.mono HBW.out.size); have cvA := Tryz.conv_bs (HA.out v5 bw5).1; have qr1 := Tryz.rNew_yes ⟨la.toArray⟩ HL.out.1 HL.out.2 a b c HM.out v5; have P2 : Hid _ := p2; clear p2)
        | (go_at_call 14; refine qr1.mono ?_; clear qr1 cvA; rintro e v6 ⟨r1, rfl, h1, hr1, b6⟩; have cvB := Tryz.conv_bs (Ho.out.below (b5.trans (b6.mono b5.size)) (Nat.le_refl _)).bs; have qr2 := Tryz.rNew_yes ⟨l'.toArray⟩ (by show 16 ≤ l'.length; have := HL'.out; have := HL.out; omega) (by show l'.length ≤ 64; have := HL'.out; have := HL.out; omega) a b c HM.out v6)
        | (go_at_call 14; refine qr2.mono ?_; clear qr2 cvB; rintro e v7 ⟨r2, rfl, h2, hr2, b7⟩; have Q := Tryz.Q5.made HT.out B1.out P0.out B2.out B3.out P1.out B4.out G12.out.1 G12.out.2 Hw.out P2.out b5 h1 hr1 b6 h2 hr2 b7; have z1 : Calls Tryz.prog 11 #[.pointer (some ⟨k1, 0, none⟩), .string ⟨#[64, 97]⟩, .int .i64 0] v7 fun e w' => e = .returned (.tuple #[.string T1, .int .i64 0]) ∧ Tryz.Q6 w w' k0 k2 r1 r2 la l' a b c := (by rw [HT1.out, ← HX.out]; exact Q.one HM.out HL.out.2 X HX.out); clear Q h1 h2 b5 b6 b7 hr1 hr2 bw5)
        | (go_at_call 11; refine z1.mono ?_; clear z1; rintro e v8 ⟨rfl, Q6⟩; have z2 : Calls Tryz.prog 11 #[.pointer (some ⟨k2, 0, none⟩), .string ⟨#[64, 97]⟩, .int .i64 0] v8 fun e w' => e = .returned (.tuple #[.string T2, .int .i64 0]) ∧ Tryz.Q7 w w' k0 r1 r2 la l' a b c := (by rw [HT2.out, ← HX.out]; exact Q6.two HM.out (by have := HL'.out; have := HL.out; omega) X HX.out); clear Q6)
        | (go_at_call 11; refine z2.mono ?_; clear z2; rintro e v9 ⟨rfl, Q7⟩; have hle := Q7.le.2; have z3 := Q7.ref1 HM.out HL.out.2; rw [← HT1.out] at z3; clear Q7)
        | (go_at_call 15; refine z3.mono ?_; clear z3; rintro e v10 ⟨rfl, hex, h2', hb10⟩; have z4 := Tryz.Q7.ref2 (w := w) HT.out hex h2' hb10 hle HM.out (by have := HL'.out; have := HL.out; omega) rfl; rw [← HT2.out] at z4; clear hex h2' hb10 hle)
        | (go_at_call 15; refine z4.mono ?_; clear z4; rintro e v11 ⟨rfl, hKH⟩)
        | fail)
      clear P0 P1 P2 B1 B2 B3 B4 G12 Ho Hw HBW
      have hrt : Tryz.Rt T1 la (some X.1) := by
        rw [HT1.out, ← HX.out]
        have ex := HX.out
        exact Tryz.rt_token X.1 (by rw [ex]; show 1 ≤ Se.ua.size; decide) (by rw [ex]; show Se.ua.size ≤ 60; decide) (by rw [ex]; show -9223372036854775808 ≤ (1 : Int); decide) (by rw [ex]; show (1 : Int) ≤ 9223372036854775807; decide) (by rw [ex]; show -9223372036854775808 ≤ a; omega) (by rw [ex]; show a ≤ 9223372036854775807; omega) la HL.out.2
      have HRT : Hid _ := hrt
      have HKH : Hid _ := hKH
      have hmB : Se.Nu.May ⟨10, 1, 1, 0, 0⟩ := ⟨⟨by show (1 : Int) ≤ 10; decide, by show (10 : Int) ≤ 1000000; decide⟩, ⟨by show (1 : Int) ≤ 1; decide, by show (1 : Int) ≤ 100; decide⟩, by show (1 : Int) ≤ 1; decide, by show (1 : Int) ≤ 1000000; decide⟩
      have HMB : Hid _ := hmB
      clear hrt hKH hmB
      by_cases hgb : 16 ≤ lb.length ∧ lb.length ≤ 64
      · have ex := HX.out
        have hrtB : ∀ B : Bool, B = decide (Dg.mac lb X.1.said = Dg.mac la X.1.said) → Tryz.Rt T1 lb (if B then some X.1 else none) := fun B hBe => by
          rw [HT1.out, ← ex]
          exact fun W V hb hv hTT => Tryz.readText_token hTT X.1 (by rw [ex]; show 1 ≤ Se.ua.size; decide) (by rw [ex]; show Se.ua.size ≤ 60; decide) (by rw [ex]; show -9223372036854775808 ≤ (1 : Int); decide) (by rw [ex]; show (1 : Int) ≤ 9223372036854775807; decide) (by rw [ex]; show -9223372036854775808 ≤ a; omega) (by rw [ex]; show a ≤ 9223372036854775807; omega) la hb hv hgb.2 B hBe
        obtain ⟨T3, hT3⟩ : ∃ T3, T3 = Se.Tk.text ⟨Se.ua, 1, a⟩ lb := ⟨_, rfl⟩
        have HT3 : Hid (T3 = Se.Tk.text ⟨Se.ua, 1, a⟩ lb) := hT3
        have htq : T1 = T3 ↔ Dg.mac lb X.1.said = Dg.mac la X.1.said := by rw [HT1.out, HT3.out, ex]; exact Se.text_eq _ _ _
        have HRB : Hid _ := hrtB
        have HTQ : Hid _ := htq
        have HGB : Hid (16 ≤ lb.length ∧ lb.length ≤ 64) := hgb
        have hzz : ∀ (r : Nat) (key : List UInt8) (W0 : World), key.length ≤ 64 → Tryz.Rk W0 r ⟨key.toArray⟩ 10 1 1 0 0 (.slice none 0 0) (.slice none 0 0) → ∀ W, Below W0.heap.size W0 W → Calls Tryz.prog 16 #[.pointer (some ⟨r, 0, none⟩), .agg #[.int .i64 1, .string ⟨#[64, 97]⟩, .int .i64 a]] W fun e w' => e = .returned (.string (Se.Tk.text ⟨Se.ua, 1, a⟩ key)) ∧ Below W.heap.size W w' := fun r key W0 hkl hr W hb => by
          have hl1 : (⟨key.toArray⟩ : ByteArray).toList = key := by rw [ByteArray.toList_eq]
          have q := Tryz.rTokText_any (w := W) (hr.up hb) (by show key.length ≤ 64; exact hkl) ⟨Se.ua, 1, a⟩ (by show Se.ua.size ≤ 60; decide) (by show (0 : Int) ≤ 1; decide) (by show (1 : Int) ≤ 9223372036854775807; decide) (by show 0 ≤ a; omega) (by show a ≤ 9223372036854775807; omega)
          rw [hl1] at q
          exact q
        have HZZ : Hid _ := hzz
        have q3 := Tryz.new_yes (HB.out v11 HKH.out.bel).1 (HB.out v11 HKH.out.bel).2 hgb.1 hgb.2 10 1 1 HMB.out
        clear hrtB htq hgb hT3 ex hzz
        by_cases hmac : T1 = T3
        · have hrb := HRB.out true (by symm; exact decide_eq_true (HTQ.out.1 hmac))
          have HRB2 : Hid _ := hrb
          clear hrb HRB HTQ
          subst hmac
          go_upto_region 38 with (first
            | (go_at_call 8; refine q3.mono ?_; clear q3; rintro e v12 ⟨k3, rfl, p3, b12⟩; have Q := Tryz.Q9.made HKH.out p3 b12; have z5 : Calls Tryz.prog 11 #[.pointer (some ⟨k0, 0, none⟩), .string ⟨#[64, 97]⟩, .int .i64 0] v12 fun e w' => e = .returned (.tuple #[.string T1, .int .i64 0]) ∧ Tryz.Q9 w w' k0 k3 la lb ⟨a, b, c, 0, 1⟩ [(X, X.1.t)] (some X) := (by rw [HT1.out, ← HX.out]; exact Q.issue HM.out HL.out.2 X HX.out); clear Q p3 b12)
            | (go_at_call 11; refine z5.mono ?_; clear z5; rintro e v13 ⟨rfl, Q⟩; have z6 := Q.check m1' HX.out T1 HRT.out; clear Q)
            | (go_at_call 12; refine z6.mono ?_; clear z6; rintro e v14 ⟨rfl, Q⟩; have z7 : Calls Tryz.prog 12 #[.pointer (some ⟨k3, 0, none⟩), .string T1, .int .i64 0] v14 fun e w' => e = .returned (.tuple #[.string ⟨#[]⟩, .int .i64 172]) ∧ Below w.heap.size w w' := Q.other T1 X (by rw [HX.out]; show 0 < a; omega) true HRB2.out; clear Q)
            | (go_at_call 12; refine z7.mono ?_; clear z7; rintro e v15 ⟨rfl, hb15⟩; have cvA := Tryz.conv_bs (HA.out v15 hb15).1; have z8 := Tryz.rNew_yes ⟨la.toArray⟩ HL.out.1 HL.out.2 10 1 1 HMB.out v15)
            | (go_at_call 14; refine z8.mono ?_; clear z8 cvA; rintro e v16 ⟨r3, rfl, h3, _, b16⟩; have hb16 := hb15.trans (b16.mono hb15.size); have cvB := Tryz.conv_bs (HB.out v16 hb16).1; have z9 := Tryz.rNew_yes ⟨lb.toArray⟩ HGB.out.1 HGB.out.2 10 1 1 HMB.out v16)
            | (go_at_call 14; refine z9.mono ?_; clear z9 cvB; rintro e v17 ⟨r4, rfl, h4, _, b17⟩)
            | fail)
          obtain ⟨W18, hW18⟩ : ∃ W, W = v17.alloc (.cells #[.int .i64 1, .string ⟨#[64, 97]⟩, .int .i64 a] 43) := ⟨_, rfl⟩
          have b18 : Below v17.heap.size v17 W18 := by rw [hW18]; exact (Below.refl _ v17).alloc (Nat.le_refl _) _
          have hn18 : W18.heap[v17.heap.size]? = some (.cells #[.int .i64 1, .string ⟨#[64, 97]⟩, .int .i64 a] 43 (0, 0)) := by rw [hW18]; exact heap_alloc_new v17 _
          rw [← hW18]
          clear hW18
          have hcl : ∀ W, Below W18.heap.size W18 W → W.cell? ⟨v17.heap.size, 0, none⟩ = some (.int .i64 1) ∧ W.cell? ⟨v17.heap.size, 1, none⟩ = some (.string ⟨#[64, 97]⟩) ∧ W.cell? ⟨v17.heap.size, 2, none⟩ = some (.int .i64 a) := fun W hb => by
            have h := (hb.block _ (block_lt hn18)).trans hn18
            exact ⟨cell_of_row W _ 0 _ _ _ h, cell_of_row W _ 1 _ _ _ h, cell_of_row W _ 2 _ _ _ h⟩
          have c18 := hcl W18 (Below.refl _ _)
          have z10 := fun W (hb : Below W18.heap.size W18 W) => HZZ.out r3 la v16 HL.out.2 h3 W ((b17.trans (b18.mono b17.size)).trans (hb.mono (b17.trans (b18.mono b17.size)).size))
          rw [← HT1.out] at z10
          have hb18 : Below w.heap.size w W18 := (hb16.trans (b17.mono hb16.size)).trans (b18.mono (hb16.trans (b17.mono hb16.size)).size)
          have z4' : ∀ W, Below W18.heap.size W18 W → Calls Tryz.prog 16 #[.pointer (some ⟨r4, 0, none⟩), .agg #[.int .i64 1, .string ⟨#[64, 97]⟩, .int .i64 a]] W fun e w' => e = .returned (.string T1) ∧ Below W.heap.size W w' := fun W hb => (by rw [HT3.out]; exact HZZ.out r4 lb v17 HGB.out.2 h4 W (b18.trans (hb.mono b18.size)))
          have HZ4 : Hid _ := z4'
          have HCL : Hid _ := hcl
          have HB18 : Hid _ := hb18
          clear hcl hn18 h3 h4 hb18 b18 hb16 hb15 b16 b17 z4'
          generalize v17.heap.size = tb at *
          obtain ⟨c18a, c18b, c18c⟩ := c18
          go_region_with (first
            | (go_at_call 16; refine (z10 _ (by first | exact Below.refl _ _ | exact (Below.refl _ W18).drew)).mono ?_; clear z10; rintro e W19 ⟨rfl, hb19⟩; have hb19' : Below W18.heap.size W18 W19 := ((Below.refl _ W18).drew).trans hb19; obtain ⟨c19a, c19b, c19c⟩ := HCL.out W19 hb19'; have z11 := HZ4.out W19 hb19')
            | (go_at_call 16; refine z11.mono ?_; clear z11; rintro e W20 ⟨rfl, hb20⟩; have hb20' : Below W18.heap.size W18 W20 := hb19'.trans (hb20.mono hb19'.size))
            | fail)
          all_goals
            go_wp2
            all_goals
              go_ret
              exact ⟨rfl, HB18.out.trans (hb20'.mono HB18.out.size)⟩
        · have hrb := HRB.out false (by symm; exact decide_eq_false (fun e => hmac (HTQ.out.2 e)))
          have HRB2 : Hid _ := hrb
          clear hrb HRB HTQ
          go_upto_region 38 with (first
            | (go_at_call 8; refine q3.mono ?_; clear q3; rintro e v12 ⟨k3, rfl, p3, b12⟩; have Q := Tryz.Q9.made HKH.out p3 b12; have z5 : Calls Tryz.prog 11 #[.pointer (some ⟨k0, 0, none⟩), .string ⟨#[64, 97]⟩, .int .i64 0] v12 fun e w' => e = .returned (.tuple #[.string T1, .int .i64 0]) ∧ Tryz.Q9 w w' k0 k3 la lb ⟨a, b, c, 0, 1⟩ [(X, X.1.t)] (some X) := (by rw [HT1.out, ← HX.out]; exact Q.issue HM.out HL.out.2 X HX.out); clear Q p3 b12)
            | (go_at_call 11; refine z5.mono ?_; clear z5; rintro e v13 ⟨rfl, Q⟩; have z6 := Q.check m1' HX.out T1 HRT.out; clear Q)
            | (go_at_call 12; refine z6.mono ?_; clear z6; rintro e v14 ⟨rfl, Q⟩; have z7 : Calls Tryz.prog 12 #[.pointer (some ⟨k3, 0, none⟩), .string T1, .int .i64 0] v14 fun e w' => e = .returned (.tuple #[.string ⟨#[]⟩, .int .i64 170]) ∧ Below w.heap.size w w' := Q.other T1 X (by rw [HX.out]; show 0 < a; omega) false HRB2.out; clear Q)
            | (go_at_call 12; refine z7.mono ?_; clear z7; rintro e v15 ⟨rfl, hb15⟩; have cvA := Tryz.conv_bs (HA.out v15 hb15).1; have z8 := Tryz.rNew_yes ⟨la.toArray⟩ HL.out.1 HL.out.2 10 1 1 HMB.out v15)
            | (go_at_call 14; refine z8.mono ?_; clear z8 cvA; rintro e v16 ⟨r3, rfl, h3, _, b16⟩; have hb16 := hb15.trans (b16.mono hb15.size); have cvB := Tryz.conv_bs (HB.out v16 hb16).1; have z9 := Tryz.rNew_yes ⟨lb.toArray⟩ HGB.out.1 HGB.out.2 10 1 1 HMB.out v16)
            | (go_at_call 14; refine z9.mono ?_; clear z9 cvB; rintro e v17 ⟨r4, rfl, h4, _, b17⟩)
            | fail)
          obtain ⟨W18, hW18⟩ : ∃ W, W = v17.alloc (.cells #[.int .i64 1, .string ⟨#[64, 97]⟩, .int .i64 a] 43) := ⟨_, rfl⟩
          have b18 : Below v17.heap.size v17 W18 := by rw [hW18]; exact (Below.refl _ v17).alloc (Nat.le_refl _) _
          have hn18 : W18.heap[v17.heap.size]? = some (.cells #[.int .i64 1, .string ⟨#[64, 97]⟩, .int .i64 a] 43 (0, 0)) := by rw [hW18]; exact heap_alloc_new v17 _
          rw [← hW18]
          clear hW18
          have hcl : ∀ W, Below W18.heap.size W18 W → W.cell? ⟨v17.heap.size, 0, none⟩ = some (.int .i64 1) ∧ W.cell? ⟨v17.heap.size, 1, none⟩ = some (.string ⟨#[64, 97]⟩) ∧ W.cell? ⟨v17.heap.size, 2, none⟩ = some (.int .i64 a) := fun W hb => by
            have h := (hb.block _ (block_lt hn18)).trans hn18
            exact ⟨cell_of_row W _ 0 _ _ _ h, cell_of_row W _ 1 _ _ _ h, cell_of_row W _ 2 _ _ _ h⟩
          have c18 := hcl W18 (Below.refl _ _)
          have z10 := fun W (hb : Below W18.heap.size W18 W) => HZZ.out r3 la v16 HL.out.2 h3 W ((b17.trans (b18.mono b17.size)).trans (hb.mono (b17.trans (b18.mono b17.size)).size))
          rw [← HT1.out] at z10
          have hb18 : Below w.heap.size w W18 := (hb16.trans (b17.mono hb16.size)).trans (b18.mono (hb16.trans (b17.mono hb16.size)).size)
          have z4' : ∀ W, Below W18.heap.size W18 W → Calls Tryz.prog 16 #[.pointer (some ⟨r4, 0, none⟩), .agg #[.int .i64 1, .string ⟨#[64, 97]⟩, .int .i64 a]] W fun e w' => e = .returned (.string T3) ∧ Below W.heap.size W w' := fun W hb => (by rw [HT3.out]; exact HZZ.out r4 lb v17 HGB.out.2 h4 W (b18.trans (hb.mono b18.size)))
          have HZ4 : Hid _ := z4'
          have HCL : Hid _ := hcl
          have HB18 : Hid _ := hb18
          clear hcl hn18 h3 h4 hb18 b18 hb16 hb15 b16 b17 z4'
          generalize v17.heap.size = tb at *
          obtain ⟨c18a, c18b, c18c⟩ := c18
          go_region_with (first
            | (go_at_call 16; refine (z10 _ (by first | exact Below.refl _ _ | exact (Below.refl _ W18).drew)).mono ?_; clear z10; rintro e W19 ⟨rfl, hb19⟩; have hb19' : Below W18.heap.size W18 W19 := ((Below.refl _ W18).drew).trans hb19; obtain ⟨c19a, c19b, c19c⟩ := HCL.out W19 hb19'; have z11 := HZ4.out W19 hb19')
            | (go_at_call 16; refine z11.mono ?_; clear z11; rintro e W20 ⟨rfl, hb20⟩; have hb20' : Below W18.heap.size W18 W20 := hb19'.trans (hb20.mono hb19'.size))
            | fail)
          all_goals
            go_wp2
            all_goals
              go_ret
              exact ⟨rfl, HB18.out.trans (hb20'.mono HB18.out.size)⟩
      · have q3 := Tryz.new_no (HB.out v11 HKH.out.bel).1 (HB.out v11 HKH.out.bel).2 HLB.out 10 1 1 (fun h => hgb h.1)
        by_cases h16 : (lb.length : Int) < 16
        all_goals
          have h64 : ¬ (lb.length : Int) < 16 → 64 < (lb.length : Int) := (by omega)
          first | (have h64' := h64 h16) | skip
          clear hgb h64
          go_wp2_with (first
            | (go_at_call 8; refine q3.mono ?_; clear q3; rintro e v12 ⟨rfl, b12⟩; have hK := HKH.out.below b12; have z5 : Calls Tryz.prog 11 #[.pointer (some ⟨k0, 0, none⟩), .string ⟨#[64, 97]⟩, .int .i64 0] v12 fun e w' => e = .returned (.tuple #[.string T1, .int .i64 0]) ∧ Tryz.KH w w' k0 la ⟨a, b, c, 0, 1⟩ [(X, X.1.t)] (some X) [] [] := (by rw [HT1.out, ← HX.out]; exact hK.issue HL.out.2 HM.out (Int.le_refl 0) (by show (0 : Int) ≤ 1000000000; decide) (Int.le_refl 0) (by show (0 : Int) < 1000000000; decide) Se.ua (by decide) (by decide) 0 (Int.le_refl 0) (by decide) (.inl ⟨rfl, rfl⟩) X (by rw [HX.out]; show _ = Tk.mk Se.ua (0 + 1) (max 0 0 + a); rw [show max (0 : Int) 0 + a = a by omega]; rfl)); clear hK b12)
            | (go_at_call 11; refine z5.mono ?_; clear z5; rintro e v13 ⟨rfl, hK⟩; have z6 : Calls Tryz.prog 12 #[.pointer (some ⟨k0, 0, none⟩), .string T1, .int .i64 0] v13 fun e w' => e = .returned (.tuple #[.string ⟨#[64, 97]⟩, .int .i64 0]) ∧ Tryz.KH w w' k0 la ⟨a, b, c, 0, 1⟩ [(X, X.1.t)] (some X) [] [] := (by rw [show (⟨#[64, 97]⟩ : ByteArray) = X.1.u by rw [HX.out]; rfl]; exact hK.good T1 0 (Int.le_refl 0) (by decide) X (by rw [HX.out]; show max 0 0 < a; omega) rfl (by rw [HX.out]; show 0 < a; omega) HRT.out (.inl ⟨rfl, rfl⟩)); clear hK)
            | (go_at_call 12; refine z6.mono ?_; clear z6; rintro e v14 ⟨rfl, hK⟩)
            | fail)
          go_ret
          exact ⟨rfl, hK.bel⟩
theorem Tryz.sessionKeysWalk {w : World} {VA VB : Value} {la lb : List UInt8} (hA : Bs w VA la) (hvA : ∀ k, VA.ownBlock = some k → k < w.heap.size) (hlA : la.length ≤ 140737488355328) (hB : Bs w VB lb) (hvB : ∀ k, VB.ownBlock = some k → k < w.heap.size) (hlB : lb.length ≤ 140737488355328) (a b c : Int) (hT : Tryz.Tq w) :
    Calls Tryz.prog 5 #[VA, VB, .int .i64 a, .int .i64 b, .int .i64 c] w fun e w' => e = .returned (.bool true) ∧ Below w.heap.size w w' := by
  by_cases h : (16 ≤ la.length ∧ la.length ≤ 64) ∧ Se.Nu.May ⟨a, b, c, 0, 0⟩
  · exact Tryz.keys_good hA hvA hB hvB hlB a b c h.1 h.2 hT
  · exact Tryz.keys_not hA hvA hlA a b c h hT
end Go.Proofs
