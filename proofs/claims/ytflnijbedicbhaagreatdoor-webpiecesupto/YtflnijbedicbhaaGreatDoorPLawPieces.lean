/-
  Laid together by packg.py of LawPieces.
-/
import Derived.Test.YtflnijbedicbhaaGreatDoorPwE
namespace Go.Proofs
open Go.RowKit Go.Wi Go.Wb
set_option maxRecDepth 20000 in
set_option maxHeartbeats 4000000 in
theorem Tryz.webPieces_go {w : World} (s more : List UInt8) (hs : s.length ≤ 1048576) (hmo : more.length ≤ 1048576) {C : Value} {cs : List Int} (hC : Qu.Iv w C cs) (hcl : cs.length ≤ 9223372036854775807) (htab : Lib.TabIs Tryz.prog w "internal/strconv.uint64pow10" .u64 Lib.pow10Tab) :
    Calls Tryz.prog 5 #[.string ⟨s.toArray⟩, C, .string ⟨more.toArray⟩] w fun e w' => e = .returned (.bool true) ∧ Below w.heap.size w w' := by
  have k0 := Tryz.shown_any htab
  have kn := Tryz.newParser_any
  have hcv := Tryz.conv_text s
  have HC : Hid _ := hC
  obtain ⟨ac, cc, eC, hcx⟩ := hC.ex
  subst eC
  clear htab hcx hC
  have KF : Hid (∀ (W : World) (b : Nat), Tryz.Ms 82 W (fun k => k = b) b (newReq 0) → Calls Tryz.prog 15 #[.pointer (some ⟨b, 0, none⟩), .slice (some ⟨W.heap.size, 0, none⟩) s.length (grownCap W s.length 0 5)] (Lib.bytesWorld W 5 ⟨s.toArray⟩) fun e w' => ∃ ad n cap ev own', e = .returned (.tuple #[.slice ad n cap, ev]) ∧ Tryz.Fed (fun k => k = b) (Lib.bytesWorld W 5 ⟨s.toArray⟩) w' b (fd (newReq 0) s).2 (.slice ad n cap) ev (fd (newReq 0) s).1 own') := fun W b h => Tryz.feed_text h (good_newReq 0) s (by show 0 + s.length ≤ _; omega) (by omega)
  go_enter Tryz.func5, Tryz.ntmps5
  go_upto_region 7 with (first
    | (go_at_call 7; refine k0.mono ?_; clear k0; rintro e w1 ⟨rfl, hb1⟩; have kn1 := kn w1)
    | (go_at_call 12; refine kn1.mono ?_; clear kn1; rintro e w2 ⟨bp, rfl, hbp, hMp, hb2⟩; have kn2 := kn w2)
    | (go_at_call 12; refine kn2.mono ?_; clear kn2 kn; rintro e w3 ⟨bo, rfl, hbo, hMo, hb3⟩; have kf := KF.out w3 bp (hMp.below hb3); clear KF)
    | (go_at_call 15; refine kf.mono ?_; clear kf hcv; rintro e w5 ⟨adW, nW, capW, ev, oP, rfl, hF⟩)
    | fail)
  have hbW := bytesW_below w3 5 ⟨s.toArray⟩
  have hB3 : Below w.heap.size w w3 := hb1.trans ((hb2.trans (hb3.mono hb2.size)).mono hb1.size)
  have hB4 : Below w.heap.size w (Lib.bytesWorld w3 5 ⟨s.toArray⟩) := hB3.trans (hbW.mono hB3.size)
  have hMo4 := hMo.below hbW
  have hevs := Tryz.fed_ev hF
  have HEV : Hid (Tryz.Ev w5 (fd (newReq 0) s).2 ev) := hevs
  have hs1 := hb1.size
  have hs2 := hb2.size
  have hlp := Tryz.ms_lt hMp bp rfl
  have hB5 : Below w.heap.size w w5 := Wo.toBelow hB4 hF.wo (fun k e => by rw [e]; omega) hB4.size
  have HPS : Hid (∀ (w6 : World) (VL : Value) (L : List (List UInt8)), w6.ownsRow w5.heap.size 9 1 VL L.length (strCells L) → Below w5.heap.size w5 w6 → Tryz.PS w w6 oP (fun k => k = bo) bp bo (fd (newReq 0) s).2 (newReq 0) (.slice adW nW capW) VL (.slice none 0 0) (fd (newReq 0) s).1 L []) := fun w6 VL L hr hb => Tryz.ps_start hB4 (by omega) (by omega) (by omega) hMo4 hF hr hb
  have HB5 : Hid _ := hB5
  have HC5 := HC.out.keep hB5
  have hcp := HC5.cp _ _ _ rfl
  clear hbW hMo4 hMo hMp hF hb1 hb2 hb3 hB3 hB4 hs1 hs2 hlp hbp hbo hevs hB5
  go_upto_if 56 with (fail)
  go_cut [1] (fun cv wx => wx = w5 ∧ ∃ cs', Qu.Iv w5 cv cs' ∧ cs'.length ≤ 300)
  case first =>
    by_cases h3 : cs.length > 300
    · have q : (cs.length : Int) > 300 := by omega
      have h300 : 300 ≤ cc := by omega
      obtain ⟨g, o, eg, -⟩ : ∃ g o, ac = some ⟨g, o, none⟩ ∧ True := by
        obtain ⟨a', c', e, hx⟩ := HC5.ex
        injection e with e1 e2 e3
        rcases hx with e0 | ⟨g, o, e, -⟩
        · rw [e0] at h3; simp at h3
        · exact ⟨g, o, by rw [e1]; exact e, trivial⟩
      subst eg
      go_wp2
      go_meet
      exact ⟨rfl, cs.take 300, HC5.first (m := 300) (by omega), by rw [List.length_take]; omega⟩
    · have q : ¬ (cs.length : Int) > 300 := by omega
      go_wp2
      go_meet
      exact ⟨rfl, cs, HC5, by omega⟩
  case rest =>
  obtain ⟨rfl, cs', hC', hcl'⟩ := hcut
  have kp := Tryz.pieces_any hC' (by omega) s (by omega)
  obtain ⟨ac', cc', eC', -⟩ := hC'.ex
  have hfl := pieces_flat s cs'
  have hLl := pieces_len s cs'
  generalize hL0 : piecesL s cs' = L at *
  subst eC'
  clear hL0 hC' HC5 HC hcp
  go_upto_region 12 with (first
    | (go_at_call 13; refine kp.mono ?_; clear kp; rintro e w6 ⟨VL, rfl, hrow, hb6⟩; have kfa := Tryz.fault_any (Tryz.ev_below HEV.out hb6))
    | (go_at_call 17; refine kfa.mono ?_; clear kfa; rintro e w7 ⟨rfl, n7, rfl⟩)
    | fail)
  have hps := Tryz.ps_below (HPS.out w6 VL L hrow hb6) (belowN (Below.refl _ w6) n7)
  have hSs := Ss.ofRow hps.row
  obtain ⟨adL, capL, eL, -⟩ := hSs.ex
  subst eL
  have hL0 : L.length ≤ 301 := by omega
  have HFL : Hid (L.flatten = s) := hfl
  generalize w6.drewN n7 = w7 at *
  have HI : Hid (∃ (i : Nat) (oO : Nat → Prop) (cm : List (Value × List Rq)) (mO : Msg), (Value.int .i64 0 = .int .i64 i) ∧ i ≤ L.length ∧ (Value.int .i64 0 = .int .i64 (Wb.plc mO)) ∧ (Value.int .i64 0 = .int .i64 mO.fErr) ∧ Tryz.PS w w7 oP oO bp bo (fd (newReq 0) s).2 mO (.slice adW nW capW) (.slice adL L.length capL) (.slice none 0 0) (fd (newReq 0) s).1 L cm ∧ cm.length = i ∧ (cm.map (·.2)).flatten = (fd (newReq 0) (L.take i).flatten).1 ∧ mO = (fd (newReq 0) (L.take i).flatten).2) := ⟨0, _, [], newReq 0, rfl, Nat.zero_le _, rfl, rfl, hps, rfl, rfl, rfl⟩
  clear hps hSs hrow hb6 HPS hfl hLl hcl' HB5
  go_wp2
  go_loopw [12, 17, 18, 19] (fun cv pv ev iv wr => ∃ (i : Nat) (oO : Nat → Prop) (cm : List (Value × List Rq)) (mO : Msg), iv = .int .i64 i ∧ i ≤ L.length ∧ pv = .int .i64 (Wb.plc mO) ∧ ev = .int .i64 mO.fErr ∧ Tryz.PS w wr oP oO bp bo (fd (newReq 0) s).2 mO (.slice adW nW capW) (.slice adL L.length capL) cv (fd (newReq 0) s).1 L cm ∧ cm.length = i ∧ (cm.map (·.2)).flatten = (fd (newReq 0) (L.take i).flatten).1 ∧ mO = (fd (newReq 0) (L.take i).flatten).2) (fun _ _ _ iv _ => L.length - (intOf iv).toNat)
  case atStart => exact HI.out
  case round =>
    clear HI
    obtain ⟨i, oO, cm, mO, rfl, hi, rfl, rfl, hps, hcm, hrs, hmO⟩ := hrel
    have hfi := fi_new.fd (L.take i).flatten
    rw [← hmO] at hfi
    have hfa := flat_len L i
    rw [HFL.out] at hfa
    by_cases hlt : i < L.length
    · have q : (i : Int) < (L.length : Int) := by omega
      have hfn := flat_next hlt
      have hfb := flat_len L (i + 1)
      rw [HFL.out, hfn, List.length_append] at hfb
      obtain ⟨g, eg, c0⟩ : ∃ g, adL = some ⟨g, 0, none⟩ ∧ wr.cell? ⟨g, i, none⟩ = some (.string ⟨L[i].toArray⟩) := by
        obtain ⟨ad, cap, e, hx⟩ := (Ss.ofRow hps.row).ex
        injection e with e1 e2 e3
        rcases hx with e0 | ⟨g, e, hg, hc⟩
        · rw [e0] at hlt; cases hlt
        · exact ⟨g, by rw [e1]; exact e, hc i hlt⟩
      subst eg
      have hcv := Tryz.conv_text L[i]
      have hat := hfi.at_
      have kf := Tryz.feed_text hps.pO hfi.good L[i] (by omega) (by omega)
      have hpw := Tryz.ps_below hps (bytesW_below wr 5 ⟨L[i].toArray⟩)
      have happ := fd_app (newReq 0) (L.take i).flatten L[i]
      rw [← hfn, ← hmO, ← hrs] at happ
      have hnl := fd_len mO L[i]
      have HAPP : Hid _ := happ
      have HPW : Hid _ := hpw
      have HCM : Hid (cm.length = i) := hcm
      have HL0 : Hid (L.length ≤ 301) := hL0
      have hib : i ≤ 301 := by omega
      have hov : mO.fErr ≠ 0 → fd mO L[i] = ([], mO) := fun e => by
        rcases hfi.err with e1 | ⟨e1, _⟩
        · exact absurd e1 e
        · exact fd_over e1 _
      clear hps hfi hfa hfb hfn happ hpw hat hrs hmO hcm hL0 hnl
      generalize L[i] = li at *
      by_cases hz : mO.fErr = 0
      · have e0 : ((mO.fErr : Nat) : Int) = 0 := by rw [hz]; rfl
        rw [e0]
        clear hov
        generalize fd mO li = F at *
        go_wp2_with (first
          | (go_at_call 15; refine kf.mono ?_; clear kf hcv; rintro e w8 ⟨adM, nM, capM, ev', oO', rfl, hF⟩; obtain ⟨hps8, hrl8⟩ := Tryz.ps_fed HPW.out hF; have kfa := Tryz.fault_any (Tryz.fed_ev hF); clear hF HPW)
          | (go_at_call 17; refine kfa.mono ?_; clear kfa; rintro e w9 ⟨rfl, n9, rfl⟩; have hps9 := Tryz.ps_below hps8 (belowN (Below.refl _ w8) n9); have hrl9 := hrl8.keep (w' := w8.drewN n9) fun k _ hp => ⟨rfl, hp⟩; have HP9 : Hid _ := hps9; have HR9 : Hid _ := hrl9; clear hps8 hrl8 hps9 hrl9)
          | (at_builtin; refine Tryz.appRow rfl _ _ rfl HP9.out.came HP9.out.bel.size rfl rfl (by simp) adM nM capM (by have := HCM.out; have := HL0.out; omega) ?_; intro g1 cap1 w10 hr10 hg10 hw10)
          | fail)
        go_roundw
        case rel => exact ⟨i + 1, oO', cm ++ [(_, F.1)], F.2, by simp, by omega, rfl, rfl, Tryz.ps_app HP9.out HR9.out rfl hr10 hg10 hw10, by rw [List.length_append, HCM.out]; rfl, by rw [HAPP.out]; simp, by rw [HAPP.out]⟩
        case measure => simp [intOf]; omega
      · have e0 : ¬ ((mO.fErr : Nat) : Int) = 0 := by omega
        rw [hov hz] at kf HAPP
        clear hov
        go_wp2_with (first
          | (go_at_call 15; refine kf.mono ?_; clear kf hcv; rintro e w8 ⟨adM, nM, capM, ev', oO', rfl, hF⟩; obtain ⟨hps8, hrl8⟩ := Tryz.ps_fed HPW.out hF; have kfa := Tryz.fault_any (Tryz.fed_ev hF); clear hF HPW; obtain ⟨adM', capM', eM⟩ := Tryz.rl_is hrl8; injection eM with eM1 eM2 eM3; have eM4 : nM = 0 := eM2; subst eM4; clear eM1 eM2 eM3)
          | (go_at_call 17; refine kfa.mono ?_; clear kfa; rintro e w9 ⟨rfl, n9, rfl⟩; have hps9 := Tryz.ps_below hps8 (belowN (Below.refl _ w8) n9); have hrl9 := hrl8.keep (w' := w8.drewN n9) fun k _ hp => ⟨rfl, hp⟩; have HP9 : Hid _ := hps9; have HR9 : Hid _ := hrl9; clear hps8 hrl8 hps9 hrl9)
          | (at_builtin; refine Tryz.appRow rfl _ _ rfl HP9.out.came HP9.out.bel.size rfl rfl (by simp) adM 0 capM (by have := HCM.out; have := HL0.out; omega) ?_; intro g1 cap1 w10 hr10 hg10 hw10)
          | fail)
        go_roundw
        case rel => exact ⟨i + 1, oO', cm ++ [(_, [])], mO, by simp, by omega, rfl, rfl, Tryz.ps_app HP9.out HR9.out rfl hr10 hg10 hw10, by rw [List.length_append, HCM.out]; rfl, by rw [HAPP.out]; simp, by rw [HAPP.out]⟩
        case measure => simp [intOf]; omega
    · have q : ¬ (i : Int) < (L.length : Int) := by omega
      have hfs : (L.take i).flatten = s := (flat_all (by omega)).trans HFL.out
      rw [hfs] at hmO hrs hfi
      rw [← hmO, ← hrs] at hps
      rw [← hmO]
      obtain ⟨adC, capC, eC⟩ : ∃ ad cap, u12 = .slice ad cm.length cap := by
        rcases hps.came.2 with ⟨e, e0⟩ | ⟨g, cap, cur, e, -⟩
        · exact ⟨none, 0, by rw [e0]; exact e⟩
        · exact ⟨_, _, e⟩
      subst eC
      have hrl : (cm.map (·.2)).flatten.length ≤ 1048576 := by have := fd_len (newReq 0) s; rw [← hrs] at this; omega
      have HPS : Hid _ := hps
      have HFI : Hid (Fi mO (0 + s.length)) := hfi
      have HMO : Hid (mO = (fd (newReq 0) s).2) := hmO
      have hcl2 : cm.length ≤ 301 := by omega
      clear hps hfi hfs hmO hrs hcm hfa hL0
      generalize hRR : (cm.map (·.2)).flatten = RR at *
      have HRR : Hid ((cm.map (·.2)).flatten = RR) := hRR
      clear hRR
      obtain ⟨wB, hwB⟩ : ∃ x, x = wr := ⟨wr, rfl⟩
      subst hwB
      have HI : Hid (∃ j : Nat, (Value.int .i64 0 = .int .i64 j) ∧ j ≤ cm.length ∧ Tryz.Rt wB wB.heap.size (.slice none 0 0) ((cm.map (·.2)).take j).flatten ∧ Below wB.heap.size wB wB) := ⟨0, rfl, Nat.zero_le _, Tryz.Rt.none _ _, Below.refl _ _⟩
      go_wp2
      go_loopw [25, 26] (fun tv iv wx => ∃ j : Nat, iv = .int .i64 j ∧ j ≤ cm.length ∧ Tryz.Rt wx wB.heap.size tv ((cm.map (·.2)).take j).flatten ∧ Below wB.heap.size wB wx) (fun _ iv _ => cm.length - (intOf iv).toNat)
      case atStart => exact HI.out
      case round =>
        clear HI
        obtain ⟨j, rfl, hj, hrt, hbx⟩ := hrel
        have hfa := flat_len (cm.map (·.2)) j
        rw [HRR.out] at hfa
        by_cases hlt2 : j < cm.length
        · have q2 : (j : Int) < (cm.length : Int) := by omega
          have hlm : j < (cm.map (·.2)).length := by rw [List.length_map]; exact hlt2
          have hfn := flat_next hlm
          have hfb := flat_len (cm.map (·.2)) (j + 1)
          rw [HRR.out, hfn, List.length_append] at hfb
          rw [List.getElem_map] at hfn hfb
          have hrj := HPS.out.each cm[j] (List.getElem_mem hlt2)
          obtain ⟨adj, capj, ej⟩ := Tryz.rl_is hrj
          obtain ⟨g, eg, c0⟩ : ∃ g, adC = some ⟨g, 0, none⟩ ∧ wr.cell? ⟨g, j, none⟩ = some cm[j].1 := by
            rcases HPS.out.came.2 with ⟨e, e0⟩ | ⟨g, cap, cur, e, hB, hg, k1, k2, k3, k4⟩
            · omega
            · injection e with e1 e2 e3
              refine ⟨g, e1, ?_⟩
              rw [hbx.cell (p := ⟨g, j, none⟩) (block_lt hg), cell_of_row _ _ _ _ _ _ hg]
              have : (cm.map (·.1))[j]? = some cm[j].1 := by simp [hlt2]
              rw [← k4, List.getElem?_take, if_pos (by omega)] at this
              rw [← Array.getElem?_toList]
              exact this
          subst eg
          rw [ej] at c0 hrj
          have hY := hrj.keep (w' := wr) (P' := fun k => k < wB.heap.size) fun k hk _ => ⟨hbx.block k hk, hk⟩
          have HY : Hid _ := hY
          have HRT : Hid _ := hrt
          have HBX : Hid _ := hbx
          have HFN : Hid (((cm.map (·.2)).take (j + 1)).flatten = ((cm.map (·.2)).take j).flatten ++ cm[j].2) := hfn
          have HLN : Hid (((cm.map (·.2)).take j).flatten.length + cm[j].2.length ≤ 100000000) := (by show _ ≤ _; omega)
          clear hrj hY hrt hbx hfn hfb hfa hlm ej
          generalize cm[j].2 = rj at *
          go_wp2_with (first
            | (at_builtin; refine Tryz.appReqs rfl _ _ rfl HRT.out HBX.out.size rfl HY.out (fun k e => e) rfl HLN.out ?_; intro v' w' hrt' hb')
            | fail)
          go_roundw
          case rel => exact ⟨j + 1, by simp, by omega, by rw [HFN.out]; exact hrt', HBX.out.trans hb'⟩
          case measure => simp [intOf]; omega
        · have q2 : ¬ (j : Int) < (cm.length : Int) := by omega
          have hfs : ((cm.map (·.2)).take j).flatten = RR := (flat_all (by rw [List.length_map]; omega)).trans HRR.out
          rw [hfs] at hrt
          have hpt := Tryz.rt_rl hrt
          obtain ⟨adT, capT, eT⟩ := Tryz.rl_is hpt
          subst eT
          obtain ⟨adW', capW', eW⟩ := Tryz.rl_is HPS.out.whole
          injection eW with eW1 eW2 eW3
          subst eW2
          have hpx := Tryz.ps_below HPS.out hbx
          have hfat := HFI.out.at_
          have hfbg := HFI.out.beg
          have ka := Tryz.waits_any hpx.pP (by omega) (by omega)
          have HPX : Hid _ := hpx
          have HPT : Hid _ := hpt
          clear hpx hpt hrt hbx hfa hfs HPS eW1 eW3
          go_upto_region 31 with (first
            | (go_at_call 16; refine ka.mono ?_; clear ka; rintro e wa ⟨rfl, na, rfl⟩; have kb := Tryz.waits_any (HPX.out.pO.below (belowN (Below.refl _ wr) na)) (by omega) (by omega))
            | (go_at_call 16; refine kb.mono ?_; clear kb; rintro e wb ⟨rfl, nb, rfl⟩)
            | fail)
          have hbD : Below wr.heap.size wr (wr.drewN (na + nb)) := belowN (Below.refl _ wr) (na + nb)
          have hpd := Tryz.ps_below HPX.out hbD
          have htd := HPT.out.keep (w' := wr.drewN (na + nb)) (P' := fun _ => True) fun k hk _ => ⟨hbD.block k hk, trivial⟩
          generalize wr.drewN (na + nb) = wD at *
          have HPD : Hid _ := hpd
          have HTD : Hid _ := htd
          clear hpd htd hbD HPX HPT
          have HI : Hid (∃ k : Nat, (Value.int .i64 0 = .int .i64 k) ∧ k ≤ RR.length ∧ Below wD.heap.size wD wD) := ⟨0, rfl, Nat.zero_le _, Below.refl _ _⟩
          go_wp2
          go_loopw [27] (fun iv wx => ∃ k : Nat, iv = .int .i64 k ∧ k ≤ RR.length ∧ Below wD.heap.size wD wx) (fun iv _ => RR.length - (intOf iv).toNat)
          case atStart => exact HI.out
          case round =>
            clear HI
            obtain ⟨k, rfl, hk, hbx⟩ := hrel
            by_cases hlt3 : k < RR.length
            · have q3 : (k : Int) < (RR.length : Int) := by omega
              have hw3 := HPD.out.whole.keep (w' := wr) (P' := fun _ => True) fun x hx _ => ⟨hbx.block x hx, trivial⟩
              have ht3 := HTD.out.keep (w' := wr) (P' := fun _ => True) fun x hx _ => ⟨hbx.block x hx, trivial⟩
              obtain ⟨g1, cp1, p1, ex1, hg1, -, hq1, hat1⟩ := Tryz.rl_at hw3 hlt3
              obtain ⟨g2, cp2, p2, ex2, hg2, -, hq2, hat2⟩ := Tryz.rl_at ht3 hlt3
              injection ex1 with ea1 eb1 ec1
              injection ex2 with ea2 eb2 ec2
              subst ea1 ea2
              have HK : Hid (∀ W, Below wr.heap.size wr W → Calls Tryz.prog 18 #[.agg p1.cells.toArray, .agg p2.cells.toArray] W fun e w' => e = .returned (.bool true) ∧ Below wr.heap.size wr w') := fun W hW => by
                refine (Tryz.same_any (hat1.ok.keep (w' := W) (P' := fun _ => True) fun x hx _ _ => ⟨hW.block x hx, trivial⟩) (hat2.ok.keep (w' := W) (P' := fun _ => True) fun x hx _ _ => ⟨hW.block x hx, trivial⟩) (hq1.trans hq2.symm) ?_).mono fun e w' ⟨a1, a2⟩ => ⟨a1, hW.trans (a2.mono hW.size)⟩
                have h1 := hat1.ok.heads.1
                rcases hat1.ok.heads.2 with ⟨_, e0⟩ | ⟨_, cap', _, _, _, _, h3, h4, _⟩
                · omega
                · unfold maxLen at h4; omega
              have HC1 : Hid (∀ W, Below wr.heap.size wr W → W.cell? ⟨g1, k * 5, none⟩ = some (.string ⟨p1.rq.method.toArray⟩) ∧ W.cell? ⟨g1, k * 5 + 1, none⟩ = some (.string ⟨p1.rq.target.toArray⟩) ∧ W.cell? ⟨g1, k * 5 + 2, none⟩ = some p1.vh ∧ W.cell? ⟨g1, k * 5 + 3, none⟩ = some p1.vb ∧ W.cell? ⟨g1, k * 5 + 4, none⟩ = some (.bool p1.rq.last)) := fun W hW => ⟨(hW.cell (p := ⟨g1, _, none⟩) hg1).trans hat1.c0, (hW.cell (p := ⟨g1, _, none⟩) hg1).trans hat1.c1, (hW.cell (p := ⟨g1, _, none⟩) hg1).trans hat1.c2, (hW.cell (p := ⟨g1, _, none⟩) hg1).trans hat1.c3, (hW.cell (p := ⟨g1, _, none⟩) hg1).trans hat1.c4⟩
              have HC2 : Hid (∀ W, Below wr.heap.size wr W → W.cell? ⟨g2, k * 5, none⟩ = some (.string ⟨p2.rq.method.toArray⟩) ∧ W.cell? ⟨g2, k * 5 + 1, none⟩ = some (.string ⟨p2.rq.target.toArray⟩) ∧ W.cell? ⟨g2, k * 5 + 2, none⟩ = some p2.vh ∧ W.cell? ⟨g2, k * 5 + 3, none⟩ = some p2.vb ∧ W.cell? ⟨g2, k * 5 + 4, none⟩ = some (.bool p2.rq.last)) := fun W hW => ⟨(hW.cell (p := ⟨g2, _, none⟩) hg2).trans hat2.c0, (hW.cell (p := ⟨g2, _, none⟩) hg2).trans hat2.c1, (hW.cell (p := ⟨g2, _, none⟩) hg2).trans hat2.c2, (hW.cell (p := ⟨g2, _, none⟩) hg2).trans hat2.c3, (hW.cell (p := ⟨g2, _, none⟩) hg2).trans hat2.c4⟩
              have ep1 : p1.cells.toArray = #[.string ⟨p1.rq.method.toArray⟩, .string ⟨p1.rq.target.toArray⟩, p1.vh, p1.vb, .bool p1.rq.last] := rfl
              have ep2 : p2.cells.toArray = #[.string ⟨p2.rq.method.toArray⟩, .string ⟨p2.rq.target.toArray⟩, p2.vh, p2.vb, .bool p2.rq.last] := rfl
              rw [ep1, ep2] at HK
              have HBX : Hid _ := hbx
              clear hw3 ht3 hat1 hat2 hq1 hq2 ep1 ep2 hbx eb1 eb2 ec1 ec2
              simp only [Pr.vh, Pr.vb] at HK HC1 HC2
              generalize p1.rq = r1 at *
              generalize p2.rq = r2 at *
              generalize p1.ah = ah1 at *
              generalize p1.ch = ch1 at *
              generalize p1.ab = ab1 at *
              generalize p1.cb = cb1 at *
              generalize p2.ah = ah2 at *
              generalize p2.ch = ch2 at *
              generalize p2.ab = ab2 at *
              generalize p2.cb = cb2 at *
              go_upto_region 34 with (fail)
              refine wp_region_quiet (C := fun W => Below wr.heap.size wr W) (by kernel_rfl) (by kernel_rfl) (belowN (Below.refl _ wr) 1) ?_
              dsimp only
              refine Go.Wb.q_valW (v := .slice (some ⟨g1, 0, none⟩) RR.length capW) (by kernel_rfl) (fun W _ => by go_simp) ?_
              try simp only [Act.put, List.setIfInBounds_toArray, List.set_cons_zero, List.set_cons_succ]
              refine Go.Wb.q_valW (v := .int .i64 k) (by kernel_rfl) (fun W _ => by go_simp) ?_
              try simp only [Act.put, List.setIfInBounds_toArray, List.set_cons_zero, List.set_cons_succ]
              refine Go.Wb.q_valW (v := .pointer (some ⟨g1, k * 5, none⟩)) (by kernel_rfl) (fun W _ => by go_simp) ?_
              try simp only [Act.put, List.setIfInBounds_toArray, List.set_cons_zero, List.set_cons_succ]
              refine Go.Wb.q_valW (v := .agg #[.string ⟨r1.method.toArray⟩, .string ⟨r1.target.toArray⟩, .slice ah1 r1.headers.length ch1, .slice ab1 r1.body.length cb1, .bool r1.last]) (by kernel_rfl) (fun W hW => by obtain ⟨x0, x1, x2, x3, x4⟩ := HC1.out W hW; go_simp) ?_
              try simp only [Act.put, List.setIfInBounds_toArray, List.set_cons_zero, List.set_cons_succ]
              refine Go.Wb.q_valW (v := .slice (some ⟨g2, 0, none⟩) RR.length capT) (by kernel_rfl) (fun W _ => by go_simp) ?_
              try simp only [Act.put, List.setIfInBounds_toArray, List.set_cons_zero, List.set_cons_succ]
              refine Go.Wb.q_valW (v := .int .i64 k) (by kernel_rfl) (fun W _ => by go_simp) ?_
              try simp only [Act.put, List.setIfInBounds_toArray, List.set_cons_zero, List.set_cons_succ]
              refine Go.Wb.q_valW (v := .pointer (some ⟨g2, k * 5, none⟩)) (by kernel_rfl) (fun W _ => by go_simp) ?_
              try simp only [Act.put, List.setIfInBounds_toArray, List.set_cons_zero, List.set_cons_succ]
              refine Go.Wb.q_valW (v := .agg #[.string ⟨r2.method.toArray⟩, .string ⟨r2.target.toArray⟩, .slice ah2 r2.headers.length ch2, .slice ab2 r2.body.length cb2, .bool r2.last]) (by kernel_rfl) (fun W hW => by obtain ⟨x0, x1, x2, x3, x4⟩ := HC2.out W hW; go_simp) ?_
              try simp only [Act.put, List.setIfInBounds_toArray, List.set_cons_zero, List.set_cons_succ]
              refine Go.Wb.q_callW (v := .bool true) (f := 18) (by kernel_rfl) (fun _ _ => by kernel_rfl) (fun W hW => HK.out W hW) ?_
              try simp only [Act.put, List.setIfInBounds_toArray, List.set_cons_zero, List.set_cons_succ]
              refine Go.Wb.q_valW (v := .bool true) (by kernel_rfl) (fun W _ => by go_simp) ?_
              try simp only [Act.put, List.setIfInBounds_toArray, List.set_cons_zero, List.set_cons_succ]
              refine wpQuiet_nil ?_
              intro W9 hW9
              go_wp2
              go_roundw
              case rel => exact ⟨k + 1, by simp, by omega, HBX.out.trans (hW9.mono HBX.out.size)⟩
              case measure => simp [intOf]; omega
            · have q3 : ¬ (k : Int) < (RR.length : Int) := by omega
              have hpx := Tryz.ps_below HPD.out hbx
              have hev := HEV.out
              rw [← HMO.out] at hev
              rcases hev with ⟨hz, rfl⟩ | ⟨hz, ge, rfl, -⟩
              · go_wp2
                go_ret
                exact ⟨rfl, hpx.bel⟩
              · have hov : over mO = true ∧ mO.fAt ≤ 0 + s.length := by
                  rcases HFI.out.err with e | e
                  · exact absurd e hz
                  · exact e
                have hcv := Tryz.conv_text more
                have kf := Tryz.feed_text hpx.pP HFI.out.good more (by omega) (by omega)
                rw [fd_over hov.1] at kf
                have hpl : Wb.plc mO = mO.fAt := if_neg hz
                have hwi : Wb.waitsI mO = 0 := if_pos hov.1
                have hle : ((mO.fAt : Nat) : Int) ≤ (s.length : Int) := by have := hov.2; omega
                have HBE : Hid (Below w.heap.size w wr) := hpx.bel
                have HPP : Hid (∀ k, oP k → w.heap.size ≤ k) := fun k e => (hpx.hP k e).1
                rw [hpl]
                clear hpx hov HPD HTD
                go_wp2_with (first
                  | (go_at_call 15; refine kf.mono ?_; clear kf hcv; rintro e w8 ⟨adM, nM, capM, ev', oP', rfl, hF⟩; have kfa := Tryz.fault_any (Tryz.fed_ev hF); rw [hpl] at kfa; obtain ⟨adM', capM', eM⟩ := Tryz.rl_is hF.rl; injection eM with eM1 eM2 eM3; have eM4 : nM = 0 := eM2; subst eM4; clear eM1 eM2 eM3; have HF : Hid _ := hF; clear hF)
                  | (go_at_call 17; refine kfa.mono ?_; clear kfa; rintro e w9 ⟨rfl, n9, rfl⟩; have kw := Tryz.waits_any (HF.out.ms.below (belowN (Below.refl _ w8) n9)) (by omega) (by omega); rw [hwi] at kw)
                  | (go_at_call 16; refine kw.mono ?_; clear kw; rintro e wa ⟨rfl, na, rfl⟩)
                  | fail)
                go_ret
                refine ⟨rfl, ?_⟩
                have hbm := bytesW_below wr 5 ⟨more.toArray⟩
                have hB1 := HBE.out.trans (hbm.mono HBE.out.size)
                exact belowN (Wo.toBelow hB1 HF.out.wo HPP.out hB1.size) (n9 + na)
theorem Tryz.webPiecesWalk (x0 : ByteArray) (u0 : x0.size ≤ 1048576) (V : Value) {w : World} (b1 : ∃ l, Qu.Iv w V l ∧ l.length ≤ 140737488351232) (x2 : ByteArray) (u2 : x2.size ≤ 1048576) (hT : Lib.TabIs Tryz.prog w "internal/strconv.uint64pow10" .u64 Lib.pow10Tab) :
    Calls Tryz.prog 5 #[.string x0, V, .string x2] w fun e w' => e = .returned (.bool true) ∧ Below w.heap.size w w' := by
  obtain ⟨l, hl, hn⟩ := b1
  exact Tryz.webPieces_go x0.data.toList x2.data.toList u0 u2 hl (by omega) hT
end Go.Proofs
