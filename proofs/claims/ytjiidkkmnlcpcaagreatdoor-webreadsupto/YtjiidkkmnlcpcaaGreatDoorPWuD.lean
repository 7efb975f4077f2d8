/-
  Laid together by packg.py of WuD.
-/
import Derived.Test.YtjiidkkmnlcpcaaGreatDoorPbA
import Derived.Test.YtjiidkkmnlcpcaaGreatDoorPaO
namespace Go.Proofs
open Go.RowKit Go.Wi Go.Wb
set_option maxRecDepth 20000 in
set_option maxHeartbeats 8000000 in
theorem Tryz.readReq_any {w : World} {s : List UInt8} (f : Nat) (hf : f ≤ s.length) (hs47 : s.length ≤ 140737488355328) :
    Calls Tryz.prog 47 #[.string ⟨s.toArray⟩, .int .i64 f, .bool false] w fun e w' => ∃ C, ∃ en at_ er : Nat, ∃ wh, e = .returned (.tuple #[.agg C, .int .i64 en, .int .i64 at_, .int .i64 er, .bool wh]) ∧ Tryz.ReqOk w w' w.heap.size s f C en at_ er wh := by
  obtain ⟨g, hg⟩ : ∃ g, w.heap.size = g := ⟨_, rfl⟩
  have HG : Hid (w.heap.size = g) := hg
  rw [hg]
  clear hg
  go_enter Tryz.func47, Tryz.ntmps47
  go_upto_region 6 with (fail)
  rw [HG.out]
  generalize hW : (((w.alloc _).alloc _).alloc _) = W0
  have H0 : Hid (Tryz.RD w W0 g s 0 0 (.ok () (s.drop f) f : Re Unit) (mCells [] [] 0 0 (.slice none 0 0) [] false)) := (by
    show Tryz.RD _ _ _ _ _ _ _ _
    rw [← hW, ← HG.out]
    have a1 := heap_alloc_new w (.cells (mCells [] [] 0 0 (.slice none 0 0) [] false) 99)
    have b1 : Below w.heap.size w (w.alloc (.cells (mCells [] [] 0 0 (.slice none 0 0) [] false) 99)) := (Below.refl _ w).alloc (Nat.le_refl _) _
    have z1 : (w.alloc (.cells (mCells [] [] 0 0 (.slice none 0 0) [] false) 99)).heap.size = w.heap.size + 1 := by simp
    generalize w.alloc (.cells (mCells [] [] 0 0 (.slice none 0 0) [] false) 99) = w1 at *
    have a2 := heap_alloc_new w1 (.cells (Sn.cells ⟨s, f, 0, 0, 0, 0, false⟩) 112)
    have b2 : Below w1.heap.size w1 (w1.alloc (.cells (Sn.cells ⟨s, f, 0, 0, 0, 0, false⟩) 112)) := (Below.refl _ w1).alloc (Nat.le_refl _) _
    have z2 : (w1.alloc (.cells (Sn.cells ⟨s, f, 0, 0, 0, 0, false⟩) 112)).heap.size = w1.heap.size + 1 := by simp
    show Tryz.RD w ((w1.alloc (.cells (Sn.cells ⟨s, f, 0, 0, 0, 0, false⟩) 112)).alloc (.cells (mCells [] [] 0 0 (.slice none 0 0) [] false) 99)) w.heap.size s 0 0 (.ok () (s.drop f) f : Re Unit) (mCells [] [] 0 0 (.slice none 0 0) [] false)
    generalize w1.alloc (.cells (Sn.cells ⟨s, f, 0, 0, 0, 0, false⟩) 112) = w2 at *
    have a3 := heap_alloc_new w2 (.cells (mCells [] [] 0 0 (.slice none 0 0) [] false) 99)
    have b3 : Below w2.heap.size w2 (w2.alloc (.cells (mCells [] [] 0 0 (.slice none 0 0) [] false) 99)) := (Below.refl _ w2).alloc (Nat.le_refl _) _
    rw [z1] at a2 z2
    rw [z2] at a3
    refine ⟨?_, ⟨⟨s, f, 0, 0, 0, 0, false⟩, ?_, ⟨rfl, rfl, rfl, by omega, hf, Nat.zero_le _, Nat.zero_le _, fun e => absurd rfl e⟩, rfl, rfl, rfl, rfl, rfl⟩, a3, ?_⟩
    · rw [b3.block _ (by omega), b2.block _ (by omega), a1]
    · show _ = _
      rw [b3.block _ (by omega), a2]
    · exact b1.trans ((b2.trans (b3.mono (by omega))).mono (by omega)))
  clear hW
  obtain ⟨A, hA⟩ : ∃ A, aheadD ((s.drop f).length + 1) (s.drop f) f = A := ⟨_, rfl⟩
  have HA : Hid (aheadD ((s.drop f).length + 1) (s.drop f) f = A) := hA
  have HAI : Hid (AIn A (.ok () (s.drop f) f) (s.drop f).length) := ⟨hA, fun u r i e => by injection e with _ e1; rw [← e1]; exact Nat.le_refl _⟩
  clear hA
  go_loopw [] (fun wr => ∃ R n, Hid (Tryz.RD w wr g s 0 0 R (mCells [] [] 0 0 (.slice none 0 0) [] false)) ∧ Hid (AIn A R n)) (fun wr => liveN s wr (g + 1))
  case atStart => exact ⟨_, _, H0, HAI⟩
  case round =>
    clear H0 HAI
    obtain ⟨R, n, H0, HAI⟩ := hrel
    have k1 := Tryz.ssNext H0.out.ss
    obtain ⟨bt, hbt⟩ : ∃ bt, byteR (bnd 0 0) R = bt := ⟨_, rfl⟩
    cases q13 : (bt == 13) with
    | false =>
      have HF : Hid (∀ w', Wo (fun k => k = g + 1) wr w' → Tryz.SS w' (g + 1) s 0 0 (peekR (bnd 0 0) R) → Tryz.RD w w' g s 0 0 A (mCells [] [] 0 0 (.slice none 0 0) [] false)) := fun w' hw h => (by
        refine Tryz.RD.call H0.out hw ?_
        rcases peek_cases (bnd 0 0) R with hb | ⟨u, d, q, i, rfl, hi, hb, hp⟩
        · rw [← HAI.out.all]
          exact Tryz.SS.dead h hb (ahead_pk n)
        · have hd : ¬ d = 13 := fun e => by rw [← hbt, hb, e] at q13; cases q13
          rw [hp] at h
          rw [← HAI.out.all, bind_ok_eq, aheadD_cons, if_neg hd]
          exact h)
      rw [hbt] at k1
      clear hbt HAI H0
      go_upto_region 6 with (first | (go_at_call 62; refine k1.mono ?_; clear k1; rintro e w1 ⟨rfl, g1, hw1, hc1⟩; have H1 : Hid (Tryz.RD w w1 g s 0 0 A (mCells [] [] 0 0 (.slice none 0 0) [] false)) := HF.out w1 hw1 g1; clear g1 hw1 hc1 HF) | fail)
      clear q13
      generalize w1 = W1 at *
      obtain ⟨st, p0, p1, pf, pl, ps, pj⟩ := Tryz.SS.place H1.out.ss
      obtain ⟨d2, d3, f2, f3⟩ := Tryz.SS.cl H1.out.ss
      have HJ : Hid (∀ u r j, A = .ok u r j → j = st) := pj
      clear p0 pf pj
      go_upto_if 41 with (fail)
      have h1 : Tryz.RD w ((W1.setCell ⟨g + 1, 2, none⟩ (.int .i64 st)).setCell ⟨g + 1, 3, none⟩ (.int .i64 2048)) g s st 2048 A (mCells [] [] 0 0 (.slice none 0 0) [] false) := Tryz.RD.call H1.out (((Wo.refl (fun k => k = g + 1) W1).setCell (g + 1) 2 _ (.inl rfl)).setCell (g + 1) 3 _ (.inl rfl)) (Tryz.SS.headAny H1.out.ss p1)
      clear H1
      generalize (W1.setCell ⟨g + 1, 2, none⟩ (.int .i64 st)).setCell ⟨g + 1, 3, none⟩ (.int .i64 2048) = W2 at *
      have H2 : Hid (Tryz.RD w W2 g s st 2048 A (mCells [] [] 0 0 (.slice none 0 0) [] false)) := h1
      clear h1 p1 d2 d3 f2 f3
      go_cut [13] (fun mv wx => mv = .int .i64 6000 ∧ ∃ me ta ver, Tryz.LnQ w wx g s st A me ta ver)
      case first =>
        have k1 := Tryz.ssToken H2.out.ss
        go_wp2_with (first
          | (go_at_call 69; refine k1.mono ?_; clear k1; rintro e w1 ⟨me, rfl, hv, g1, hw1⟩; have H3 : Hid (Tryz.RD w w1 g s st 2048 (Q1 (bnd st 2048) A) (mCells [] [] 0 0 (.slice none 0 0) [] false)) := Tryz.RD.call H2.out hw1 g1; have c0 : w1.cell? ⟨g + 1 + 1, 0, none⟩ = some (.string ⟨#[]⟩) := cell_of_row _ _ 0 _ _ _ H3.out.m; have f0 : w1.frozen? ⟨g + 1 + 1, 0, none⟩ = false := frozen_of_row _ _ 0 _ _ H3.out.m; have H4 : Hid (Tryz.RD w (w1.setCell ⟨g + 1 + 1, 0, none⟩ (.string ⟨me.toArray⟩)) g s st 2048 (Q1 (bnd st 2048) A) (mCells me [] 0 0 (.slice none 0 0) [] false)) := Tryz.RD.setm H3.out 0 _ (heap_setCell_same _ (g + 1 + 1) 0 _ _ _ H3.out.m); have k2 := Tryz.ssMust H4.out.ss 32; have HV1 : Hid (TxtOk s me (Q1 (bnd st 2048) A)) := hv; clear g1 hw1 H2 H3 hv)
          | (go_at_call 65; refine k2.mono ?_; clear k2 c0 f0; rintro e w2 ⟨⟨u2, rfl⟩, g2, hw2, hm2⟩; have H5 : Hid (Tryz.RD w w2 g s st 2048 (Q2 (bnd st 2048) A) (mCells me [] 0 0 (.slice none 0 0) [] false)) := Tryz.RD.call H4.out hw2 g2; have k3 := Tryz.ssTarget H5.out.ss; clear g2 hw2 hm2 H4)
          | (go_at_call 70; refine k3.mono ?_; clear k3; rintro e w3 ⟨ta, rfl, hv, g3, hw3⟩; have H6 : Hid (Tryz.RD w w3 g s st 2048 (Q3 (bnd st 2048) A) (mCells me [] 0 0 (.slice none 0 0) [] false)) := Tryz.RD.call H5.out hw3 g3; have c1 : w3.cell? ⟨g + 1 + 1, 1, none⟩ = some (.string ⟨#[]⟩) := cell_of_row _ _ 1 _ _ _ H6.out.m; have f1 : w3.frozen? ⟨g + 1 + 1, 1, none⟩ = false := frozen_of_row _ _ 1 _ _ H6.out.m; have H7 : Hid (Tryz.RD w (w3.setCell ⟨g + 1 + 1, 1, none⟩ (.string ⟨ta.toArray⟩)) g s st 2048 (Q3 (bnd st 2048) A) (mCells me ta 0 0 (.slice none 0 0) [] false)) := Tryz.RD.setm H6.out 1 _ (heap_setCell_same _ (g + 1 + 1) 1 _ _ _ H6.out.m); have k4 := Tryz.ssMust H7.out.ss 32; have HV3 : Hid (TxtOk s ta (Q3 (bnd st 2048) A)) := hv; clear g3 hw3 H5 H6 hv)
          | (go_at_call 65; refine k4.mono ?_; clear k4 c1 f1; rintro e w4 ⟨⟨u4, rfl⟩, g4, hw4, hm4⟩; have H8 : Hid (Tryz.RD w w4 g s st 2048 (Q4 (bnd st 2048) A) (mCells me ta 0 0 (.slice none 0 0) [] false)) := Tryz.RD.call H7.out hw4 g4; have k5 := Tryz.ssVersion H8.out.ss; clear g4 hw4 hm4 H7)
          | (go_at_call 64; refine k5.mono ?_; clear k5; rintro e w5 ⟨ver, rfl, hv, g5, hw5⟩; have H9 : Hid (Tryz.RD w w5 g s st 2048 (Q5 (bnd st 2048) A) (mCells me ta 0 0 (.slice none 0 0) [] false)) := Tryz.RD.call H8.out hw5 g5; have c3 : w5.cell? ⟨g + 1 + 1, 3, none⟩ = some (.int .i64 0) := cell_of_row _ _ 3 _ _ _ H9.out.m; have f3 : w5.frozen? ⟨g + 1 + 1, 3, none⟩ = false := frozen_of_row _ _ 3 _ _ H9.out.m; have H10 : Hid (Tryz.RD w (w5.setCell ⟨g + 1 + 1, 3, none⟩ (.int .i64 ver)) g s st 2048 (Q5 (bnd st 2048) A) (mCells me ta 0 ver (.slice none 0 0) [] false)) := Tryz.RD.setm H9.out 3 _ (heap_setCell_same _ (g + 1 + 1) 3 _ _ _ H9.out.m); have HV5 : Hid (NumOk ver 99 (Q5 (bnd st 2048) A)) := hv; clear g5 hw5 H8 H9 hv)
          | fail)
        go_meet
        exact ⟨rfl, me, ta, ver, H10.out, HV1.out, HV3.out, HV5.out⟩
      case rest =>
        obtain ⟨rfl, me, ta, ver, hln⟩ := hcut
        have HME : Hid (TxtOk s me (Q1 (bnd st 2048) A)) := hln.me
        have HTA : Hid (TxtOk s ta (Q3 (bnd st 2048) A)) := hln.ta
        have HVE : Hid (NumOk ver 99 (Q5 (bnd st 2048) A)) := hln.ver
        have k1 : Calls Tryz.prog 63 #[.pointer (some ⟨g + 1, 0, none⟩)] wc fun e w' => (∃ v, e = .returned v) ∧ Tryz.RD w w' g s st 2048 (lineQ (bnd st 2048) A) (mCells me ta 0 ver (.slice none 0 0) [] false) := by
          refine (Tryz.ssEnd hln.rd.ss).mono ?_
          rintro e w1 ⟨hv, g1, g2⟩
          exact ⟨hv, Tryz.RD.call hln.rd g2 (Tryz.SS.fit g1 (lineQ_pieces _ _))⟩
        clear hln H2
        have HRL : Hid (requD (s.drop f) f = (lineQ (bnd st 2048) A).bind fun x r j => (headersD (bnd st 2048) ((s.drop f).length + 1) [] r j).bind fun o r j => (bodyD (o.map hdOf) false (decide (x.2.2 = 11)) 6000 0 r j).bind fun y r k => .ok (st, (x.1, x.2.1, x.2.2, o), j, y) r k) := (by
          show _ = _
          rw [← HA.out]
          exact requD_line (fun u r j e => HJ.out u r j (by rw [← HA.out]; exact e)))
        have HCON : Hid (Con (lineQ (bnd st 2048) A) (s.drop f) f) := con_line _ (by rw [← HA.out]; exact con_ahead _ _ _)
        clear HA HJ
        obtain ⟨L, hL⟩ : ∃ L, lineQ (bnd st 2048) A = L := ⟨_, rfl⟩
        rw [hL] at k1 HRL HCON
        cases hdL : deadR L with
        | true =>
          have HK : Hid (∀ w', Tryz.SS w' (g + 1) s st 2048 L → Calls Tryz.prog 71 #[.pointer (some ⟨g + 1, 0, none⟩)] w' fun e w'' => e = .returned (.bool true) ∧ w'' = w') := fun w' h => (by have := Tryz.ssOver h; rw [hdL] at this; exact this)
          have HK2 : Hid (∀ w', Tryz.SS w' (g + 1) s st 0 L → Calls Tryz.prog 71 #[.pointer (some ⟨g + 1, 0, none⟩)] w' fun e w'' => e = .returned (.bool true) ∧ w'' = w') := fun w' h => (by have := Tryz.ssOver h; rw [hdL] at this; exact this)
          have HDL : Hid (deadR L = true) := hdL
          clear hL hdL
          go_upto_region 31 with (first
            | (go_at_call 63; refine k1.mono ?_; clear k1; rintro e w1 ⟨⟨v1, rfl⟩, h1⟩; have k2 := HK.out w1 h1.ss; obtain ⟨d2, d3, f2, f3⟩ := Tryz.SS.cl h1.ss; clear d2 f2 HK; have H2 : Hid (Tryz.RD w (w1.setCell ⟨g + 1, 3, none⟩ (.int .i64 0)) g s st 0 L (mCells me ta 0 ver (.slice none 0 0) [] false)) := Tryz.RD.call h1 ((Wo.refl (fun k => k = g + 1) w1).setCell (g + 1) 3 _ (.inl rfl)) (Tryz.SS.tail h1.ss); have k3 := HK2.out _ H2.out.ss; clear h1 HK2)
            | (go_at_call 71; refine k2.mono ?_; clear k2; rintro e w2 ⟨rfl, rfl⟩)
            | (go_at_call 71; refine k3.mono ?_; clear k3 d3 f3; rintro e w3 ⟨rfl, rfl⟩)
            | fail)
          generalize (w2.setCell ⟨g + 1, 3, none⟩ (.int .i64 0)) = W3 at *
          obtain ⟨x, hx1, hx2, hx3⟩ := H2.out.ss.ex
          obtain ⟨_, _, _, _, y4, y5, _⟩ := Tryz.Sc.c hx1
          have HZ : Hid _ := Tryz.RD.zeroQ H2.out HDL.out _ HRL.out hx3
          clear hx1 hx2 hx3
          have e0 := H2.out.res
          have z0 : W3.cell? ⟨g, 0, none⟩ = some (.string ⟨#[]⟩) := cell_of_row _ _ 0 _ _ _ e0
          have z1 : W3.cell? ⟨g, 1, none⟩ = some (.string ⟨#[]⟩) := cell_of_row _ _ 1 _ _ _ e0
          have z2 : W3.cell? ⟨g, 2, none⟩ = some (.int .i64 0) := cell_of_row _ _ 2 _ _ _ e0
          have z3 : W3.cell? ⟨g, 3, none⟩ = some (.int .i64 0) := cell_of_row _ _ 3 _ _ _ e0
          have z4 : W3.cell? ⟨g, 4, none⟩ = some (.slice none 0 0) := cell_of_row _ _ 4 _ _ _ e0
          have z5 : W3.cell? ⟨g, 5, none⟩ = some (.string ⟨#[]⟩) := cell_of_row _ _ 5 _ _ _ e0
          have z6 : W3.cell? ⟨g, 6, none⟩ = some (.bool false) := cell_of_row _ _ 6 _ _ _ e0
          have f0 := fun j => frozen_of_row _ _ j _ _ e0
          have f00 := f0 0
          have f01 := f0 1
          have f02 := f0 2
          have f03 := f0 3
          have f04 := f0 4
          have f05 := f0 5
          have f06 := f0 6
          clear f0 e0
          go_region
          all_goals go_wp2
          all_goals exact bodyPost_ret (results_row4 rfl _ _ g _ _ _ _ rfl HZ.out.1 Tryz.underlying99 rfl (by kernel_rfl)) rfl ⟨_, 0, _, _, _, rfl, HZ.out.2⟩
        | false =>
          cases L with
          | bad a e => cases hdL
          | more => cases hdL
          | ok vs r j =>
            obtain ⟨v1, v2, v3⟩ := vs
            obtain ⟨⟨r1, j1, hv1⟩, ⟨r2, j2, hv2⟩, r3, j3, hv3⟩ := lineQ_vals hL
            obtain rfl : me = v1 := HME.out.is _ _ _ hv1
            obtain rfl : ta = v2 := HTA.out.is _ _ _ hv2
            obtain rfl : ver = v3 := HVE.out.is _ _ _ hv3
            have HVER : Hid (ver = 10 ∨ ver = 11) := Q5_ver hv3
            have hv99 : ver ≤ 99 := HVE.out.le
            have hcon := HCON.out _ _ _ rfl
            obtain ⟨Th, hTh⟩ : ∃ Th, headersD (bnd st 2048) ((s.drop f).length + 1) [] r j = Th := ⟨_, rfl⟩
            have hFu : headersD (bnd st 2048) (s.length + 1) [] r j = Th := by rw [← hTh]; exact headers_fuel _ _ _ _ _ _ (by rw [List.length_drop] at hcon; omega) hcon.2
            have HRES : Hid (requD (s.drop f) f = Th.bind fun o r j => (bodyD (o.map hdOf) false (decide (ver = 11)) 6000 0 r j).bind fun y r k => .ok (st, (me, ta, ver, o), j, y) r k) := (by show _ = _; rw [HRL.out, bind_ok_eq, hTh])
            have HK : Hid (∀ w', Tryz.SS w' (g + 1) s st 2048 (.ok (me, ta, ver) r j : Re (List UInt8 × List UInt8 × Nat)) → Calls Tryz.prog 71 #[.pointer (some ⟨g + 1, 0, none⟩)] w' fun e w'' => e = .returned (.bool false) ∧ w'' = w') := fun w' h => (by have := Tryz.ssOver h; skip; exact this)
            clear hv1 hv2 hv3 hL hdL HRL HVE HME HTA HCON hcon
            cases hdT : deadR Th with
            | true =>
              have HK4 : Hid (∀ w', Tryz.SS w' (g + 1) s st 0 Th → Calls Tryz.prog 71 #[.pointer (some ⟨g + 1, 0, none⟩)] w' fun e w'' => e = .returned (.bool true) ∧ w'' = w') := fun w' h => (by have := Tryz.ssOver h; rw [hdT] at this; exact this)
              have HH : Hid (∀ w', Tryz.RD w w' g s st 2048 (.ok (me, ta, ver) r j : Re (List UInt8 × List UInt8 × Nat)) (mCells me ta 0 ver (.slice none 0 0) [] false) → Calls Tryz.prog 72 #[.pointer (some ⟨g + 1, 0, none⟩)] w' fun e w'' => ∃ ad n cap, e = .returned (.slice ad n cap) ∧ Tryz.RD w w'' g s st 2048 Th (mCells me ta 0 ver (.slice none 0 0) [] false)) := fun w' h => (by
                refine (Tryz.ssHeaders h.ss hs47 s.length (Nat.le_refl _)).mono ?_
                rintro e w1 ⟨V, rfl, hh⟩
                obtain ⟨H, hrow, -, -, -⟩ := hh.ex
                obtain ⟨ad, cap, eV, -⟩ := (Hs.ofRow hrow).ex
                have h2 := hh.ss
                rw [bind_ok_eq, hFu] at h2
                exact ⟨ad, H.length, cap, by rw [eV], Tryz.RD.call h hh.wo h2⟩)
              have HDT : Hid (deadR Th = true) := hdT
              clear hTh hFu hdT
              go_upto_region 31 with (first
                | (go_at_call 63; refine k1.mono ?_; clear k1; rintro e w1 ⟨⟨vv1, rfl⟩, h1⟩; have k2 := HK.out w1 h1.ss; have k3 := HH.out w1 h1; clear HK HH h1)
                | (go_at_call 71; refine k2.mono ?_; clear k2; rintro e w2 ⟨rfl, rfl⟩)
                | (go_at_call 72; refine k3.mono ?_; clear k3; rintro e w3 ⟨ad, n, cap, rfl, h3⟩; have c4 : w3.cell? ⟨g + 1 + 1, 4, none⟩ = some (.slice none 0 0) := cell_of_row _ _ 4 _ _ _ h3.m; have f4 : w3.frozen? ⟨g + 1 + 1, 4, none⟩ = false := frozen_of_row _ _ 4 _ _ h3.m; have h4 : Tryz.RD w (w3.setCell ⟨g + 1 + 1, 4, none⟩ (.slice ad n cap)) g s st 2048 Th (mCells me ta 0 ver (.slice ad n cap) [] false) := Tryz.RD.setm h3 4 (.slice ad n cap) (heap_setCell_same _ (g + 1 + 1) 4 _ _ _ h3.m); obtain ⟨d2, d3, f2, f3⟩ := Tryz.SS.cl h4.ss; have H5 : Hid (Tryz.RD w ((w3.setCell ⟨g + 1 + 1, 4, none⟩ (.slice ad n cap)).setCell ⟨g + 1, 3, none⟩ (.int .i64 0)) g s st 0 Th (mCells me ta 0 ver (.slice ad n cap) [] false)) := Tryz.RD.call h4 ((Wo.refl (fun k => k = g + 1) _).setCell (g + 1) 3 _ (.inl rfl)) (Tryz.SS.tail h4.ss); have k4 := HK4.out _ H5.out.ss; clear h3 h4 d2 f2 HK4)
                | (go_at_call 71; refine k4.mono ?_; clear k4 d3 f3 c4 f4; rintro e w4 ⟨rfl, rfl⟩)
                | fail)
              generalize ((w3.setCell ⟨g + 1 + 1, 4, none⟩ (.slice ad n cap)).setCell ⟨g + 1, 3, none⟩ (.int .i64 0)) = W5 at *
              obtain ⟨x, hx1, hx2, hx3⟩ := H5.out.ss.ex
              obtain ⟨_, _, _, _, y4, y5, _⟩ := Tryz.Sc.c hx1
              have HZ : Hid _ := Tryz.RD.zeroQ H5.out HDT.out _ HRES.out hx3
              clear hx1 hx2 hx3
              have e0 := H5.out.res
              have z0 : W5.cell? ⟨g, 0, none⟩ = some (.string ⟨#[]⟩) := cell_of_row _ _ 0 _ _ _ e0
              have z1 : W5.cell? ⟨g, 1, none⟩ = some (.string ⟨#[]⟩) := cell_of_row _ _ 1 _ _ _ e0
              have z2 : W5.cell? ⟨g, 2, none⟩ = some (.int .i64 0) := cell_of_row _ _ 2 _ _ _ e0
              have z3 : W5.cell? ⟨g, 3, none⟩ = some (.int .i64 0) := cell_of_row _ _ 3 _ _ _ e0
              have z4 : W5.cell? ⟨g, 4, none⟩ = some (.slice none 0 0) := cell_of_row _ _ 4 _ _ _ e0
              have z5 : W5.cell? ⟨g, 5, none⟩ = some (.string ⟨#[]⟩) := cell_of_row _ _ 5 _ _ _ e0
              have z6 : W5.cell? ⟨g, 6, none⟩ = some (.bool false) := cell_of_row _ _ 6 _ _ _ e0
              have f0 := fun j => frozen_of_row _ _ j _ _ e0
              have f00 := f0 0
              have f01 := f0 1
              have f02 := f0 2
              have f03 := f0 3
              have f04 := f0 4
              have f05 := f0 5
              have f06 := f0 6
              clear f0 e0
              go_region
              all_goals go_wp2
              all_goals exact bodyPost_ret (results_row4 rfl _ _ g _ _ _ _ rfl HZ.out.1 Tryz.underlying99 rfl (by kernel_rfl)) rfl ⟨_, 0, _, _, _, rfl, HZ.out.2⟩
            | false =>
              cases Th with
              | bad a e => cases hdT
              | more => cases hdT
              | ok o r2 j2 =>
                obtain ⟨H, hH⟩ : ∃ H, o.map hdOf = H := ⟨_, rfl⟩
                obtain ⟨X, hX⟩ : ∃ X, rulesD H false (decide (ver = 11)) 6000 = X := ⟨_, rfl⟩
                have HK4 : Hid (∀ w', Tryz.SS w' (g + 1) s st 0 (.ok o r2 j2 : Re Hdl) → Calls Tryz.prog 71 #[.pointer (some ⟨g + 1, 0, none⟩)] w' fun e w'' => e = .returned (.bool false) ∧ w'' = w') := fun w' h => (by have := Tryz.ssOver h; skip; exact this)
                have HH : Hid (∀ w', Tryz.RD w w' g s st 2048 (.ok (me, ta, ver) r j : Re (List UInt8 × List UInt8 × Nat)) (mCells me ta 0 ver (.slice none 0 0) [] false) → Calls Tryz.prog 72 #[.pointer (some ⟨g + 1, 0, none⟩)] w' fun e w'' => ∃ ad cap, e = .returned (.slice ad H.length cap) ∧ Tryz.RD w w'' g s st 2048 (.ok o r2 j2 : Re Hdl) (mCells me ta 0 ver (.slice none 0 0) [] false) ∧ w''.ownsRow (g + 1 + 1 + 1) 57 2 (.slice ad H.length cap) H.length (hdCells H) ∧ H.length ≤ 32 ∧ ∀ x ∈ H, x.1.length ≤ s.length ∧ x.2.length ≤ s.length) := fun w' h => (by
                  refine (Tryz.ssHeaders h.ss hs47 s.length (Nat.le_refl _)).mono ?_
                  rintro e w1 ⟨V, rfl, hh⟩
                  obtain ⟨H', hrow, h32, hlens, hH'⟩ := hh.ex
                  have h2 := hh.ss
                  rw [bind_ok_eq, hFu] at h2 hH'
                  obtain rfl : H' = H := (hH' _ _ _ rfl).trans hH
                  obtain ⟨ad, cap, eV, -⟩ := (Hs.ofRow hrow).ex
                  rw [eV] at hrow
                  exact ⟨ad, cap, by rw [eV], Tryz.RD.call h hh.wo h2, row_baseR hrow (fun k e => by have := (hrow.lt k e).1; have := block_lt h.m; omega), h32, hlens⟩)
                have HRU : Hid (∀ w' ad cap, Tryz.RHq w w' g s st (.ok o r2 j2 : Re Hdl) me ta ver ad cap H [] false → Calls Tryz.prog 73 #[.pointer (some ⟨g + 1, 0, none⟩), .agg #[.string ⟨me.toArray⟩, .string ⟨ta.toArray⟩, .int .i64 0, .int .i64 ver, .slice ad H.length cap, .string ⟨#[]⟩, .bool false], .bool false, .int .i64 6000] w' fun e w'' => ∃ N : Int, e = .returned (.int .i64 N) ∧ (X.1 = 0 → N = rulesN X.2) ∧ (-1 ≤ N ∧ N ≤ 6001) ∧ Tryz.RHq w w'' g s st (rulesR o r2 j2 X) me ta ver ad cap H [] false) := fun w' ad cap h => (by
                  have := Tryz.ssRulesF h.rd.ss (Hs.ofRow h.row) h.h32 (fun x hx => by have := h.lens x hx; omega) me ta [] 0 ver HVER.out false 6000 (by decide)
                  rw [hX] at this
                  refine this.mono ?_
                  rintro e w1 ⟨N, rfl, hN, hb, g1, g2⟩
                  exact ⟨N, rfl, hN, by omega, Tryz.RHq.call h g2 g1⟩)
                have HRES2 : Hid (requD (s.drop f) f = (bodyD H false (decide (ver = 11)) 6000 0 r2 j2).bind fun y r k => .ok (st, (me, ta, ver, o), j2, y) r k) := (by show _ = _; rw [HRES.out, bind_ok_eq, hH])
                have HHX : Hid (rulesD H false (decide (ver = 11)) 6000 = X) := hX
                have HHO : Hid (o.map hdOf = H) := hH
                clear hTh hFu hdT hH hX HRES
                go_upto_region 33 with (first
                  | (go_at_call 63; refine k1.mono ?_; clear k1; rintro e w1 ⟨⟨vv1, rfl⟩, h1⟩; have k2 := HK.out w1 h1.ss; have k3 := HH.out w1 h1; clear HK HH h1)
                  | (go_at_call 71; refine k2.mono ?_; clear k2; rintro e w2 ⟨rfl, rfl⟩)
                  | (go_at_call 72; refine k3.mono ?_; clear k3; rintro e w3 ⟨ad, cap, rfl, h3, hrow, h32, hlens⟩; have c4 : w3.cell? ⟨g + 1 + 1, 4, none⟩ = some (.slice none 0 0) := cell_of_row _ _ 4 _ _ _ h3.m; have f4 : w3.frozen? ⟨g + 1 + 1, 4, none⟩ = false := frozen_of_row _ _ 4 _ _ h3.m; have h4 : Tryz.RD w (w3.setCell ⟨g + 1 + 1, 4, none⟩ (.slice ad H.length cap)) g s st 2048 (.ok o r2 j2 : Re Hdl) (mCells me ta 0 ver (.slice ad H.length cap) [] false) := Tryz.RD.setm h3 4 (.slice ad H.length cap) (heap_setCell_same _ (g + 1 + 1) 4 _ _ _ h3.m); obtain ⟨d2, d3, f2, f3⟩ := Tryz.SS.cl h4.ss; have hr4 := row_wo (p := g + 1 + 1) hrow (by omega) ((Wo.refl _ _).setCell (g + 1 + 1) 4 (.slice ad H.length cap) (.inl rfl)); have H5 : Hid (Tryz.RHq w ((w3.setCell ⟨g + 1 + 1, 4, none⟩ (.slice ad H.length cap)).setCell ⟨g + 1, 3, none⟩ (.int .i64 0)) g s st (.ok o r2 j2 : Re Hdl) me ta ver ad cap H [] false) := ⟨Tryz.RD.call h4 ((Wo.refl (fun k => k = g + 1) _).setCell (g + 1) 3 _ (.inl rfl)) (Tryz.SS.tail h4.ss), row_wo (p := g + 1) hr4 (by omega) ((Wo.refl _ _).setCell (g + 1) 3 _ (.inl rfl)), h32, hlens⟩; have k4 := HK4.out _ H5.out.rd.ss; have k5 := HRU.out _ ad cap H5.out; have e5 := H5.out.rd.m; clear h3 h4 d2 f2 HK4 hrow hr4 hlens HRU)
                  | (go_at_call 71; refine k4.mono ?_; clear k4 d3 f3 c4 f4; rintro e w4 ⟨rfl, rfl⟩; have t0 : ((w3.setCell ⟨g + 1 + 1, 4, none⟩ (.slice ad H.length cap)).setCell ⟨g + 1, 3, none⟩ (.int .i64 0)).cell? ⟨g + 1 + 1, 0, none⟩ = some (.string ⟨me.toArray⟩) := cell_of_row _ _ 0 _ _ _ e5; have t1 : ((w3.setCell ⟨g + 1 + 1, 4, none⟩ (.slice ad H.length cap)).setCell ⟨g + 1, 3, none⟩ (.int .i64 0)).cell? ⟨g + 1 + 1, 1, none⟩ = some (.string ⟨ta.toArray⟩) := cell_of_row _ _ 1 _ _ _ e5; have t2 : ((w3.setCell ⟨g + 1 + 1, 4, none⟩ (.slice ad H.length cap)).setCell ⟨g + 1, 3, none⟩ (.int .i64 0)).cell? ⟨g + 1 + 1, 2, none⟩ = some (.int .i64 0) := cell_of_row _ _ 2 _ _ _ e5; have t3 : ((w3.setCell ⟨g + 1 + 1, 4, none⟩ (.slice ad H.length cap)).setCell ⟨g + 1, 3, none⟩ (.int .i64 0)).cell? ⟨g + 1 + 1, 3, none⟩ = some (.int .i64 ver) := cell_of_row _ _ 3 _ _ _ e5; have t4 : ((w3.setCell ⟨g + 1 + 1, 4, none⟩ (.slice ad H.length cap)).setCell ⟨g + 1, 3, none⟩ (.int .i64 0)).cell? ⟨g + 1 + 1, 4, none⟩ = some (.slice ad H.length cap) := cell_of_row _ _ 4 _ _ _ e5; have t5 : ((w3.setCell ⟨g + 1 + 1, 4, none⟩ (.slice ad H.length cap)).setCell ⟨g + 1, 3, none⟩ (.int .i64 0)).cell? ⟨g + 1 + 1, 5, none⟩ = some (.string ⟨#[]⟩) := cell_of_row _ _ 5 _ _ _ e5; have t6 : ((w3.setCell ⟨g + 1 + 1, 4, none⟩ (.slice ad H.length cap)).setCell ⟨g + 1, 3, none⟩ (.int .i64 0)).cell? ⟨g + 1 + 1, 6, none⟩ = some (.bool false) := cell_of_row _ _ 6 _ _ _ e5; clear e5)
                  | (go_at_call 73; refine k5.mono ?_; clear k5 t0 t1 t2 t3 t4 t5 t6 H5; rintro e w5 ⟨N, rfl, hN, hNb, h5⟩; have HN : Hid (X.1 = 0 → N = rulesN X.2) := hN; have H6 : Hid (Tryz.RHq w w5 g s st (rulesR o r2 j2 X) me ta ver ad cap H [] false) := h5; have t2 : w5.cell? ⟨g + 1 + 1, 2, none⟩ = some (.int .i64 0) := cell_of_row _ _ 2 _ _ _ h5.rd.m; clear hN h5)
                  | fail)
                clear t2
                go_upto_if 127 with (fail)
                go_cut [16] (fun nv wx => nv = .int .i64 N ∧ wx = w5)
                case first =>
                  go_wp2
                  go_meet
                  exact ⟨rfl, rfl⟩
                case rest =>
                  obtain ⟨rfl, rfl⟩ := hcut
                  go_upto_block 4 with (fail)
                  have H6o : Hid (X.1 = 0 → Tryz.RHq w wc g s st (.ok o r2 j2 : Re Hdl) me ta ver ad cap H [] false) := fun e => (by have := H6.out; unfold rulesR at this; rw [if_pos e] at this; exact this)
                  have H6b : Hid (¬ X.1 = 0 → Tryz.RHq w wc g s st (.bad j2 X.1 : Re Hdl) me ta ver ad cap H [] false) := fun e => (by have := H6.out; unfold rulesR at this; rw [if_neg e] at this; exact this)
                  obtain ⟨N2, hN2⟩ : ∃ N2, N = N2 := ⟨_, rfl⟩
                  have HN2 : Hid (N = N2) := hN2
                  rw [hN2]
                  obtain ⟨Bd, hBd⟩ : ∃ Bd, bodyD H false (decide (ver = 11)) 6000 0 r2 j2 = Bd := ⟨_, rfl⟩
                  have HBD : Hid (bodyD H false (decide (ver = 11)) 6000 0 r2 j2 = Bd) := hBd
                  rw [hBd] at HRES2
                  clear hBd hN2 H6
                  go_cut [] (fun wx => ∃ bo st2, Tryz.RHq w wx g s st2 Bd me ta ver ad cap H bo false ∧ ∀ y r k, Bd = .ok y r k → bo = y.1)
                  case first =>
                    by_cases hx0 : X.1 = 0
                    · have h6 := H6o.out hx0
                      have HBE : Hid (Bd = if bare 0 then .ok ([], none) r2 j2 else match X.2 with
                          | none => (chunksD 6000 (r2.length + 1) [] r2 j2).bind fun x r k => .ok (x.1, some x.2) r k
                          | some n => (someD n r2 j2).bind fun x r k => .ok (x, none) r k) := (by show _ = _; rw [← HBD.out]; unfold bodyD; rw [HHX.out, if_neg (by rw [hx0]; exact fun e => e rfl)]; rfl)
                      have k6 : Calls Tryz.prog 71 #[.pointer (some ⟨g + 1, 0, none⟩)] wc fun e w'' => e = .returned (.bool false) ∧ w'' = wc := Tryz.ssOver h6.rd.ss
                      have HSO : Hid (∀ n : Nat, n ≤ 6001 → Calls Tryz.prog 75 #[.pointer (some ⟨g + 1, 0, none⟩), .int .i64 n] wc fun e w'' => ∃ v : List UInt8, e = .returned (.string ⟨v.toArray⟩) ∧ (∀ x r k, someD n r2 j2 = .ok x r k → v = x) ∧ Tryz.RHq w w'' g s st (someD n r2 j2) me ta ver ad cap H [] false) := fun n hn => (by
                        refine (Tryz.ssSome h6.rd.ss n (by omega)).mono ?_
                        rintro e w1 ⟨v, rfl, hv, _, g1, g2⟩
                        rw [bind_ok_eq] at hv g1
                        exact ⟨v, rfl, hv.is, Tryz.RHq.call h6 g2 g1⟩)
                      have HCH : Hid (Calls Tryz.prog 74 #[.pointer (some ⟨g + 1, 0, none⟩), .int .i64 6000] wc fun e w'' => ∃ (v : List UInt8) (st2 : Nat), e = .returned (.string ⟨v.toArray⟩) ∧ (∀ x r k, chunksD 6000 (r2.length + 1) [] r2 j2 = .ok x r k → v = x.1) ∧ Tryz.RHq w w'' g s st2 (chunksD 6000 (r2.length + 1) [] r2 j2) me ta ver ad cap H [] false) := (by
                        refine (Tryz.ssChunks h6.rd.ss hs47 6000 (by decide) r2.length (fun a r i e => by injection e with _ e1 _; subst e1; exact Nat.le_refl _)).mono ?_
                        rintro e w1 ⟨v, st2, rfl, _, hv, g1, g2⟩
                        rw [bind_ok_eq] at hv g1
                        exact ⟨v, st2, rfl, hv, Tryz.RHq.call h6 g2 g1⟩)
                      have HNN : Hid (N = rulesN X.2) := HN.out hx0
                      clear h6 H6o H6b hx0
                      obtain rfl : N = N2 := HN2.out
                      rw [show bare 0 = false from rfl, if_neg (by decide)] at HBE
                      obtain ⟨X1, X2⟩ := X
                      cases X2 with
                      | none =>
                        obtain rfl : N = -1 := HNN.out
                        have HEQ : Hid (Bd = (chunksD 6000 (r2.length + 1) [] r2 j2).bind fun x r k => .ok (x.1, some x.2) r k) := HBE.out
                        have k7 := HCH.out
                        clear HNN HCH HSO HBE HN2 HN
                        go_wp2_with (first
                          | (go_at_call 71; refine k6.mono ?_; clear k6; rintro e w6 ⟨rfl, rfl⟩)
                          | (go_at_call 74; refine k7.mono ?_; clear k7; rintro e w7 ⟨v7, st7, rfl, hv7, h7⟩; have c5 : w7.cell? ⟨g + 1 + 1, 5, none⟩ = some (.string ⟨#[]⟩) := cell_of_row _ _ 5 _ _ _ h7.rd.m; have f5 : w7.frozen? ⟨g + 1 + 1, 5, none⟩ = false := frozen_of_row _ _ 5 _ _ h7.rd.m; have H8 : Hid (Tryz.RHq w (w7.setCell ⟨g + 1 + 1, 5, none⟩ (.string ⟨v7.toArray⟩)) g s st7 (chunksD 6000 (r2.length + 1) [] r2 j2) me ta ver ad cap H v7 false) := Tryz.RHq.setm h7 5 _ (heap_setCell_same _ (g + 1 + 1) 5 _ _ _ h7.rd.m); have HV7 : Hid (∀ x r k, chunksD 6000 (r2.length + 1) [] r2 j2 = .ok x r k → v7 = x.1) := hv7; clear hv7 h7)
                          | fail)
                        go_meet
                        refine ⟨v7, st7, Tryz.RHq.call H8.out (Wo.refl _ _) (Tryz.SS.fit H8.out.rd.ss fun x hx => by rw [HEQ.out]; revert hx; cases chunksD 6000 (r2.length + 1) [] r2 j2 <;> exact id), fun y r k e => ?_⟩
                        rw [HEQ.out] at e
                        obtain ⟨z, r4, k4, e4, e⟩ := bind_ok e
                        injection e with e
                        rw [← e]
                        exact HV7.out _ _ _ e4
                      | some n =>
                        obtain rfl : N = (n : Int) := HNN.out
                        have HEQ : Hid (Bd = (someD n r2 j2).bind fun x r k => .ok (x, none) r k) := HBE.out
                        have k7 := HSO.out n (by omega)
                        have q7 : ¬ (n : Int) < 0 := by omega
                        clear HNN HCH HSO HBE HN2 HN
                        go_wp2_with (first
                          | (go_at_call 71; refine k6.mono ?_; clear k6; rintro e w6 ⟨rfl, rfl⟩)
                          | (go_at_call 75; refine k7.mono ?_; clear k7; rintro e w7 ⟨v7, rfl, hv7, h7⟩; have c5 : w7.cell? ⟨g + 1 + 1, 5, none⟩ = some (.string ⟨#[]⟩) := cell_of_row _ _ 5 _ _ _ h7.rd.m; have f5 : w7.frozen? ⟨g + 1 + 1, 5, none⟩ = false := frozen_of_row _ _ 5 _ _ h7.rd.m; have H8 : Hid (Tryz.RHq w (w7.setCell ⟨g + 1 + 1, 5, none⟩ (.string ⟨v7.toArray⟩)) g s st (someD n r2 j2) me ta ver ad cap H v7 false) := Tryz.RHq.setm h7 5 _ (heap_setCell_same _ (g + 1 + 1) 5 _ _ _ h7.rd.m); have HV7 : Hid (∀ x r k, someD n r2 j2 = .ok x r k → v7 = x) := hv7; clear hv7 h7)
                          | fail)
                        go_meet
                        refine ⟨v7, st, Tryz.RHq.call H8.out (Wo.refl _ _) (Tryz.SS.fit H8.out.rd.ss fun x hx => by rw [HEQ.out]; revert hx; cases someD n r2 j2 <;> exact id), fun y r k e => ?_⟩
                        rw [HEQ.out] at e
                        obtain ⟨z, r4, k4, e4, e⟩ := bind_ok e
                        injection e with e
                        rw [← e]
                        exact HV7.out _ _ _ e4
                    · have h6 := H6b.out hx0
                      have HEQ : Hid (Bd = .bad j2 X.1) := (by show _ = _; rw [← HBD.out]; unfold bodyD; rw [HHX.out, if_pos hx0])
                      have k6 : Calls Tryz.prog 71 #[.pointer (some ⟨g + 1, 0, none⟩)] wc fun e w'' => e = .returned (.bool true) ∧ w'' = wc := Tryz.ssOver h6.rd.ss
                      have H8 : Hid (Tryz.RHq w wc g s st (.bad j2 X.1 : Re Hdl) me ta ver ad cap H [] false) := h6
                      clear h6 H6o H6b hx0 HN HN2
                      go_wp2_with (first
                        | (go_at_call 71; refine k6.mono ?_; clear k6; rintro e w6 ⟨rfl, rfl⟩)
                        | fail)
                      go_meet
                      exact ⟨[], st, Tryz.RHq.call H8.out (Wo.refl _ _) (Tryz.SS.fit H8.out.rd.ss fun x hx => by rw [HEQ.out]; exact hx), fun y r k e => by rw [HEQ.out] at e; cases e⟩
                  case rest =>
                    obtain ⟨bo, st2, h7, hbo⟩ := hcut
                    have HBO : Hid (∀ y r k, Bd = .ok y r k → bo = y.1) := hbo
                    clear H6o H6b HN HN2 HBD HHX hbo
                    cases hdB : deadR Bd with
                    | true =>
                      have k8 : Calls Tryz.prog 71 #[.pointer (some ⟨g + 1, 0, none⟩)] wc fun e w'' => e = .returned (.bool true) ∧ w'' = wc := (by have := Tryz.ssOver h7.rd.ss; rw [hdB] at this; exact this)
                      have H7 : Hid (Tryz.RHq w wc g s st2 Bd me ta ver ad cap H bo false) := h7
                      have HDB : Hid (deadR Bd = true) := hdB
                      clear h7 hdB
                      go_upto_region 40 with (first
                        | (go_at_call 71; refine k8.mono ?_; clear k8; rintro e w8 ⟨rfl, rfl⟩)
                        | fail)
                      obtain ⟨x, hx1, hx2, hx3⟩ := H7.out.rd.ss.ex
                      obtain ⟨_, _, _, _, y4, y5, _⟩ := Tryz.Sc.c hx1
                      have HZ : Hid _ := Tryz.RD.zeroQ H7.out.rd HDB.out _ HRES2.out hx3
                      clear hx1 hx2 hx3
                      have e0 := H7.out.rd.res
                      have z0 : w8.cell? ⟨g, 0, none⟩ = some (.string ⟨#[]⟩) := cell_of_row _ _ 0 _ _ _ e0
                      have z1 : w8.cell? ⟨g, 1, none⟩ = some (.string ⟨#[]⟩) := cell_of_row _ _ 1 _ _ _ e0
                      have z2 : w8.cell? ⟨g, 2, none⟩ = some (.int .i64 0) := cell_of_row _ _ 2 _ _ _ e0
                      have z3 : w8.cell? ⟨g, 3, none⟩ = some (.int .i64 0) := cell_of_row _ _ 3 _ _ _ e0
                      have z4 : w8.cell? ⟨g, 4, none⟩ = some (.slice none 0 0) := cell_of_row _ _ 4 _ _ _ e0
                      have z5 : w8.cell? ⟨g, 5, none⟩ = some (.string ⟨#[]⟩) := cell_of_row _ _ 5 _ _ _ e0
                      have z6 : w8.cell? ⟨g, 6, none⟩ = some (.bool false) := cell_of_row _ _ 6 _ _ _ e0
                      have f0 := fun j => frozen_of_row _ _ j _ _ e0
                      have f00 := f0 0
                      have f01 := f0 1
                      have f02 := f0 2
                      have f03 := f0 3
                      have f04 := f0 4
                      have f05 := f0 5
                      have f06 := f0 6
                      clear f0 e0
                      go_region
                      all_goals go_wp2
                      all_goals exact bodyPost_ret (results_row4 rfl _ _ g _ _ _ _ rfl HZ.out.1 Tryz.underlying99 rfl (by kernel_rfl)) rfl ⟨_, 0, _, _, _, rfl, HZ.out.2⟩
                    | false =>
                      cases Bd with
                      | bad a e => cases hdB
                      | more => cases hdB
                      | ok y r3 k3 =>
                        obtain rfl := HBO.out _ _ _ rfl
                        have k8 : Calls Tryz.prog 71 #[.pointer (some ⟨g + 1, 0, none⟩)] wc fun e w'' => e = .returned (.bool false) ∧ w'' = wc := Tryz.ssOver h7.rd.ss
                        have ki : ∀ (it : List UInt8) W, Tryz.RHq w W g s st2 (.ok y r3 k3 : Re (List UInt8 × Option (List (List UInt8 × List UInt8) × Nat))) me ta ver ad cap H y.1 false → Calls Tryz.prog 76 #[.agg #[.string ⟨me.toArray⟩, .string ⟨ta.toArray⟩, .int .i64 0, .int .i64 ver, .slice ad H.length cap, .string ⟨y.1.toArray⟩, .bool false], .string ⟨#[99, 111, 110, 110, 101, 99, 116, 105, 111, 110]⟩, .string ⟨it.toArray⟩] W fun e w' => e = .returned (.bool (hasItem (valsD H wConn) it)) ∧ Tryz.RHq w w' g s st2 (.ok y r3 k3 : Re (List UInt8 × Option (List (List UInt8 × List UInt8) × Nat))) me ta ver ad cap H y.1 false := fun it W h => (by
                          refine (Tryz.rItem_any (Hs.ofRow h.row) (by have := h.h32; omega) (fun x hx => by have := h.lens x hx; omega) me ta y.1 wConn it 0 ver false).mono ?_
                          rintro e w1 ⟨rfl, hb⟩
                          exact ⟨rfl, Tryz.RHq.keep h hb⟩)
                        have kc : ∀ W, Tryz.RHq w W g s st2 (.ok y r3 k3 : Re (List UInt8 × Option (List (List UInt8 × List UInt8) × Nat))) me ta ver ad cap H y.1 false → Calls Tryz.prog 76 #[.agg #[.string ⟨me.toArray⟩, .string ⟨ta.toArray⟩, .int .i64 0, .int .i64 ver, .slice ad H.length cap, .string ⟨y.1.toArray⟩, .bool false], .string ⟨#[99, 111, 110, 110, 101, 99, 116, 105, 111, 110]⟩, .string ⟨#[99, 108, 111, 115, 101]⟩] W fun e w' => e = .returned (.bool (hasItem (valsD H wConn) wClose)) ∧ Tryz.RHq w w' g s st2 (.ok y r3 k3 : Re (List UInt8 × Option (List (List UInt8 × List UInt8) × Nat))) me ta ver ad cap H y.1 false := fun W h => ki wClose W h
                        have kk : ∀ W, Tryz.RHq w W g s st2 (.ok y r3 k3 : Re (List UInt8 × Option (List (List UInt8 × List UInt8) × Nat))) me ta ver ad cap H y.1 false → Calls Tryz.prog 76 #[.agg #[.string ⟨me.toArray⟩, .string ⟨ta.toArray⟩, .int .i64 0, .int .i64 ver, .slice ad H.length cap, .string ⟨y.1.toArray⟩, .bool false], .string ⟨#[99, 111, 110, 110, 101, 99, 116, 105, 111, 110]⟩, .string ⟨#[107, 101, 101, 112, 45, 97, 108, 105, 118, 101]⟩] W fun e w' => e = .returned (.bool (hasItem (valsD H wConn) wKeep)) ∧ Tryz.RHq w w' g s st2 (.ok y r3 k3 : Re (List UInt8 × Option (List (List UInt8 × List UInt8) × Nat))) me ta ver ad cap H y.1 false := fun W h => ki wKeep W h
                        have HEND : Hid (endsD H (decide (ver = 11)) = if hasItem (valsD H wConn) wClose then true else if ver = 10 then !hasItem (valsD H wConn) wKeep else false) := (by
                          show _ = _
                          unfold endsD
                          rcases HVER.out with e | e
                          · rw [e]; cases hasItem (valsD H wConn) wClose <;> simp
                          · rw [e]; cases hasItem (valsD H wConn) wClose <;> simp)
                        have HKC : Hid _ := kc
                        have HKK : Hid _ := kk
                        have H7 : Hid (Tryz.RHq w wc g s st2 (.ok y r3 k3 : Re (List UInt8 × Option (List (List UInt8 × List UInt8) × Nat))) me ta ver ad cap H y.1 false) := h7
                        generalize hasItem (valsD H wConn) wClose = hc at *
                        generalize hasItem (valsD H wConn) wKeep = hk at *
                        clear ki kc kk h7 hdB HBO
                        go_upto_region 41 with (first
                          | (go_at_call 71; refine k8.mono ?_; clear k8; rintro e w8 ⟨rfl, rfl⟩)
                          | fail)
                        go_cut [] (fun wx => Tryz.RHq w wx g s st2 (.ok y r3 k3 : Re (List UInt8 × Option (List (List UInt8 × List UInt8) × Nat))) me ta ver ad cap H y.1 (endsD H (decide (ver = 11))))
                        case first =>
                          have e7 := H7.out.rd.m
                          have t0 : w8.cell? ⟨g + 1 + 1, 0, none⟩ = some (.string ⟨me.toArray⟩) := cell_of_row _ _ 0 _ _ _ e7
                          have t1 : w8.cell? ⟨g + 1 + 1, 1, none⟩ = some (.string ⟨ta.toArray⟩) := cell_of_row _ _ 1 _ _ _ e7
                          have t2 : w8.cell? ⟨g + 1 + 1, 2, none⟩ = some (.int .i64 0) := cell_of_row _ _ 2 _ _ _ e7
                          have t3 : w8.cell? ⟨g + 1 + 1, 3, none⟩ = some (.int .i64 ver) := cell_of_row _ _ 3 _ _ _ e7
                          have t4 : w8.cell? ⟨g + 1 + 1, 4, none⟩ = some (.slice ad H.length cap) := cell_of_row _ _ 4 _ _ _ e7
                          have t5 : w8.cell? ⟨g + 1 + 1, 5, none⟩ = some (.string ⟨y.1.toArray⟩) := cell_of_row _ _ 5 _ _ _ e7
                          have t6 : w8.cell? ⟨g + 1 + 1, 6, none⟩ = some (.bool false) := cell_of_row _ _ 6 _ _ _ e7
                          have k9 := HKC.out w8 H7.out
                          clear e7 HKC
                          cases hc with
                          | true =>
                            have HE : Hid (endsD H (decide (ver = 11)) = true) := HEND.out
                            clear HKK HEND
                            go_wp2_with (first
                              | (go_at_call 76; refine k9.mono ?_; clear k9 t0 t1 t2 t3 t4 t5 t6; rintro e w9 ⟨rfl, h9⟩; have H9 : Hid _ := h9; have c6 : w9.cell? ⟨g + 1 + 1, 6, none⟩ = some (.bool false) := cell_of_row _ _ 6 _ _ _ h9.rd.m; have f6 : w9.frozen? ⟨g + 1 + 1, 6, none⟩ = false := frozen_of_row _ _ 6 _ _ h9.rd.m; clear h9)
                              | fail)
                            go_meet
                            rw [HE.out]
                            exact Tryz.RHq.setm H9.out 6 _ (heap_setCell_same _ (g + 1 + 1) 6 _ _ _ H9.out.rd.m)
                          | false =>
                            rcases HVER.out with e10 | e11
                            · have q10 : ((ver : Int) == 10) = true := by rw [e10]; rfl
                              have HE : Hid (endsD H (decide (ver = 11)) = !hk) := (by show _ = _; rw [HEND.out, if_neg (by decide), if_pos e10])
                              clear HEND e10
                              go_wp2_with (first
                                | (go_at_call 76; refine k9.mono ?_; clear k9 t0 t1 t2 t3 t4 t5 t6; rintro e w9 ⟨rfl, h9⟩; have k10 := HKK.out w9 h9; have e9 := h9.rd.m; clear HKK h9; have t0 : w9.cell? ⟨g + 1 + 1, 0, none⟩ = some (.string ⟨me.toArray⟩) := cell_of_row _ _ 0 _ _ _ e9; have t1 : w9.cell? ⟨g + 1 + 1, 1, none⟩ = some (.string ⟨ta.toArray⟩) := cell_of_row _ _ 1 _ _ _ e9; have t2 : w9.cell? ⟨g + 1 + 1, 2, none⟩ = some (.int .i64 0) := cell_of_row _ _ 2 _ _ _ e9; have t3 : w9.cell? ⟨g + 1 + 1, 3, none⟩ = some (.int .i64 ver) := cell_of_row _ _ 3 _ _ _ e9; have t4 : w9.cell? ⟨g + 1 + 1, 4, none⟩ = some (.slice ad H.length cap) := cell_of_row _ _ 4 _ _ _ e9; have t5 : w9.cell? ⟨g + 1 + 1, 5, none⟩ = some (.string ⟨y.1.toArray⟩) := cell_of_row _ _ 5 _ _ _ e9; have t6 : w9.cell? ⟨g + 1 + 1, 6, none⟩ = some (.bool false) := cell_of_row _ _ 6 _ _ _ e9; clear e9)
                                | (go_at_call 76; refine k10.mono ?_; clear k10 t0 t1 t2 t3 t4 t5 t6; rintro e w10 ⟨rfl, h9⟩; have H9 : Hid _ := h9; have c6 : w10.cell? ⟨g + 1 + 1, 6, none⟩ = some (.bool false) := cell_of_row _ _ 6 _ _ _ h9.rd.m; have f6 : w10.frozen? ⟨g + 1 + 1, 6, none⟩ = false := frozen_of_row _ _ 6 _ _ h9.rd.m; clear h9)
                                | fail)
                              go_meet
                              rw [HE.out]
                              exact Tryz.RHq.setm H9.out 6 _ (heap_setCell_same _ (g + 1 + 1) 6 _ _ _ H9.out.rd.m)
                            · have q10 : ((ver : Int) == 10) = false := by rw [e11]; rfl
                              have HE : Hid (endsD H (decide (ver = 11)) = false) := (by show _ = _; rw [HEND.out, if_neg (by decide), if_neg (by omega)])
                              clear HKK HEND e11
                              go_wp2_with (first
                                | (go_at_call 76; refine k9.mono ?_; clear k9 t0 t1 t2 t4 t5 t6 t3; rintro e w9 ⟨rfl, h9⟩; have H9 : Hid _ := h9; have t3 : w9.cell? ⟨g + 1 + 1, 3, none⟩ = some (.int .i64 ver) := cell_of_row _ _ 3 _ _ _ h9.rd.m; have c6 : w9.cell? ⟨g + 1 + 1, 6, none⟩ = some (.bool false) := cell_of_row _ _ 6 _ _ _ h9.rd.m; have f6 : w9.frozen? ⟨g + 1 + 1, 6, none⟩ = false := frozen_of_row _ _ 6 _ _ h9.rd.m; clear h9)
                                | fail)
                              go_meet
                              rw [HE.out]
                              exact Tryz.RHq.setm H9.out 6 _ (heap_setCell_same _ (g + 1 + 1) 6 _ _ _ H9.out.rd.m)
                        case rest =>
                          obtain ⟨la, hla⟩ : ∃ la, endsD H (decide (ver = 11)) = la := ⟨_, rfl⟩
                          rw [hla] at hcut
                          have HLA : Hid (endsD H (decide (ver = 11)) = la) := hla
                          have H9 : Hid (Tryz.RHq w wc g s st2 (.ok y r3 k3 : Re (List UInt8 × Option (List (List UInt8 × List UInt8) × Nat))) me ta ver ad cap H y.1 la) := hcut
                          have e7 := hcut.rd.m
                          have e0 := hcut.rd.res
                          have x1 := (Tryz.SS.c hcut.rd.ss).2.1
                          obtain ⟨s7, w7⟩ := set7 e0 (.string ⟨me.toArray⟩) (.string ⟨ta.toArray⟩) (.int .i64 0) (.int .i64 ver) (.slice ad H.length cap) (.string ⟨y.1.toArray⟩) (.bool la)
                          have HZ : Hid _ := s7
                          have HW7 : Hid _ := w7
                          have t0 : wc.cell? ⟨g + 1 + 1, 0, none⟩ = some (.string ⟨me.toArray⟩) := cell_of_row _ _ 0 _ _ _ e7
                          have t1 : wc.cell? ⟨g + 1 + 1, 1, none⟩ = some (.string ⟨ta.toArray⟩) := cell_of_row _ _ 1 _ _ _ e7
                          have t2 : wc.cell? ⟨g + 1 + 1, 2, none⟩ = some (.int .i64 0) := cell_of_row _ _ 2 _ _ _ e7
                          have t3 : wc.cell? ⟨g + 1 + 1, 3, none⟩ = some (.int .i64 ver) := cell_of_row _ _ 3 _ _ _ e7
                          have t4 : wc.cell? ⟨g + 1 + 1, 4, none⟩ = some (.slice ad H.length cap) := cell_of_row _ _ 4 _ _ _ e7
                          have t5 : wc.cell? ⟨g + 1 + 1, 5, none⟩ = some (.string ⟨y.1.toArray⟩) := cell_of_row _ _ 5 _ _ _ e7
                          have t6 : wc.cell? ⟨g + 1 + 1, 6, none⟩ = some (.bool la) := cell_of_row _ _ 6 _ _ _ e7
                          have z0 : wc.cell? ⟨g, 0, none⟩ = some (.string ⟨#[]⟩) := cell_of_row _ _ 0 _ _ _ e0
                          have z1 : wc.cell? ⟨g, 1, none⟩ = some (.string ⟨#[]⟩) := cell_of_row _ _ 1 _ _ _ e0
                          have z2 : wc.cell? ⟨g, 2, none⟩ = some (.int .i64 0) := cell_of_row _ _ 2 _ _ _ e0
                          have z3 : wc.cell? ⟨g, 3, none⟩ = some (.int .i64 0) := cell_of_row _ _ 3 _ _ _ e0
                          have z4 : wc.cell? ⟨g, 4, none⟩ = some (.slice none 0 0) := cell_of_row _ _ 4 _ _ _ e0
                          have z5 : wc.cell? ⟨g, 5, none⟩ = some (.string ⟨#[]⟩) := cell_of_row _ _ 5 _ _ _ e0
                          have z6 : wc.cell? ⟨g, 6, none⟩ = some (.bool false) := cell_of_row _ _ 6 _ _ _ e0
                          have f0 := fun j => frozen_of_row _ _ j _ _ e0
                          have f00 := f0 0
                          have f01 := f0 1
                          have f02 := f0 2
                          have f03 := f0 3
                          have f04 := f0 4
                          have f05 := f0 5
                          have f06 := f0 6
                          clear hcut H7 HEND HKC HKK s7 w7 e7 e0 f0 hla
                          go_wp2
                          go_region
                          all_goals go_wp2
                          all_goals refine bodyPost_ret (results_row4 rfl _ _ g _ _ _ _ rfl HZ.out Tryz.underlying99 rfl (by kernel_rfl)) rfl ⟨_, k3, 0, 0, _, rfl, ?_⟩
                          all_goals refine ⟨Wo.toBelow H9.out.rd.bel HW7.out (fun k e => by omega) (by have := block_lt H9.out.rd.res; omega), fun e => ?_, fun z r k e => ?_⟩
                          · rw [HRES2.out] at e; cases e
                          · rw [HRES2.out, bind_ok_eq] at e
                            injection e with e1 e2 e3
                            subst e1 e2 e3
                            refine ⟨rfl, rfl, rfl, rfl, ⟨ad, cap, ?_, ?_⟩, ?_, ?_⟩
                            · show _ = mCells me ta 0 ver (.slice ad (o.map hdOf).length cap) y.1 (endsD (o.map hdOf) (decide (ver = 11)))
                              rw [HHO.out, HLA.out]
                            · show World.ownsRow _ g 57 2 (.slice ad (o.map hdOf).length cap) (o.map hdOf).length (hdCells (o.map hdOf))
                              rw [HHO.out]
                              exact row_baseR (row_wo (p := g) H9.out.row (by omega) HW7.out) (fun k e => by have := (H9.out.row.lt k e).1; omega)
                            · exact (Tryz.SS.c H9.out.rd.ss).2.2.2.1
                            · exact (Tryz.SS.c H9.out.rd.ss).2.2.2.2.2
    | true =>
      rcases peek_cases (bnd 0 0) R with hb | ⟨u, d, q, i, rfl, hi, hb, hp⟩
      · rw [hbt] at hb
        rw [hb] at q13
        cases q13
      have hlt := d.toNat_lt
      have hd : d = 13 := by
        rw [← hbt, hb] at q13
        simp only [beq_iff_eq] at q13
        exact UInt8.toNat_inj.1 (by show d.toNat = 13; omega)
      rw [hb, hp] at k1
      clear q13 hbt
      have q13 : (((d.toNat : Nat) : Int) == 13) = true := by rw [hd]; rfl
      have HLV : Hid (liveN s wr (g + 1) = s.length - i + 1) := Tryz.SS.live H0.out.ss
      have HE : Hid (∀ w' w'', Tryz.SS w' (g + 1) s 0 0 (.ok u (d :: q) i : Re Unit) → Tryz.RD w w' g s 0 0 (.ok u (d :: q) i : Re Unit) (mCells [] [] 0 0 (.slice none 0 0) [] false) → Wo (fun k => k = g + 1) w' w'' → Tryz.SS w'' (g + 1) s 0 0 ((.ok u (d :: q) i : Re Unit).bind fun _ r i => endD (bnd 0 0) r i) → ∃ R n, Hid (Tryz.RD w w'' g s 0 0 R (mCells [] [] 0 0 (.slice none 0 0) [] false)) ∧ Hid (AIn A R n) ∧ liveN s w'' (g + 1) < s.length - i + 1) := fun w' w'' h1 h2 h3 h4 => (by
        rw [bind_ok_eq] at h4
        have hall := HAI.out.all
        have hlen := HAI.out.len _ _ _ rfl
        rw [List.length_cons] at hlen
        obtain ⟨m, rfl⟩ : ∃ m, n = m + 1 := ⟨n - 1, by omega⟩
        rw [bind_ok_eq, aheadD_cons, if_pos hd] at hall
        refine ⟨endD (-1) (d :: q) i, m, Tryz.RD.call h2 h3 h4, ⟨hall, fun u2 r2 j2 e => ?_⟩, ?_⟩
        · have := con_end (-1) (d :: q) i _ _ _ e
          have h5 := (endD_len e).1
          rw [List.length_cons] at this h5
          omega
        · cases hx : endD (-1) (d :: q) i with
          | bad a e =>
            have h6 : Tryz.SS w'' (g + 1) s 0 0 (endD (-1) (d :: q) i) := h4
            rw [hx] at h6
            rw [Tryz.SS.over h6 (fun a r j e => by cases e)]
            omega
          | more =>
            have h6 : Tryz.SS w'' (g + 1) s 0 0 (endD (-1) (d :: q) i) := h4
            rw [hx] at h6
            rw [Tryz.SS.over h6 (fun a r j e => by cases e)]
            omega
          | ok u3 r3 j3 =>
            have h6 : Tryz.SS w'' (g + 1) s 0 0 (endD (-1) (d :: q) i) := h4
            rw [hx] at h6
            rw [Tryz.SS.live h6]
            have h7 := (Tryz.SS.len h6).1
            have h8 := Tryz.SS.len h1
            have h9 := (endD_len hx).1
            omega)
      have HR0 : Hid (∀ w', Wo (fun k => k = g + 1) wr w' → Tryz.SS w' (g + 1) s 0 0 (.ok u (d :: q) i : Re Unit) → Tryz.RD w w' g s 0 0 (.ok u (d :: q) i : Re Unit) (mCells [] [] 0 0 (.slice none 0 0) [] false)) := fun w' hw h => Tryz.RD.call H0.out hw h
      clear hb hp hd HAI H0 hi
      go_wp2_with (first
        | (go_at_call 62; refine k1.mono ?_; clear k1; rintro e w1 ⟨rfl, g1, hw1, hc1⟩; have H1 : Hid (Tryz.SS w1 (g + 1) s 0 0 (.ok u (d :: q) i : Re Unit) ∧ Tryz.RD w w1 g s 0 0 (.ok u (d :: q) i : Re Unit) (mCells [] [] 0 0 (.slice none 0 0) [] false)) := ⟨g1, HR0.out w1 hw1 g1⟩; have k2 := Tryz.ssEnd g1; clear g1 hw1 hc1 HR0)
        | (go_at_call 63; refine k2.mono ?_; clear k2; rintro e w2 ⟨⟨v2, rfl⟩, g2, hw2⟩; have H2 : Hid _ := HE.out w1 w2 H1.out.1 H1.out.2 hw2 g2; clear g2 hw2 HE H1)
        | fail)
      go_roundw
      case rel =>
        obtain ⟨R, n, h1, h2, _⟩ := H2.out
        exact ⟨R, n, h1, h2⟩
      case measure =>
        obtain ⟨R, n, h1, h2, h3⟩ := H2.out
        rw [HLV.out]
        exact h3
end Go.Proofs
