/-
  Laid together by packg.py of LawFTwice.
-/
import Derived.Test.YtdhgpkacilcfgaaGreatDoorPfH
import Derived.Deep.DeepCutAuto
namespace Go.Proofs
open Go.RowKit Go.Wi Go.Fd Go.Sort
set_option maxRecDepth 20000 in
set_option maxHeartbeats 4000000 in
theorem Tryz.feedTwiceWalk {w : World} {Va Vb : Value} {la lb : List Cn} {ask : Bool} (hA : Cs w Va la) (hA2 : ∀ k, Va.ownBlock = some k → k < w.heap.size) (hA3 : la.length ≤ 4398046510976) (hB : Cs w Vb lb) (hB2 : ∀ k, Vb.ownBlock = some k → k < w.heap.size) (hB3 : lb.length ≤ 4398046510976)
    (hD : (twD ask la (sheet la) (sheet lb)).length ≤ 4398046510976) (hT : Tryz.Tb w) :
    Calls Tryz.prog 3 #[Va, Vb, .bool ask] w fun e w' => e = .returned (.bool true) ∧ Below w.heap.size w w' := by
  have haw := Tryz.awake_any w hT
  have HT : Hid (Tryz.Tb w) := hT
  have HA : Hid (Cs w Va la ∧ (∀ k, Va.ownBlock = some k → k < w.heap.size) ∧ la.length ≤ 4398046510976) := ⟨hA, hA2, hA3⟩
  have HB : Hid (Cs w Vb lb ∧ (∀ k, Vb.ownBlock = some k → k < w.heap.size) ∧ lb.length ≤ 4398046510976) := ⟨hB, hB2, hB3⟩
  have HD : Hid ((twD ask la (sheet la) (sheet lb)).length ≤ 4398046510976) := hD
  have U1 : Hid ((⟨#[64, 97]⟩ : ByteArray).size ≤ maxLen) := by show _ ≤ _; unfold maxLen; decide
  have U2 : Hid ((⟨#[64, 98]⟩ : ByteArray).size ≤ maxLen) := by show _ ≤ _; unfold maxLen; decide
  have N1 : Hid ((⟨#[64, 97]⟩ : ByteArray) ≠ ⟨#[64, 98]⟩) := by intro e; injection e with e; injection e with e; cases e
  have hmx : Tryz.prog.follows .mixedOrders = true := by kernel_rfl
  clear hA hA2 hA3 hB hB2 hB3 hT hD
  go_enter Tryz.func3, Tryz.ntmps3
  go_upto_region 5 with (first
    | (go_at_call 5; refine haw.mono ?_; clear haw; rintro e w1 ⟨rfl, hb1⟩)
    | (go_at_call 6; refine (Tryz.Hx.new _).mono ?_; rintro e w2 ⟨hb, rfl, hX2, hb2⟩)
    | fail)
  have hb12 : Below w.heap.size w w2 := Fd.bel_on hb1 hb1.size hb2
  have hX0 : Tryz.Hx w.heap.size w2 hb 0 (fun _ => none) := by
    obtain ⟨own, p, mb, k1, k2⟩ := hX2.ex
    exact ⟨⟨own, p, mb, k1, fun k e => Nat.le_trans hb1.size (k2 k e)⟩, hb12.size⟩
  have hp1 := hX0.put ⟨#[64, 97]⟩ U1.out (by omega) (HA.out.1.below hb12 HA.out.2.1) (fun k e => Nat.lt_of_lt_of_le (HA.out.2.1 k e) hb12.size) (by have := HA.out.2.2; omega)
  clear hX2 hX0 hb1 hb2
  go_upto_region 6 with (first
    | (go_at_call 7; refine hp1.mono ?_; clear hp1; rintro e w3 ⟨rfl, hX3, hb3⟩)
    | fail)
  have hb13 := hb12.trans hb3
  have E1 : Fd.keptOf (putF (fun _ => none) ⟨#[64, 97]⟩ (sheet la)) ⟨#[64, 97]⟩ = tw1 (sheet la) := by rw [Fd.kept_put, if_pos rfl]; rfl
  have hs1 := Tryz.since_empty hX3 (HT.out.past hb13) U1.out
  rw [E1] at hs1
  go_upto_region 7 with (first
    | (go_at_call 8; refine hs1.mono ?_; clear hs1; rintro e w4 ⟨V4, l4, rfl, hl4, hr4, hb4⟩)
    | fail)
  have hb14 : Below w.heap.size w w4 := Fd.bel_on hb13 hb13.size hb4
  have hp2 := (hX3.past hb4).put ⟨#[64, 97]⟩ U1.out (by omega) (HB.out.1.below hb14 HB.out.2.1) (fun k e => Nat.lt_of_lt_of_le (HB.out.2.1 k e) hb14.size) (by have := HB.out.2.2; omega)
  clear hX3 hb12 hb3 hb13 hb4 hl4 hr4
  go_upto_region 8 with (first
    | (go_at_call 7; refine hp2.mono ?_; clear hp2; rintro e w5 ⟨rfl, hX5, hb5⟩)
    | fail)
  have hb15 := hb14.trans hb5
  have hp3 := hX5.put ⟨#[64, 98]⟩ U2.out (by omega) (HB.out.1.below hb15 HB.out.2.1) (fun k e => Nat.lt_of_lt_of_le (HB.out.2.1 k e) hb15.size) (by have := HB.out.2.2; omega)
  clear hX5 hb14 hb5
  go_upto_if 76 with (first
    | (go_at_call 7; refine hp3.mono ?_; clear hp3; rintro e w6 ⟨rfl, hX6, hb6⟩)
    | fail)
  have hb16 := hb15.trans hb6
  have E2 : Fd.keptOf (putF (putF (putF (fun _ => none) ⟨#[64, 97]⟩ (sheet la)) ⟨#[64, 97]⟩ (sheet lb)) ⟨#[64, 98]⟩ (sheet lb)) ⟨#[64, 97]⟩ = tw2 (sheet la) (sheet lb) := by rw [Fd.kept_put, if_neg N1.out, Fd.kept_put, if_pos rfl, E1]; rfl
  have E3 : Fd.keptOf (putF (putF (putF (fun _ => none) ⟨#[64, 97]⟩ (sheet la)) ⟨#[64, 97]⟩ (sheet lb)) ⟨#[64, 98]⟩ (sheet lb)) ⟨#[64, 98]⟩ = (putS sh0 (sheet lb)).getD sh0 := by
    rw [Fd.kept_put, if_pos rfl, Fd.kept_put, if_neg N1.out.symm, Fd.kept_put, if_neg N1.out.symm]
    rfl
  generalize putF (putF (putF (fun _ => none) ⟨#[64, 97]⟩ (sheet la)) ⟨#[64, 97]⟩ (sheet lb)) ⟨#[64, 98]⟩ (sheet lb) = F at *
  clear E1 hb15 hb6
  have HE2 : Hid (Fd.keptOf F ⟨#[64, 97]⟩ = tw2 (sheet la) (sheet lb)) := E2
  have HE3 : Hid (Fd.keptOf F ⟨#[64, 98]⟩ = (putS sh0 (sheet lb)).getD sh0) := E3
  have HX : Hid (Tryz.Hx w.heap.size w6 hb 3 F) := hX6
  have HB6 : Hid (Below w.heap.size w w6) := hb16
  clear E2 E3 hX6 hb16
  go_cut [12] (fun v wx => v = .string (if ask then ⟨#[]⟩ else Fd.fmt (tw1 (sheet la)).1) ∧ wx = w6)
  case first =>
    cases ask with
    | true =>
      go_wp2_with (fail)
      go_meet
      case rel => exact ⟨rfl, rfl⟩
    | false =>
      go_wp2_with (fail)
      go_meet
      case rel => exact ⟨rfl, rfl⟩
  case rest =>
    obtain ⟨rfl, hw⟩ := hcut
    subst hw
    have hsP : Hid (∀ W : World, Tryz.Hx w.heap.size W hb 3 F → Tryz.Tb W → Calls Tryz.prog 8 #[.pointer (some ⟨hb, 0, none⟩), .string ⟨#[64, 97]⟩, .string (if ask then ⟨#[]⟩ else Fd.fmt (tw1 (sheet la)).1)] W fun e w' => ∃ V G, e = .returned (.tuple #[V, G, .bool ask, .string (Fd.fmt (tw2 (sheet la) (sheet lb)).1), .int .i64 0]) ∧ w'.ownsRow W.heap.size 39 3 V (twC ask (sheet la) (sheet lb)).length (cnCells (twC ask (sheet la) (sheet lb))) ∧ w'.ownsRow W.heap.size 9 1 G (twG ask (sheet la) (sheet lb)).length ((twG ask (sheet la) (sheet lb)).map Value.string) ∧ Below W.heap.size W w') := fun W h1 h2 => Tryz.since_tw h1 h2 HE2.out ask
    have hHL : Hid ((sheet la).length ≤ 4398046510976 ∧ (sheet lb).length ≤ 4398046510976) := ⟨Nat.le_trans (sheet_len la) HA.out.2.2, Nat.le_trans (sheet_len lb) HB.out.2.2⟩
    have hfP : Hid (∀ (W : World) (V G : Value), Below w.heap.size w W → Cs W V (twC ask (sheet la) (sheet lb)) → (∀ k, V.ownBlock = some k → k < W.heap.size) → Ts W G (twG ask (sheet la) (sheet lb)) → (∀ k, G.ownBlock = some k → k < W.heap.size) → Calls Tryz.prog 9 #[Va, V, G, .bool ask] W fun e w' => ∃ V', e = .returned V' ∧ w'.ownsRow W.heap.size 39 3 V' (twD ask la (sheet la) (sheet lb)).length (cnCells (twD ask la (sheet la) (sheet lb))) ∧ Below W.heap.size W w') := fun W V G k1 k2 k3 k4 k5 =>
      Tryz.fold_tw ask (HA.out.1.below k1 HA.out.2.1) (fun k e => Nat.lt_of_lt_of_le (HA.out.2.1 k e) k1.size) k2 k3 k4 k5 (by have := HA.out.2.2; omega) (by have := hHL.out; omega) (by have := hHL.out; omega) (by have := HD.out; omega)
    have HLC : Hid ((twC ask (sheet la) (sheet lb)).length ≤ 4398046510976) := Nat.le_trans (twC_len _ _ _) hHL.out.2
    have HLG : Hid ((twG ask (sheet la) (sheet lb)).length ≤ 4398046510976) := Nat.le_trans (twG_len _ _ _) hHL.out.1
    have HLZ : Hid ((sheet (sheet lb)).length ≤ 4398046510976) := Nat.le_trans (sheet_len _) hHL.out.2
    have HLB : Hid ((sheet lb).length ≤ 4398046510976) := hHL.out.2
    generalize (if ask then (⟨#[]⟩ : ByteArray) else Fd.fmt (tw1 (sheet la)).1) = place at *
    generalize twC ask (sheet la) (sheet lb) = C at *
    generalize twG ask (sheet la) (sheet lb) = Gn at *
    generalize twD ask la (sheet la) (sheet lb) = D at *
    generalize Fd.fmt (tw2 (sheet la) (sheet lb)).1 = nxt at *
    have hs1 := hsP.out _ HX.out (HT.out.past HB6.out)
    go_upto_region 12 with (first
      | (go_at_call 8; refine hs1.mono ?_; clear hs1; rintro e w7 ⟨V1, G1, rfl, hv1, hg1, hb7⟩)
      | fail)
    have hs2 := Tryz.since_empty (HX.out.past hb7) ((HT.out.past HB6.out).past hb7) U2.out
    rw [HE3.out] at hs2
    go_upto_region 13 with (first
      | (go_at_call 8; refine hs2.mono ?_; clear hs2; rintro e w8 ⟨VM, lm, rfl, hlm, hvm, hb8⟩)
      | fail)
    rw [Fd.last_put] at hlm
    cases hlm
    have hb78 : Below wc.heap.size wc w8 := Fd.bel_on hb7 hb7.size hb8
    have P1 : Hid (∀ k, V1.ownBlock = some k → wc.heap.size ≤ k ∧ k < w7.heap.size) := fun k e => hv1.lt k e
    have PG1 : Hid (∀ k, G1.ownBlock = some k → wc.heap.size ≤ k ∧ k < w7.heap.size) := fun k e => hg1.lt k e
    have PM : Hid (∀ k, VM.ownBlock = some k → w7.heap.size ≤ k ∧ k < w8.heap.size) := fun k e => hvm.lt k e
    have hs3 := hsP.out _ (HX.out.past hb78) ((HT.out.past HB6.out).past hb78)
    go_upto_region 14 with (first
      | (go_at_call 8; refine hs3.mono ?_; clear hs3; rintro e w9 ⟨V2, G2, rfl, hv2, hg2, hb9⟩)
      | fail)
    have hb79 : Below wc.heap.size wc w9 := Fd.bel_on hb78 hb78.size hb9
    have hv19 := Fd.row_past (Fd.row_past hv1 hb8 (Nat.le_refl _)) hb9 (Nat.le_refl _)
    have hg19 := Fd.row_past (Fd.row_past hg1 hb8 (Nat.le_refl _)) hb9 (Nat.le_refl _)
    have hvm9 := Fd.row_past hvm hb9 (Nat.le_refl _)
    have HB9 : Hid (Below w.heap.size w w9) := Fd.bel_on HB6.out HB6.out.size hb79
    have hf1 := hfP.out w9 V1 G1 HB9.out (Cs.ofRow hv19) (fun k e => (hv19.lt k e).2) (Ts.ofRow hg19) (fun k e => (hg19.lt k e).2)
    have P2 : Hid (∀ k, V2.ownBlock = some k → w8.heap.size ≤ k ∧ k < w9.heap.size) := fun k e => hv2.lt k e
    have PG2 : Hid (∀ k, G2.ownBlock = some k → w8.heap.size ≤ k ∧ k < w9.heap.size) := fun k e => hg2.lt k e
    have ZS : Hid (w.heap.size ≤ wc.heap.size ∧ wc.heap.size ≤ w7.heap.size ∧ w7.heap.size ≤ w8.heap.size ∧ w8.heap.size ≤ w9.heap.size) := ⟨HB6.out.size, hb7.size, hb8.size, hb9.size⟩
    clear hv1 hg1 hvm hb7 hb8 hb9 hb78 hb79 HX hsP
    go_upto_region 15 with (first
      | (go_at_call 9; refine hf1.mono ?_; clear hf1; rintro e w10 ⟨VX, rfl, hx, hb10⟩)
      | fail)
    have PX : Hid (∀ k, VX.ownBlock = some k → w9.heap.size ≤ k ∧ k < w10.heap.size) := fun k e => hx.lt k e
    have HB10 : Hid (Below w.heap.size w w10) := Fd.bel_on HB9.out HB9.out.size hb10
    have R1 := Fd.row_past hv19 hb10 (Nat.le_refl _)
    have R2 := Fd.row_past hv2 hb10 (Nat.le_refl _)
    have RM := Fd.row_past hvm9 hb10 (Nat.le_refl _)
    have S1 := Fd.row_past hg19 hb10 (Nat.le_refl _)
    have S2 := Fd.row_past hg2 hb10 (Nat.le_refl _)
    clear hv19 hv2 hvm9 hg19 hg2
    have hf2 := hfP.out w10 V2 G2 HB10.out (Cs.ofRow R2) (fun k e => (R2.lt k e).2) (Ts.ofRow S2) (fun k e => (S2.lt k e).2)
    go_upto_region 16 with (first
      | (go_at_call 9; refine hf2.mono ?_; clear hf2; rintro e w11 ⟨VY, rfl, hy, hb11⟩)
      | fail)
    have PY : Hid (∀ k, VY.ownBlock = some k → w10.heap.size ≤ k ∧ k < w11.heap.size) := fun k e => hy.lt k e
    have HB11 : Hid (Below w.heap.size w w11) := Fd.bel_on HB10.out HB10.out.size hb11
    have RM' := Fd.row_past RM hb11 (Nat.le_refl _)
    have hf3 := Tryz.fold_all (Va := Vb) (Vg := .slice none 0 0) (Cs.ofRow RM') (fun k e => (RM'.lt k e).2) (by have := HLB.out; omega)
    obtain ⟨ga1, gc1, rfl⟩ := Fd.row_is S1
    obtain ⟨ga2, gc2, rfl⟩ := Fd.row_is S2
    go_upto_region 19 with (first
      | (go_at_call 9; refine hf3.mono ?_; clear hf3; rintro e w12 ⟨VZ, rfl, hz, hb12⟩)
      | fail)
    have PZ : Hid (∀ k, VZ.ownBlock = some k → w11.heap.size ≤ k ∧ k < w12.heap.size) := fun k e => hz.lt k e
    have ZT : Hid (w9.heap.size ≤ w10.heap.size ∧ w10.heap.size ≤ w11.heap.size ∧ w11.heap.size ≤ w12.heap.size) := ⟨hb10.size, hb11.size, hb12.size⟩
    have HR : Hid (w12.ownsRow 0 39 3 V1 C.length (cnCells C) ∧ w12.ownsRow 0 39 3 VM (sheet lb).length (cnCells (sheet lb)) ∧ w12.ownsRow 0 39 3 V2 C.length (cnCells C) ∧ w12.ownsRow 0 39 3 VX D.length (cnCells D) ∧ w12.ownsRow 0 39 3 VY D.length (cnCells D) ∧ w12.ownsRow 0 39 3 VZ (sheet (sheet lb)).length (cnCells (sheet (sheet lb)))) :=
      ⟨Fd.row_mono (Fd.row_past (Fd.row_past R1 hb11 (Nat.le_refl _)) hb12 (Nat.le_refl _)) (Nat.zero_le _), Fd.row_mono (Fd.row_past RM' hb12 (Nat.le_refl _)) (Nat.zero_le _), Fd.row_mono (Fd.row_past (Fd.row_past R2 hb11 (Nat.le_refl _)) hb12 (Nat.le_refl _)) (Nat.zero_le _), Fd.row_mono (Fd.row_past (Fd.row_past hx hb11 (Nat.le_refl _)) hb12 (Nat.le_refl _)) (Nat.zero_le _), Fd.row_mono (Fd.row_past hy hb12 (Nat.le_refl _)) (Nat.zero_le _), Fd.row_mono hz (Nat.zero_le _)⟩
    have HS : Hid (w12.ownsRow 0 9 1 (.slice ga1 Gn.length gc1) Gn.length (Gn.map Value.string) ∧ w12.ownsRow 0 9 1 (.slice ga2 Gn.length gc2) Gn.length (Gn.map Value.string)) := ⟨Fd.row_mono (Fd.row_past (Fd.row_past S1 hb11 (Nat.le_refl _)) hb12 (Nat.le_refl _)) (Nat.zero_le _), Fd.row_mono (Fd.row_past (Fd.row_past S2 hb11 (Nat.le_refl _)) hb12 (Nat.le_refl _)) (Nat.zero_le _)⟩
    have HB12 : Hid (Below w.heap.size w w12) := Fd.bel_on HB11.out HB11.out.size hb12
    clear R1 R2 RM RM' S1 S2 hx hy hz hb10 hb11 hb12 hfP HB9 HB10 HB11 HE2 HE3 HT HA HB N1 U1 U2
    have hNG : Gn.length ≤ 4398046510976 := HLG.out
    go_upto_region 20 with (fail)
    go_loopw [32] (fun iv wr => ∃ i : Nat, iv = .int .i64 i ∧ i ≤ Gn.length ∧ ∃ q, wr = w12.drewN q) (fun iv _ => Gn.length - (intOf iv).toNat)
    case atStart => exact ⟨0, rfl, Nat.zero_le _, 0, rfl⟩
    case round =>
      obtain ⟨i, rfl, hi, q, rfl⟩ := hrel
      by_cases hlt : i < Gn.length
      · have q1 : (i : Int) < (Gn.length : Int) := by omega
        obtain ⟨g1, o1, rfl, c1⟩ := (Ts.ofRow HS.out.1).at hlt
        obtain ⟨g2, o2, rfl, c2⟩ := (Ts.ofRow HS.out.2).at hlt
        have C1 : ∀ n, (w12.drewN n).cell? ⟨g1, o1 + i, none⟩ = some (.string Gn[i]) := fun _ => c1
        have C2 : ∀ n, (w12.drewN n).cell? ⟨g2, o2 + i, none⟩ = some (.string Gn[i]) := fun _ => c2
        clear c1 c2
        generalize Gn[i] = x at *
        go_wp2_with (fail)
        go_quiet (fail)
        go_wp2
        go_roundw
        case rel => exact ⟨i + 1, by simp, by omega, q + nq, by first | rfl | exact World.drewN_drewN _ _ _⟩
        case measure => simp [intOf]; omega
      · have q1 : ¬ (i : Int) < (Gn.length : Int) := by omega
        clear hi
        go_upto_region 24 with (fail)
        have HR' : Hid ((w12.drewN q).ownsRow 0 39 3 V1 C.length (cnCells C) ∧ (w12.drewN q).ownsRow 0 39 3 VM (sheet lb).length (cnCells (sheet lb)) ∧ (w12.drewN q).ownsRow 0 39 3 V2 C.length (cnCells C) ∧ (w12.drewN q).ownsRow 0 39 3 VX D.length (cnCells D) ∧ (w12.drewN q).ownsRow 0 39 3 VY D.length (cnCells D) ∧ (w12.drewN q).ownsRow 0 39 3 VZ (sheet (sheet lb)).length (cnCells (sheet (sheet lb)))) :=
          ⟨Fd.row_keep HR.out.1 fun _ _ => rfl, Fd.row_keep HR.out.2.1 fun _ _ => rfl, Fd.row_keep HR.out.2.2.1 fun _ _ => rfl, Fd.row_keep HR.out.2.2.2.1 fun _ _ => rfl, Fd.row_keep HR.out.2.2.2.2.1 fun _ _ => rfl, Fd.row_keep HR.out.2.2.2.2.2 fun _ _ => rfl⟩
        have HS' : Hid ((w12.drewN q).ownsRow 0 9 1 (.slice ga1 Gn.length gc1) Gn.length (Gn.map Value.string) ∧ (w12.drewN q).ownsRow 0 9 1 (.slice ga2 Gn.length gc2) Gn.length (Gn.map Value.string)) := ⟨Fd.row_keep HS.out.1 fun _ _ => rfl, Fd.row_keep HS.out.2 fun _ _ => rfl⟩
        have HBd : Hid (Below w.heap.size w (w12.drewN q)) := belowN HB12.out q
        have ZT' : Hid (w9.heap.size ≤ w10.heap.size ∧ w10.heap.size ≤ w11.heap.size ∧ w11.heap.size ≤ w12.heap.size ∧ w12.heap.size ≤ (w12.drewN q).heap.size) := ⟨ZT.out.1, ZT.out.2.1, ZT.out.2.2, Nat.le_refl _⟩
        clear HR HS HB12 ZT
        generalize w12.drewN q = wd at *
        generalize w12.heap.size = z12 at *
        obtain ⟨a1, c1, rfl⟩ := Fd.row_is HR'.out.1
        obtain ⟨aM, cM, rfl⟩ := Fd.row_is HR'.out.2.1
        obtain ⟨a2, c2, rfl⟩ := Fd.row_is HR'.out.2.2.1
        obtain ⟨aX, cX, rfl⟩ := Fd.row_is HR'.out.2.2.2.1
        obtain ⟨aY, cY, rfl⟩ := Fd.row_is HR'.out.2.2.2.2.1
        obtain ⟨aZ, cZ, rfl⟩ := Fd.row_is HR'.out.2.2.2.2.2
        go_upto_region 25 with (first
          | (at_builtin; refine Tryz.appNew rfl _ _ rfl rfl (Cs.ofRow HR'.out.1) rfl (by have := HLC.out; omega) ?_; intro WL w13 r13 b13)
          | fail)
        go_upto_region 26 with (first
          | (at_builtin; refine Tryz.appNew rfl _ _ rfl rfl ((Cs.ofRow HR'.out.2.1).past b13) rfl (by have := HLB.out; omega) ?_; intro WM w14 r14 b14)
          | fail)
        have b14' : Below wd.heap.size wd w14 := Fd.bel_on b13 b13.size b14
        go_upto_region 27 with (first
          | (at_builtin; refine Tryz.appNew rfl _ _ rfl rfl ((Cs.ofRow HR'.out.2.2.2.1).past b14') rfl (by have := HD.out; omega) ?_; intro WX w15 r15 b15)
          | fail)
        have b15' : Below wd.heap.size wd w15 := Fd.bel_on b14' b14'.size b15
        go_upto_region 28 with (first
          | (at_builtin; refine Tryz.appNew rfl _ _ rfl rfl ((Cs.ofRow HR'.out.2.2.2.2.2).past b15') rfl (by have := HLZ.out; omega) ?_; intro WZ w16 r16 b16)
          | fail)
        have b16' : Below wd.heap.size wd w16 := Fd.bel_on b15' b15'.size b16
        go_upto_region 29 with (first
          | (at_builtin; refine Tryz.appNewT rfl _ _ rfl rfl ((Ts.ofRow HS'.out.1).past b16') rfl (by have := HLG.out; omega) ?_; intro WG w17 r17 b17)
          | fail)
        have b17' : Below wd.heap.size wd w17 := Fd.bel_on b16' b16'.size b17
        obtain ⟨aL, cL, rfl⟩ := Fd.row_is r13
        obtain ⟨aN, cN, rfl⟩ := Fd.row_is r14
        obtain ⟨aQ, cQ, rfl⟩ := Fd.row_is r15
        obtain ⟨aR, cR, rfl⟩ := Fd.row_is r16
        obtain ⟨aG, cG, rfl⟩ := Fd.row_is r17
        have hc1 := Tryz.counted_any ((Cs.ofRow HR'.out.1).past b17') ((Cs.ofRow HR'.out.2.2.1).past b17') (by have := HLC.out; omega)
        rw [decide_eq_true rfl] at hc1
        go_upto_region 30 with (first
          | (go_at_call 10; refine hc1.mono ?_; clear hc1; rintro e w18 ⟨rfl, q2, rfl⟩)
          | fail)
        have b18' : Below wd.heap.size wd (w17.drewN q2) := belowN b17' q2
        have hc2 := Tryz.counted_any ((Cs.ofRow HR'.out.2.2.2.1).past b18') ((Cs.ofRow HR'.out.2.2.2.2.1).past b18') (by have := HD.out; omega)
        rw [decide_eq_true rfl] at hc2
        go_upto_region 33 with (first
          | (go_at_call 10; refine hc2.mono ?_; clear hc2; rintro e w19 ⟨rfl, q3, rfl⟩)
          | fail)
        have b19' : Below wd.heap.size wd (w17.drewN (q2 + q3)) := belowN b17' _
        have k13 := Fd.row_keep (Fd.row_mono (Fd.row_past (Fd.row_past (Fd.row_past (Fd.row_past r13 b14 (Nat.le_refl _)) b15 (Nat.le_refl _)) b16 (Nat.le_refl _)) b17 (Nat.le_refl _)) (Nat.zero_le _)) (w' := w17.drewN (q2 + q3)) fun _ _ => rfl
        have k14 := Fd.row_keep (Fd.row_mono (Fd.row_past (Fd.row_past (Fd.row_past r14 b15 (Nat.le_refl _)) b16 (Nat.le_refl _)) b17 (Nat.le_refl _)) (Nat.zero_le _)) (w' := w17.drewN (q2 + q3)) fun _ _ => rfl
        have k15 := Fd.row_keep (Fd.row_mono (Fd.row_past (Fd.row_past r15 b16 (Nat.le_refl _)) b17 (Nat.le_refl _)) (Nat.zero_le _)) (w' := w17.drewN (q2 + q3)) fun _ _ => rfl
        have k16 := Fd.row_keep (Fd.row_mono (Fd.row_past r16 b17 (Nat.le_refl _)) (Nat.zero_le _)) (w' := w17.drewN (q2 + q3)) fun _ _ => rfl
        have k17 := Fd.row_keep (Fd.row_mono r17 (Nat.zero_le _)) (w' := w17.drewN (q2 + q3)) fun _ _ => rfl
        have PW : Hid ((∀ k, (Value.slice aL C.length cL).ownBlock = some k → wd.heap.size ≤ k) ∧ (∀ k, (Value.slice aN (sheet lb).length cN).ownBlock = some k → wd.heap.size ≤ k) ∧ (∀ k, (Value.slice aQ D.length cQ).ownBlock = some k → wd.heap.size ≤ k) ∧ (∀ k, (Value.slice aR (sheet (sheet lb)).length cR).ownBlock = some k → wd.heap.size ≤ k)) :=
          ⟨fun k e => (r13.lt k e).1, fun k e => Nat.le_trans b13.size (r14.lt k e).1, fun k e => Nat.le_trans b14'.size (r15.lt k e).1, fun k e => Nat.le_trans b15'.size (r16.lt k e).1⟩
        have HQ : Hid ((w17.drewN (q2 + q3)).ownsRow 0 39 3 (.slice aL C.length cL) C.length (cnCells C) ∧ (w17.drewN (q2 + q3)).ownsRow 0 39 3 (.slice aN (sheet lb).length cN) (sheet lb).length (cnCells (sheet lb)) ∧ (w17.drewN (q2 + q3)).ownsRow 0 39 3 (.slice aQ D.length cQ) D.length (cnCells D) ∧ (w17.drewN (q2 + q3)).ownsRow 0 39 3 (.slice aR (sheet (sheet lb)).length cR) (sheet (sheet lb)).length (cnCells (sheet (sheet lb))) ∧ (w17.drewN (q2 + q3)).ownsRow 0 9 1 (.slice aG Gn.length cG) Gn.length (Gn.map Value.string)) := ⟨k13, k14, k15, k16, k17⟩
        have PG3 : Hid (∀ k, (Value.slice aG Gn.length cG).ownBlock = some k → wd.heap.size ≤ k) := fun k e => Nat.le_trans b16'.size (r17.lt k e).1
        have HBl : Hid (Below wd.heap.size wd (w17.drewN (q2 + q3))) := b19'
        clear r13 r14 r15 r16 r17 b13 b14 b15 b16 b17 b14' b15' b16' b17' b18' b19' k13 k14 k15 k16 k17
        generalize w17.drewN (q2 + q3) = wl at *
        go_upto_region 35 with (fail)
        obtain ⟨we, hwe⟩ : ∃ W, W = (wl.alloc (.cells #[.slice a1 C.length c1, .slice aM (sheet lb).length cM, .slice a2 C.length c2, .slice aX D.length cX, .slice aY D.length cY, .slice aZ (sheet (sheet lb)).length cZ] 22)).alloc (.cells #[.slice aL C.length cL, .slice aN (sheet lb).length cN, .slice aL C.length cL, .slice aQ D.length cQ, .slice aQ D.length cQ, .slice aR (sheet (sheet lb)).length cR] 22) := ⟨_, rfl⟩
        rw [← hwe]
        have be1 : Below wl.heap.size wl we := by rw [hwe]; exact ((Below.refl _ wl).alloc (Nat.le_refl _) _).alloc (by rw [World.size_alloc]; exact Nat.le_succ _) _
        have hL : we.heap[wl.heap.size]? = some (.cells #[.slice a1 C.length c1, .slice aM (sheet lb).length cM, .slice a2 C.length c2, .slice aX D.length cX, .slice aY D.length cY, .slice aZ (sheet (sheet lb)).length cZ] 22 (0, 0)) := by rw [hwe, heap_alloc_old _ _ (by rw [World.size_alloc]; exact Nat.lt_succ_self _)]; exact heap_alloc_new _ _
        have hW : we.heap[wl.heap.size + 1]? = some (.cells #[.slice aL C.length cL, .slice aN (sheet lb).length cN, .slice aL C.length cL, .slice aQ D.length cQ, .slice aQ D.length cQ, .slice aR (sheet (sheet lb)).length cR] 22 (0, 0)) := by
          have := heap_alloc_new (wl.alloc (.cells #[.slice a1 C.length c1, .slice aM (sheet lb).length cM, .slice a2 C.length c2, .slice aX D.length cX, .slice aY D.length cY, .slice aZ (sheet (sheet lb)).length cZ] 22)) (.cells #[.slice aL C.length cL, .slice aN (sheet lb).length cN, .slice aL C.length cL, .slice aQ D.length cQ, .slice aQ D.length cQ, .slice aR (sheet (sheet lb)).length cR] 22)
          rw [World.size_alloc] at this
          rw [hwe]
          exact this
        have bwe : Below wd.heap.size wd we := Fd.bel_on HBl.out HBl.out.size be1
        have hs1 := Fd.row_past HS'.out.1 bwe (Nat.le_refl _)
        have hs2 := Fd.row_past HS'.out.2 bwe (Nat.le_refl _)
        have hs3 := Fd.row_past HQ.out.2.2.2.2 be1 (Nat.le_refl _)
        have hTw : ∃ (LA WA : Array Value) (lv wv gv : Nat → Value) (c : Nat → List Cn), Tryz.Tw w (fun k => (Value.slice ga1 Gn.length gc1).ownBlock = some k ∨ (Value.slice ga2 Gn.length gc2).ownBlock = some k) wl.heap.size (wl.heap.size + 1) LA WA lv wv c (.slice ga1 Gn.length gc1) (.slice ga2 Gn.length gc2) (.slice aG Gn.length cG) Gn 0 0 (.slice none 0 0) gv we ∧ (∀ j, j < 6 → LA[j]? = some (lv j)) ∧ (∀ j, j < 6 → WA[j]? = some (wv j)) ∧ ∀ j, j < 6 → (c j).length + 12 ≤ 4398046511104 := by
          have zs := ZS.out
          have zt := ZT'.out
          refine ⟨_, _, Fd.six (.slice a1 C.length c1) (.slice aM (sheet lb).length cM) (.slice a2 C.length c2) (.slice aX D.length cX) (.slice aY D.length cY) (.slice aZ (sheet (sheet lb)).length cZ), Fd.six (.slice aL C.length cL) (.slice aN (sheet lb).length cN) (.slice aL C.length cL) (.slice aQ D.length cQ) (.slice aQ D.length cQ) (.slice aR (sheet (sheet lb)).length cR), fun _ => undef, Fd.six C (sheet lb) C D D (sheet (sheet lb)), ?_, Fd.six_lit, Fd.six_lit, ?_⟩
          · refine ⟨Tryz.Six.init (Fd.sev wc.heap.size w7.heap.size w8.heap.size w9.heap.size w10.heap.size w11.heap.size z12) (Fd.six_all zs.2.1 zs.2.2.1 zs.2.2.2 zt.1 zt.2.1 zt.2.2.1) ?_ ?_ ?_ ?_ ?_, hL, hW, World.ownsRow_nil _ _ _ _, (fun k e => by cases e), hs1, hs2, hs3, Fd.bel_on HBd.out HBd.out.size bwe, ?_⟩
            · exact Fd.six_all (Fd.row_past HR'.out.1 bwe (Nat.le_refl _)) (Fd.row_past HR'.out.2.1 bwe (Nat.le_refl _)) (Fd.row_past HR'.out.2.2.1 bwe (Nat.le_refl _)) (Fd.row_past HR'.out.2.2.2.1 bwe (Nat.le_refl _)) (Fd.row_past HR'.out.2.2.2.2.1 bwe (Nat.le_refl _)) (Fd.row_past HR'.out.2.2.2.2.2 bwe (Nat.le_refl _))
            · exact Fd.six_all (Fd.row_past HQ.out.1 be1 (Nat.le_refl _)) (Fd.row_past HQ.out.2.1 be1 (Nat.le_refl _)) (Fd.row_past HQ.out.1 be1 (Nat.le_refl _)) (Fd.row_past HQ.out.2.2.1 be1 (Nat.le_refl _)) (Fd.row_past HQ.out.2.2.1 be1 (Nat.le_refl _)) (Fd.row_past HQ.out.2.2.2.1 be1 (Nat.le_refl _))
            · exact Fd.six_all P1.out PM.out P2.out PX.out PY.out PZ.out
            · have zz : ∀ k, wd.heap.size ≤ k → z12 ≤ k := fun k h => Nat.le_trans zt.2.2.2 h
              exact Fd.six_all (fun k e => zz k (PW.out.1 k e)) (fun k e => zz k (PW.out.2.1 k e)) (fun k e => zz k (PW.out.1 k e)) (fun k e => zz k (PW.out.2.2.1 k e)) (fun k e => zz k (PW.out.2.2.1 k e)) (fun k e => zz k (PW.out.2.2.2 k e))
            · rintro k (e | e)
              · exact ⟨_, _, _, _, _, by decide, hs1, e⟩
              · exact ⟨_, _, _, _, _, by decide, hs2, e⟩
            · exact Fd.six_all (fun k e => by have := P1.out k e; omega) (fun k e => by have := PM.out k e; omega) (fun k e => by have := P2.out k e; omega) (fun k e => by have := PX.out k e; omega) (fun k e => by have := PY.out k e; omega) (fun k e => by have := PZ.out k e; omega)
          · exact Fd.six_all (by have := HLC.out; show C.length + 12 ≤ _; omega) (by have := HLB.out; show (sheet lb).length + 12 ≤ _; omega) (by have := HLC.out; show C.length + 12 ≤ _; omega) (by have := HD.out; show D.length + 12 ≤ _; omega) (by have := HD.out; show D.length + 12 ≤ _; omega) (by have := HLZ.out; show (sheet (sheet lb)).length + 12 ≤ _; omega)
        have HSep : Hid ((∀ k, (Value.slice ga1 Gn.length gc1).ownBlock = some k → (Value.slice ga2 Gn.length gc2).ownBlock ≠ some k) ∧ (∀ k, (Value.slice ga1 Gn.length gc1).ownBlock = some k → (Value.slice aG Gn.length cG).ownBlock ≠ some k) ∧ (∀ k, (Value.slice ga2 Gn.length gc2).ownBlock = some k → (Value.slice aG Gn.length cG).ownBlock ≠ some k) ∧ (∀ k, (Value.slice ga1 Gn.length gc1).ownBlock = some k → w.heap.size ≤ k) ∧ (∀ k, (Value.slice ga2 Gn.length gc2).ownBlock = some k → w.heap.size ≤ k)) := by
          have zs := ZS.out
          have zt := ZT'.out
          refine ⟨fun k e e' => ?_, fun k e e' => ?_, fun k e e' => ?_, fun k e => ?_, fun k e => ?_⟩
          · have := PG1.out k e; have := PG2.out k e'; omega
          · have := PG1.out k e; have := PG3.out k e'; omega
          · have := PG2.out k e; have := PG3.out k e'; omega
          · have := PG1.out k e; omega
          · have := PG2.out k e; omega
        obtain ⟨LA, WA, lv, wv, gv0, c, hTw, hLA, hWA, hcl⟩ := hTw
        have HLA : Hid (∀ j, j < 6 → LA[j]? = some (lv j)) := hLA
        have HWA : Hid (∀ j, j < 6 → WA[j]? = some (wv j)) := hWA
        have HCL : Hid (∀ j, j < 6 → (c j).length + 12 ≤ 4398046511104) := hcl
        have HTw : Hid (Tryz.Tw w (fun k => (Value.slice ga1 Gn.length gc1).ownBlock = some k ∨ (Value.slice ga2 Gn.length gc2).ownBlock = some k) wl.heap.size (wl.heap.size + 1) LA WA lv wv c (.slice ga1 Gn.length gc1) (.slice ga2 Gn.length gc2) (.slice aG Gn.length cG) Gn 0 0 (.slice none 0 0) gv0 we) := hTw
        clear hTw hLA hWA hcl hwe be1 hL hW bwe hs1 hs2 hs3 HR' HS' HQ HBl HBd PW PG1 PG2 PG3 P1 PM P2 PX PY PZ ZS ZT' HLC HLB HLZ HD hHL HB6
        generalize wl.heap.size + 1 = gW at *
        generalize wl.heap.size = gL at *
        go_upto_region 37 with (fail)
        go_loopw [42, 43, 44, 45, 46] (fun G iv _ _ _ wr => ∃ (i : Nat) (gv : Nat → Value), iv = .int .i64 i ∧ i ≤ 6 ∧ Tryz.Tw w (fun k => (Value.slice ga1 Gn.length gc1).ownBlock = some k ∨ (Value.slice ga2 Gn.length gc2).ownBlock = some k) gL gW LA WA lv wv c (.slice ga1 Gn.length gc1) (.slice ga2 Gn.length gc2) (.slice aG Gn.length cG) Gn i i G gv wr) (fun _ iv _ _ _ _ => 6 - (intOf iv).toNat)
        case atStart => exact ⟨0, gv0, rfl, by omega, HTw.out⟩
        case round =>
          obtain ⟨i, gv, rfl, hi, hTw⟩ := hrel
          have HT : Hid (Tryz.Tw w (fun k => (Value.slice ga1 Gn.length gc1).ownBlock = some k ∨ (Value.slice ga2 Gn.length gc2).ownBlock = some k) gL gW LA WA lv wv c (.slice ga1 Gn.length gc1) (.slice ga2 Gn.length gc2) (.slice aG Gn.length cG) Gn i i u42 gv wr) := hTw
          clear hTw
          by_cases hlt : i < 6
          · have q1 : (i : Int) < 6 := by omega
            go_upto_region 40 with (fail)
            generalize wr = wa at *
            go_loopw [44, 45] (fun jv _ wr => ∃ (j q : Nat), jv = .int .i64 j ∧ i ≤ j ∧ j ≤ 6 ∧ wr = wa.drewN q) (fun jv _ _ => 6 - (intOf jv).toNat)
            case atStart => exact ⟨i, 0, rfl, Nat.le_refl _, by omega, rfl⟩
            case round =>
              obtain ⟨j, q, rfl, hj1, hj2, rfl⟩ := hrel
              by_cases hlj : j < 6
              · have q2 : (j : Int) < 6 := by omega
                have c1 : ∀ n, ((wa.drewN q).drewN n).cell? ⟨gL, j, none⟩ = some (lv j) := fun _ => Fd.cell_lit HT.out.li (HLA.out j hlj)
                have c2 : ∀ n, ((wa.drewN q).drewN n).cell? ⟨gW, j, none⟩ = some (wv j) := fun _ => Fd.cell_lit HT.out.wa (HWA.out j hlj)
                have hc : ∀ n, Calls Tryz.prog 10 #[lv j, wv j] ((wa.drewN q).drewN n) fun e w' => e = .returned (.bool true) ∧ ∃ q', w' = ((wa.drewN q).drewN n).drewN q' := fun n => by
                  have h1 := HT.out.six.row j hj1 hlj
                  have := Tryz.counted_any (w := (wa.drewN q).drewN n) ((Cs.ofRow h1).keep fun _ _ => rfl) ((HT.out.six.was j hlj).keep fun _ _ => rfl) (by have := HCL.out j hlj; omega)
                  rwa [decide_eq_true rfl] at this
                obtain ⟨wz, hwz⟩ : ∃ W, W = wa.drewN q := ⟨_, rfl⟩
                have HZ : Hid (wz = wa.drewN q) := hwz
                rw [← hwz] at c1 c2 hc ⊢
                clear hwz
                go_wp2_with (fail)
                go_quiet (first | (go_at_call 10; exact Calls.quiet_of (hc _)))
                go_wp2
                go_roundw
                case rel => exact ⟨j + 1, q + nq, by simp, by omega, by omega, by rw [HZ.out]; exact World.drewN_drewN _ _ _⟩
                case measure => simp [intOf]; omega
              · have q2 : ¬ (j : Int) < 6 := by omega
                have hT2 := HT.out.past (by omega) (belowN (Below.refl _ wa) q)
                have HT2 : Hid (Tryz.Tw w (fun k => (Value.slice ga1 Gn.length gc1).ownBlock = some k ∨ (Value.slice ga2 Gn.length gc2).ownBlock = some k) gL gW LA WA lv wv c (.slice ga1 Gn.length gc1) (.slice ga2 Gn.length gc2) (.slice aG Gn.length cG) Gn i i u42 gv (wa.drewN q)) := hT2
                clear hT2 HT
                generalize wa.drewN q = wb at *
                have c1 : wb.cell? ⟨gL, i, none⟩ = some (lv i) := Fd.cell_lit HT2.out.li (HLA.out i hlt)
                have how := Tryz.owns_any (n := i) (HT2.out.six.row i (Nat.le_refl _) hlt) (HCL.out i hlt)
                go_upto_region 46 with (first
                  | (go_at_call 11; refine how.mono ?_; clear how; rintro e w2 ⟨V', rfl, k1, k2, k3, k4⟩)
                  | fail)
                have hT3 := HT2.out.owns hlt (Nat.le_refl _) k3 k1 k2 k4
                obtain ⟨av, cv, rfl⟩ := k2.is
                clear k1 k2 k3 k4 c1 HT2
                have HT3 : Hid (Tryz.Tw w (fun k => (Value.slice ga1 Gn.length gc1).ownBlock = some k ∨ (Value.slice ga2 Gn.length gc2).ownBlock = some k) gL gW LA WA lv wv c (.slice ga1 Gn.length gc1) (.slice ga2 Gn.length gc2) (.slice aG Gn.length cG) Gn (i + 1) i u42 (fun j => if j = i then Value.slice av (List.replicate ((c i).length + 12) (mkc i)).length cv else gv j) w2) := hT3
                clear hT3
                generalize (List.replicate ((c i).length + 12) (mkc i)).length = vn at *
                go_wp2_with (first
                  | (at_builtin; refine Tryz.appLs rfl _ _ rfl (HT3.out.past (by omega) ((Below.refl _ w2).alloc (Nat.le_refl _) _)).gr rfl (heap_alloc_new _ _) rfl rfl (by omega) ?_; intro v4 w4 r4 g4 l4)
                  | fail)
                go_roundw
                case rel =>
                  refine ⟨i + 1, _, by simp, by omega, (HT3.out.past (by omega) ((Below.refl _ w2).alloc (Nat.le_refl _) (.cells #[.slice av vn cv] 22))).app (by omega) (v := v4) ?_ g4 l4⟩
                  simp only [if_true]
                  exact r4
                case measure => simp [intOf]; omega
          · have q1 : ¬ (i : Int) < 6 := by omega
            obtain rfl : i = 6 := by omega
            have hbe : Below w.heap.size w wr := HT.out.be
            have HS1 : Hid (wr.ownsRow 0 9 1 (.slice ga1 Gn.length gc1) Gn.length (Gn.map Value.string)) := HT.out.s1
            have HS2 : Hid (wr.ownsRow 0 9 1 (.slice ga2 Gn.length gc2) Gn.length (Gn.map Value.string)) := HT.out.s2
            have HS3 : Hid (wr.ownsRow 0 9 1 (.slice aG Gn.length cG) Gn.length (Gn.map Value.string)) := HT.out.s3
            clear hbe
            go_upto_region 48 with (fail)
            generalize wr = wf at *
            go_loopw [47] (fun iv wr => ∃ (i : Nat) (li : List ByteArray), iv = .int .i64 i ∧ i ≤ Gn.length ∧ li.length = Gn.length ∧ (∀ j, j < i → li[j]? = some ⟨#[116, 104, 101, 32, 111, 119, 110, 101, 114, 39, 115]⟩) ∧ wr.ownsRow 0 9 1 (.slice ga1 Gn.length gc1) Gn.length (li.map Value.string) ∧ Wo (fun k => (Value.slice ga1 Gn.length gc1).ownBlock = some k) wf wr) (fun iv _ => Gn.length - (intOf iv).toNat)
            case atStart => exact ⟨0, Gn, rfl, Nat.zero_le _, rfl, fun j hj => by omega, HS1.out, Wo.refl _ _⟩
            case round =>
              obtain ⟨i, li, rfl, hi, hli, hall, hrow, hwo⟩ := hrel
              have HAl : Hid (∀ j, j < i → li[j]? = some ⟨#[116, 104, 101, 32, 111, 119, 110, 101, 114, 39, 115]⟩) := hall
              have HRw : Hid (wr.ownsRow 0 9 1 (.slice ga1 Gn.length gc1) Gn.length (li.map Value.string)) := hrow
              have HWo : Hid (Wo (fun k => (Value.slice ga1 Gn.length gc1).ownBlock = some k) wf wr) := hwo
              have HLi : Hid (li.length = Gn.length) := hli
              clear hall hrow hwo hli
              by_cases hlt : i < Gn.length
              · have q1 : (i : Int) < (Gn.length : Int) := by omega
                obtain ⟨g, rfl⟩ : ∃ g, ga1 = some ⟨g, 0, none⟩ := by
                  rcases HRw.out.2 with ⟨e, e0⟩ | ⟨g, cap', cur, e, _⟩
                  · omega
                  · injection e with e1; exact ⟨g, e1⟩
                have x0 := HRw.out.cellAt i (by omega)
                rw [List.getElem?_map, List.getElem?_eq_getElem (by rw [HLi.out]; exact hlt)] at x0
                have f0 := HRw.out.frozenAt i
                have HR2 := (HRw.out.stored i (.string ⟨#[116, 104, 101, 32, 111, 119, 110, 101, 114, 39, 115]⟩)).1
                rw [← List.map_set] at HR2
                have HR3 : Hid _ := HR2
                have HW2 := HWo.out.setCell g i (.string ⟨#[116, 104, 101, 32, 111, 119, 110, 101, 114, 39, 115]⟩) (.inl rfl)
                have HW3 : Hid _ := HW2
                clear HR2 HW2 HRw HWo
                generalize (li[i]'_) = xx at x0
                go_wp2
                go_roundw
                case rel =>
                  refine ⟨i + 1, li.set i ⟨#[116, 104, 101, 32, 111, 119, 110, 101, 114, 39, 115]⟩, by simp, by omega, by rw [List.length_set]; exact HLi.out, fun j hj => ?_, HR3.out, HW3.out⟩
                  by_cases e : j = i
                  · subst e; rw [List.getElem?_set_self (by rw [HLi.out]; exact hlt)]
                  · rw [List.getElem?_set_ne (fun e' => e e'.symm)]; exact HAl.out j (by omega)
                case measure => simp [intOf]; omega
              · have q1 : ¬ (i : Int) < (Gn.length : Int) := by omega
                obtain rfl : i = Gn.length := by omega
                have hrep : li = List.replicate Gn.length Fd.ow := Fd.rep_any HLi.out HAl.out
                have HR4 : Hid (wr.ownsRow 0 9 1 (.slice ga1 Gn.length gc1) Gn.length ((List.replicate Gn.length Fd.ow).map Value.string)) := by show World.ownsRow _ _ _ _ _ _ _; rw [← hrep]; exact HRw.out
                clear hrep HRw HAl HLi
                go_upto_region 52 with (fail)
                obtain ⟨wg, hwg⟩ : ∃ W : World, W = wr := ⟨_, rfl⟩
                subst hwg
                go_loopw [15, 48] (fun G kv wr => ∃ k : Nat, kv = .int .i64 k ∧ k ≤ 64 ∧ wr.ownsRow 0 9 1 G (Gn.length + k) ((List.replicate (Gn.length + k) Fd.ow).map Value.string) ∧ Wo (fun k => (Value.slice ga1 Gn.length gc1).ownBlock = some k) wf wr ∧ ∀ b, G.ownBlock = some b → (Value.slice ga1 Gn.length gc1).ownBlock = some b ∨ wf.heap.size ≤ b) (fun _ kv _ => 64 - (intOf kv).toNat)
                case atStart => exact ⟨0, rfl, Nat.zero_le _, HR4.out, HWo.out, fun b e => .inl e⟩
                case round =>
                  obtain ⟨k, rfl, hk, hrow, hwo, hgb⟩ := hrel
                  have HR5 : Hid (wr.ownsRow 0 9 1 u15 (Gn.length + k) ((List.replicate (Gn.length + k) Fd.ow).map Value.string)) := hrow
                  have HW5 : Hid (Wo (fun k => (Value.slice ga1 Gn.length gc1).ownBlock = some k) wf wr) := hwo
                  have HG5 : Hid (∀ b, u15.ownBlock = some b → (Value.slice ga1 Gn.length gc1).ownBlock = some b ∨ wf.heap.size ≤ b) := hgb
                  clear hrow hwo hgb
                  by_cases hlk : k < 64
                  · have q2 : (k : Int) < 64 := by omega
                    go_wp2_with (first
                      | (at_builtin; refine Tryz.appTs (x := Fd.ow) rfl _ _ rfl (Fd.row_past HR5.out ((Below.refl _ _).alloc (Nat.le_refl _) _) (Nat.le_refl _)) rfl (heap_alloc_new _ _) rfl (by omega) ?_; intro v6 w6 r6 g6 l6)
                      | fail)
                    go_roundw
                    case rel =>
                      refine ⟨k + 1, by simp, by omega, ?_, (HW5.out.alloc _).grown g6 (fun b e => HG5.out b e), fun b e => ?_⟩
                      · rw [← List.replicate_succ'] at r6
                        exact r6
                      · rcases l6 b e with e | e
                        · exact HG5.out b e
                        · rw [World.size_alloc] at e
                          exact .inr (by have := HW5.out.size; omega)
                    case measure => simp [intOf]; omega
                  · have q2 : ¬ (k : Int) < 64 := by omega
                    obtain rfl : k = 64 := by omega
                    have s2 : wr.ownsRow 0 9 1 (.slice ga2 Gn.length gc2) Gn.length (Gn.map Value.string) := Fd.row_keep HS2.out fun b e => HW5.out.block b (HS2.out.lt b e).2 (fun e' => HSep.out.1 b e' e)
                    have s3 : wr.ownsRow 0 9 1 (.slice aG Gn.length cG) Gn.length (Gn.map Value.string) := Fd.row_keep HS3.out fun b e => HW5.out.block b (HS3.out.lt b e).2 (fun e' => HSep.out.2.1 b e' e)
                    have HS2' : Hid _ := s2
                    have HS3' : Hid (wr.ownsRow 0 9 1 (.slice aG Gn.length cG) Gn.length (Gn.map Value.string)) := s3
                    clear s2 s3
                    obtain ⟨a15, c15, rfl⟩ := Fd.row_is HR5.out
                    go_upto_region 56 with (fail)
                    generalize wr = wh at *
                    go_loopw [49] (fun iv wr => ∃ (i : Nat) (li : List ByteArray), iv = .int .i64 i ∧ i ≤ Gn.length ∧ li.length = Gn.length ∧ (∀ j, j < i → li[j]? = some Fd.an) ∧ (∀ j, i ≤ j → li[j]? = Gn[j]?) ∧ wr.ownsRow 0 9 1 (.slice ga2 Gn.length gc2) Gn.length (li.map Value.string) ∧ Wo (fun k => (Value.slice ga2 Gn.length gc2).ownBlock = some k) wh wr) (fun iv _ => Gn.length - (intOf iv).toNat)
                    case atStart => exact ⟨0, Gn, rfl, Nat.zero_le _, rfl, fun j hj => by omega, fun _ _ => rfl, HS2'.out, Wo.refl _ _⟩
                    case round =>
                      obtain ⟨i, li, rfl, hi, hli, hall, hrst, hrow, hwo⟩ := hrel
                      have HAl : Hid (∀ j, j < i → li[j]? = some Fd.an) := hall
                      have HRs : Hid (∀ j, i ≤ j → li[j]? = Gn[j]?) := hrst
                      have HRw : Hid (wr.ownsRow 0 9 1 (.slice ga2 Gn.length gc2) Gn.length (li.map Value.string)) := hrow
                      have HWo6 : Hid (Wo (fun k => (Value.slice ga2 Gn.length gc2).ownBlock = some k) wh wr) := hwo
                      have HLi : Hid (li.length = Gn.length) := hli
                      clear hall hrow hwo hli hrst
                      by_cases hlt : i < Gn.length
                      · have q1 : (i : Int) < (Gn.length : Int) := by omega
                        obtain ⟨g, rfl⟩ : ∃ g, ga2 = some ⟨g, 0, none⟩ := by
                          rcases HRw.out.2 with ⟨e, e0⟩ | ⟨g, cap', cur, e, _⟩
                          · omega
                          · injection e with e1; exact ⟨g, e1⟩
                        have x0 := HRw.out.cellAt i (by omega)
                        rw [List.getElem?_map, HRs.out i (Nat.le_refl _), List.getElem?_eq_getElem hlt] at x0
                        have s3 : wr.ownsRow 0 9 1 (.slice aG Gn.length cG) Gn.length (Gn.map Value.string) := Fd.row_keep HS3'.out fun b e => HWo6.out.block b (HS3'.out.lt b e).2 (fun e' => HSep.out.2.2.1 b e' e)
                        obtain ⟨g3, o3, rfl, y0⟩ := (Ts.ofRow s3).at hlt
                        have X0 : ∀ n, (wr.drewN n).cell? ⟨g, i, none⟩ = some (.string Gn[i]) := fun _ => x0
                        have Y0 : ∀ n, (wr.drewN n).cell? ⟨g3, o3 + i, none⟩ = some (.string Gn[i]) := fun _ => y0
                        have F0 : ∀ n, (wr.drewN n).frozen? ⟨g, i, none⟩ = false := fun _ => HRw.out.frozenAt i
                        have HR7 : Hid (∀ n, ((wr.drewN n).setCell ⟨g, i, none⟩ (.string Fd.an)).ownsRow 0 9 1 (.slice (some ⟨g, 0, none⟩) Gn.length gc2) Gn.length ((li.set i Fd.an).map Value.string)) := fun n => by
                          have := ((Fd.row_keep HRw.out (w' := wr.drewN n) fun _ _ => rfl).stored i (.string Fd.an)).1
                          rwa [← List.map_set] at this
                        have HW7 : Hid (∀ n, Wo (fun k => (Value.slice (some ⟨g, 0, none⟩) Gn.length gc2).ownBlock = some k) wh ((wr.drewN n).setCell ⟨g, i, none⟩ (.string Fd.an))) := fun n => (HWo6.out.drewN n).setCell g i _ (.inl rfl)
                        clear s3 x0 y0 HRw HWo6
                        generalize Gn[i] = x at *
                        go_wp2_with (fail)
                        go_quiet (fail)
                        have x2 := X0 nq
                        have f2 := F0 nq
                        have HR8 : Hid _ := HR7.out nq
                        have HW8 : Hid _ := HW7.out nq
                        clear X0 Y0 F0 HR7 HW7
                        generalize wr.drewN nq = wy at *
                        go_wp2
                        go_roundw
                        case rel =>
                          refine ⟨i + 1, li.set i Fd.an, by simp, by omega, by rw [List.length_set]; exact HLi.out, fun j hj => ?_, fun j hj => ?_, HR8.out, HW8.out⟩
                          · by_cases e : j = i
                            · subst e; rw [List.getElem?_set_self (by rw [HLi.out]; exact hlt)]
                            · rw [List.getElem?_set_ne (fun e' => e e'.symm)]; exact HAl.out j (by omega)
                          · rw [List.getElem?_set_ne (by omega)]; exact HRs.out j (by omega)
                        case measure => simp [intOf]; omega
                      · have q1 : ¬ (i : Int) < (Gn.length : Int) := by omega
                        obtain rfl : i = Gn.length := by omega
                        have hrep : li = List.replicate Gn.length Fd.an := Fd.rep_any HLi.out HAl.out
                        have HR9 : Hid (wr.ownsRow 0 9 1 (.slice ga2 Gn.length gc2) Gn.length ((List.replicate Gn.length Fd.an).map Value.string)) := by show World.ownsRow _ _ _ _ _ _ _; rw [← hrep]; exact HRw.out
                        clear hrep HRw HAl HLi HRs
                        go_upto_region 62 with (fail)
                        obtain ⟨wi, hwi⟩ : ∃ W : World, W = wr := ⟨_, rfl⟩
                        subst hwi
                        go_loopw [25, 50] (fun G kv wr => ∃ k : Nat, kv = .int .i64 k ∧ k ≤ 64 ∧ wr.ownsRow 0 9 1 G (Gn.length + k) ((List.replicate (Gn.length + k) Fd.an).map Value.string) ∧ Wo (fun k => (Value.slice ga2 Gn.length gc2).ownBlock = some k) wh wr ∧ ∀ b, G.ownBlock = some b → (Value.slice ga2 Gn.length gc2).ownBlock = some b ∨ wh.heap.size ≤ b) (fun _ kv _ => 64 - (intOf kv).toNat)
                        case atStart => exact ⟨0, rfl, Nat.zero_le _, HR9.out, HWo6.out, fun b e => .inl e⟩
                        case round =>
                          obtain ⟨k, rfl, hk7, hrow, hwo, hgb⟩ := hrel
                          have HRa : Hid (wr.ownsRow 0 9 1 u25 (Gn.length + k) ((List.replicate (Gn.length + k) Fd.an).map Value.string)) := hrow
                          have HWa : Hid (Wo (fun k => (Value.slice ga2 Gn.length gc2).ownBlock = some k) wh wr) := hwo
                          have HGa : Hid (∀ b, u25.ownBlock = some b → (Value.slice ga2 Gn.length gc2).ownBlock = some b ∨ wh.heap.size ≤ b) := hgb
                          clear hrow hwo hgb
                          by_cases hlk : k < 64
                          · have q2 : (k : Int) < 64 := by omega
                            go_wp2_with (first
                              | (at_builtin; refine Tryz.appTs (x := Fd.an) rfl _ _ rfl (Fd.row_past HRa.out ((Below.refl _ _).alloc (Nat.le_refl _) _) (Nat.le_refl _)) rfl (heap_alloc_new _ _) rfl (by omega) ?_; intro v6 w6 r6 g6 l6)
                              | fail)
                            go_roundw
                            case rel =>
                              refine ⟨k + 1, by simp, by omega, ?_, (HWa.out.alloc _).grown g6 (fun b e => HGa.out b e), fun b e => ?_⟩
                              · rw [← List.replicate_succ'] at r6
                                exact r6
                              · rcases l6 b e with e | e
                                · exact HGa.out b e
                                · rw [World.size_alloc] at e
                                  exact .inr (by have := HWa.out.size; omega)
                            case measure => simp [intOf]; omega
                          · have q2 : ¬ (k : Int) < 64 := by omega
                            obtain rfl : k = 64 := by omega
                            have r15 : wr.ownsRow 0 9 1 (.slice a15 (Gn.length + 64) c15) (Gn.length + 64) ((List.replicate (Gn.length + 64) Fd.ow).map Value.string) := Fd.row_keep HR5.out fun b e => HWa.out.block b (HR5.out.lt b e).2 (fun e' => by
                              rcases HG5.out b e with h | h
                              · exact HSep.out.1 b h e'
                              · have := (HS2.out.lt b e').2; omega)
                            obtain ⟨g15, rfl⟩ : ∃ g, a15 = some ⟨g, 0, none⟩ := by
                              rcases r15.2 with ⟨e, e0⟩ | ⟨g, cap', cur, e, _⟩
                              · omega
                              · injection e with e1; exact ⟨g, e1⟩
                            obtain ⟨g25, c25, rfl⟩ : ∃ g c, u25 = .slice (some ⟨g, 0, none⟩) (Gn.length + 64) c := by
                              rcases HRa.out.2 with ⟨e, e0⟩ | ⟨g, cap', cur, e, _⟩
                              · omega
                              · exact ⟨g, cap', e⟩
                            have hN2 : Gn.length + 64 ≤ 4398046511104 := by omega
                            have cO : ∀ j, j < Gn.length + 64 → wr.cell? ⟨g15, j, none⟩ = some (.string Fd.ow) := fun j hj => by
                              rw [r15.cellAt j (by omega), List.map_replicate, List.getElem?_replicate, if_pos hj]
                            have cA : ∀ j, j < Gn.length + 64 → wr.cell? ⟨g25, j, none⟩ = some (.string Fd.an) := fun j hj => by
                              rw [HRa.out.cellAt j (by omega), List.map_replicate, List.getElem?_replicate, if_pos hj]
                            have HCO : Hid _ := cO
                            have HCA : Hid _ := cA
                            have hW1 : Wo (fun k => (Value.slice ga1 Gn.length gc1).ownBlock = some k ∨ (Value.slice ga2 Gn.length gc2).ownBlock = some k) wf wr := (HW5.out.mono fun _ e => .inl e).trans (HWa.out.mono fun _ e => .inr e)
                            have hsx := HT.out.six.off (Nat.le_refl _) hW1
                            have hli := (hW1.block gL (block_lt HT.out.li) (fun e => e.elim (fun e => Fd.lit_ne HT.out.s1 HT.out.li (by decide) e rfl) (fun e => Fd.lit_ne HT.out.s2 HT.out.li (by decide) e rfl))).trans HT.out.li
                            have hgr := Fd.row_keep HT.out.gr (w' := wr) fun b e => hW1.block b (HT.out.gr.lt b e).2 (fun e' => e'.elim (fun e' => Fd.row_ne HT.out.s1 HT.out.gr (by decide) e' e) (fun e' => Fd.row_ne HT.out.s2 HT.out.gr (by decide) e' e))
                            have HBe : Hid (Below w.heap.size w wr) := hW1.toBelow HT.out.be (fun b e => e.elim (HSep.out.2.2.2.1 b) (HSep.out.2.2.2.2 b)) HT.out.be.size
                            have HSx : Hid (Tryz.Six (fun k => (Value.slice ga1 Gn.length gc1).ownBlock = some k ∨ (Value.slice ga2 Gn.length gc2).ownBlock = some k) wr lv gv wv c 6) := hsx
                            have HLi2 : Hid (wr.heap[gL]? = some (.cells LA 22 (0, 0))) := hli
                            obtain ⟨g42, c42, rfl⟩ : ∃ g c, u42 = .slice (some ⟨g, 0, none⟩) 6 c := by
                              rcases hgr.2 with ⟨e, e0⟩ | ⟨g, cap', cur, e, _⟩
                              · omega
                              · exact ⟨g, cap', e⟩
                            have HGr2 : Hid (∀ j, j < 6 → wr.cell? ⟨g42, j, none⟩ = some (gv j)) := fun j hj => by
                              rw [hgr.cellAt j (by omega), List.getElem?_map, List.getElem?_range hj]; rfl
                            clear cO cA r15 hW1 hsx hli hgr HRa HR5 HT HW5 HWa HG5 HGa HR9 HWo6 HWo HR4 HS1 HS2 HS3 HS2' HS3'
                            go_upto_region 66 with (fail)
                            generalize wr = wj at *
                            go_loopw [51] (fun iv wr => ∃ i : Nat, iv = .int .i64 i ∧ i ≤ Gn.length + 64 ∧ wj = wr) (fun iv _ => Gn.length + 64 - (intOf iv).toNat)
                            case atStart => exact ⟨0, rfl, Nat.zero_le _, rfl⟩
                            case round =>
                              obtain ⟨i, rfl, hi8, rfl⟩ := hrel
                              by_cases hl8 : i < Gn.length + 64
                              · have q3 : (i : Int) < (Gn.length : Int) + 64 := by omega
                                have d1 := HCO.out i hl8
                                have d2 := HCA.out i hl8
                                simp only [Fd.ow, Fd.an] at d1 d2
                                go_wp2
                                go_roundw
                                case rel => exact ⟨i + 1, by simp, by omega, by first | trivial | rfl⟩
                                case measure => simp [intOf]; omega
                              · have q3 : ¬ (i : Int) < (Gn.length : Int) + 64 := by omega
                                go_upto_region 71 with (fail)
                                go_loopw [52, 53, 54] (fun iv _ _ wr => ∃ i : Nat, iv = .int .i64 i ∧ i ≤ 6 ∧ wj = wr) (fun iv _ _ _ => 6 - (intOf iv).toNat)
                                case atStart => exact ⟨0, rfl, Nat.zero_le _, rfl⟩
                                case round =>
                                  obtain ⟨i, rfl, hi9, rfl⟩ := hrel
                                  by_cases hl9 : i < 6
                                  · have q4 : (i : Int) < 6 := by omega
                                    have d1 := Fd.cell_lit HLi2.out (HLA.out i hl9)
                                    have d2 := HGr2.out i hl9
                                    have r1 := Tryz.reads_any (HSx.out.don i hl9).1 (by have := HCL.out i hl9; omega)
                                    have r2 := Tryz.reads_any (HSx.out.don i hl9).2 (HCL.out i hl9)
                                    go_wp2_with (first
                                      | (go_at_call 12; refine r1.mono ?_; clear r1; rintro e w9' ⟨rfl, rfl⟩)
                                      | (go_at_call 12; refine r2.mono ?_; clear r2; rintro e w9' ⟨rfl, rfl⟩)
                                      | fail)
                                    go_roundw
                                    case rel => exact ⟨i + 1, by simp, by omega, by first | trivial | rfl⟩
                                    case measure => simp [intOf]; omega
                                  · have q4 : ¬ (i : Int) < 6 := by omega
                                    go_wp2
                                    go_ret
                                    exact ⟨rfl, HBe.out⟩
end Go.Proofs
