/-
  JournalBeside: the walk.
-/
import Derived.Test.YtkoojpaanpmgeaaKt
import Derived.Test.YtkoojpaanpmgeaaKk
import Derived.Shelf.Bytes.SlSmallAll
namespace Go.Dk
theorem half_bd {n P : Nat} (h : n = 8 + P) (hP : P < 60) : 192 ≤ 64 * half n ∧ 64 * half n ≤ 2112 := by unfold half; omega
end Go.Dk
namespace Go.Proofs
open Go.RowKit Go.Dk
/-- []byte that came in, as a text; it may have no bytes. -/
theorem Try.src_any {w : World} {ad : Option Addr} {n c : Nat} {l : List UInt8} (h : Dk.Src w (.slice ad n c) l) : (convert 33 9 (.slice ad n c)).run Try.prog w = .ok (.string ⟨l.toArray⟩) w := by
  obtain ⟨hn, hc⟩ := h.cell
  rcases hc with rfl | ⟨sb, so, rfl, -⟩
  · subst hn
    exact run_convert_bytes_zero w 33 5 Try.underlying33 Try.underlying5 ad c 9 Try.underlying9
  · exact Try.conv_src h
def Dk.bq (k : Nat) : Nat := 800000 + 3000 * (20 - k)
set_option maxHeartbeats 8000000 in
set_option maxRecDepth 20000 in
theorem Try.journalBesideWalk (b c : Int) (v1 : Value) (l1 : List (List UInt8)) (v2 : Value) (l2 : List (List UInt8)) (w : World) (h1 : -9223372036854775808 ≤ b ∧ b ≤ 9223372036854775807) (h2 : -9223372036854775808 ≤ c ∧ c ≤ 9223372036854775807) (hP1 : Dk.RowsIn w v1 l1) (hP2 : Dk.RowsIn w v2 l2) :
    Calls Try.prog 3 #[.int .i64 b, .int .i64 c, v1, v2] w fun e w' => e = .returned (.bool true) ∧ Below w.heap.size w w' := by
  have hfm1 : ∀ W, Calls Try.prog 9 #[.int .i64 b] W fun r w' => ∃ x, r = .returned (.pointer (some ⟨x, 0, none⟩)) ∧ Try.Fresh W w' x (8 + Dk.pickN b 60) := fun W => Try.formatted_any b h1.1 h1.2 W
  have hfm2 := fun W => Try.formatted_any c h2.1 h2.2 W
  have hp1 := Dk.pickN_lt b (n := 60) (by omega)
  have hp2 := Dk.pickN_lt c (n := 60) (by omega)
  obtain ⟨n, hn⟩ : ∃ n, n = 8 + Dk.pickN b 60 := ⟨_, rfl⟩
  obtain ⟨m, hm⟩ : ∃ m, m = 8 + Dk.pickN c 60 := ⟨_, rfl⟩
  have hbm := half_bd hm hp2
  rw [← hn] at hfm1
  simp only [← hm] at hfm2
  have HP1 : Hid (Dk.RowsIn w v1 l1) := hP1
  have HP2 : Hid (Dk.RowsIn w v2 l2) := hP2
  obtain ⟨ad1, cap1, rfl, hc1, -⟩ := hP1.ex
  obtain ⟨ad2, cap2, rfl, hc2, -⟩ := hP2.ex
  clear hP1 hP2 hn hm hp1 hp2
  have hff := hfm1
  go_enter Try.func3, Try.ntmps3
  go_wp2_with (first
    | (go_at_call 9; refine (hff w).mono ?_; clear hff; rintro e w1 ⟨x1, rfl, hF1⟩)
    | (go_at_call 9; refine (hfm2 w1).mono ?_; clear hfm2; rintro e w2 ⟨x2, rfl, hF2⟩)
    | (go_at_call 9; refine (hfm1 w2).mono ?_; clear hfm1; rintro e w3 ⟨x3, rfl, hF3⟩; have hF := Try.F3.of hF1 hF2 hF3; obtain ⟨o1, s1, o2, s2, o3, s3, ⟨a1, a2, a3, a4, a5⟩, ⟨b1, b2, b3, b4, b5⟩, ⟨c1, c2, c3, c4, c5⟩⟩ := hF.ex; have hle := hF.le; have hbl := hF.bel; have hop1 := Try.opens_any a1 a2 a3; clear hF hF1 hF2 hF3)
    | (go_at_call 10; refine hop1.mono ?_; clear hop1; rintro e wa ⟨ya, ta, rfl, hTa⟩; obtain ⟨ra, rfl, hra, -⟩ := hTa.st; obtain ⟨ada, capa, rfl, -⟩ := Dk.row_form hra; have hba := hTa.bel.trans (((Below.refl wa.heap.size wa).alloc (Nat.le_refl _) (.cells #[.string ⟨#[]⟩, .slice ada 0 capa] 28)).mono hTa.bel.size); have hop2 := Try.opens_any (b1.below hba) b2 b3; clear hra)
    | (go_at_call 10; refine hop2.mono ?_; clear hop2; rintro e wb ⟨yb, tb, rfl, hTb⟩; obtain ⟨rb, rfl, hrb, -⟩ := hTb.st; obtain ⟨adb, capb, rfl, -⟩ := Dk.row_form hrb; have hbb := hba.trans ((hTb.bel.trans (((Below.refl wb.heap.size wb).alloc (Nat.le_refl _) (.cells #[.string ⟨#[]⟩, .slice adb 0 capb] 28)).mono hTb.bel.size)).mono hba.size); have hop3 := Try.opens_any (c1.below hbb) c2 c3; clear hrb)
    | (go_at_call 10; refine hop3.mono ?_; clear hop3; rintro e wc ⟨yc, tc, rfl, hTc⟩; obtain ⟨rc, rfl, hrc, -⟩ := hTc.st; obtain ⟨adc, capc, rfl, -⟩ := Dk.row_form hrc; have hL := Try.L3.init hle hbl hTa hTb hTc a4 b4 c4 a5 b5 c5; have HL : Hid _ := hL; have hd1 := hTb.bel.size; have hd2 := hTc.bel.size; simp only [World.size_alloc] at hd1 hd2; clear hrc hL hTa hTb hTc a1 a2 a3 a4 a5 b1 b2 b3 b4 b5 c1 c2 c3 c4 c5 hle hbl hba hbb)
    | fail)
  generalize hbS : wa.heap.size = bS at *
  generalize hbT : wb.heap.size = bT at *
  generalize hbU : wc.heap.size = bU at *
  have hdis : bS ≠ bT ∧ bT ≠ bU ∧ bS ≠ bU := by omega
  go_loopw [21] (fun i wr => ∃ (k g2 a2 : Nat) (snap2 : List UInt8) (r1 r2 : List (List UInt8)), i = .int .i64 k ∧ k ≤ 20 ∧ g2 ≤ k + 1 ∧ Try.L3 w.heap.size w wr ⟨n, ya, x1, Dk.bq k, 1, 0, [], r1⟩ ⟨m, yb, x2, Dk.bq k, g2, a2, snap2, r2⟩ ⟨n, yc, x3, Dk.bq k, 1, 0, [], r1⟩ [(bS, [], r1), (bT, snap2, r2), (bU, [], r1)] []) (fun i _ => 20 - (intOf i).toNat)
  case atStart => exact ⟨0, 1, 0, [], [], [], rfl, by omega, by omega, (((HL.out.less (q' := Dk.bq 0) (by decide)).rot.less (q' := Dk.bq 0) (by decide)).rot.less (q' := Dk.bq 0) (by decide)).rot⟩
  case round =>
    obtain ⟨k, g2, a2, snap2, r1, r2, rfl, hk20, hgk, hL⟩ := hrel
    clear HL
    by_cases hk : k < 20
    · have q0 : (k : Int) < 20 := by omega
      have hqk : Dk.bq k = Dk.bq (k + 1) + 3000 := by unfold Dk.bq; omega
      have HL : Hid _ := hL
      have hrl := hL.few
      clear hL
      go_upto_if 84 with fail
      go_cut [] (fun wx => ∃ r1' : List (List UInt8), Try.L3 w.heap.size w wx ⟨n, ya, x1, Dk.bq (k + 1), 1, 0, [], r1'⟩ ⟨m, yb, x2, Dk.bq k, g2, a2, snap2, r2⟩ ⟨n, yc, x3, Dk.bq (k + 1), 1, 0, [], r1'⟩ [(bS, [], r1'), (bT, snap2, r2), (bU, [], r1')] [])
      case first =>
        by_cases hkl : k < l1.length
        · have q1 : (k : Int) < (l1.length : Int) := by omega
          obtain ⟨d, hd⟩ : ∃ d, l1[k]? = some d := ⟨_, List.getElem?_eq_getElem hkl⟩
          obtain ⟨sb, so, ad3, cap3, rfl, hcell0, hsrc, hdl⟩ := HP1.out.at hd
          have hsb : sb < w.heap.size := World.block_lt_of_cell? _ _ hcell0
          have hcell := (HL.out.bel.cell (p := ⟨sb, so + k, none⟩) hsb).trans hcell0
          have HS : Hid (Dk.Src w (.slice ad3 d.length cap3) d) := hsrc
          have HC0 : Hid (w.cell? ⟨sb, so + k, none⟩ = some (.slice ad3 d.length cap3)) := hcell0
          clear hd hsrc hcell0
          cases hfit : Dk.fits n (body [] r1).length d.length with
          | false =>
            have hfu := HL.out.full ad3 d.length cap3 (by omega) hfit
            obtain ⟨cc, hcc⟩ : ∃ cc : Int, cc = if d.length = 0 ∨ 6000 < d.length then 52 else 51 := ⟨_, rfl⟩
            have hc0 : cc ≠ 0 := by rw [hcc]; split <;> decide
            rw [← hcc] at hfu
            have HCC : Hid _ := hcc
            clear hcc
            go_wp2_with (first
              | (go_at_call 11; refine hfu.mono ?_; clear hfu; rintro e w4 ⟨rfl, hL4⟩; have hfu2 := hL4.rot.rot.full ad3 d.length cap3 (by omega) hfit; rw [← HCC.out] at hfu2; have hcell4 := (hL4.bel.cell (p := ⟨sb, so + k, none⟩) hsb).trans HC0.out; clear hL4)
              | (go_at_call 11; refine hfu2.mono ?_; clear hfu2; rintro e w5 ⟨rfl, hL5⟩)
              | fail)
            go_meet
            case rel => exact ⟨r1, ((hL5.less (q' := Dk.bq (k + 1)) (by omega)).rot.less (q' := Dk.bq (k + 1)) (by omega))⟩
          | true =>
            have h0 : 0 < d.length := by simp only [Dk.fits, decide_eq_true_eq] at hfit; omega
            have hap := (HL.out.less (q' := Dk.bq (k + 1) + 3000) (by omega)).append _ d (HS.out.up HL.out.bel) hfit
            go_upto_region 18 with (first
              | (go_at_call 11; refine hap.mono ?_; clear hap; rintro e w4 ⟨rfl, hL4⟩; have hap2 := (hL4.rot.rot.less (q' := Dk.bq (k + 1) + 3000) (by omega)).append _ d (HS.out.up hL4.bel) hfit; have hcell4 := (hL4.bel.cell (p := ⟨sb, so + k, none⟩) hsb).trans HC0.out; clear hL4)
              | (go_at_call 11; refine hap2.mono ?_; clear hap2; rintro e w5 ⟨rfl, hL5⟩)
              | fail)
            obtain ⟨ad9, cap9, hbx9, hL9⟩ := hL5.rot.take (b := bS) (ts := []) (tr := r1) (by simp)
            have c90 : w5.cell? ⟨bS, 0, none⟩ = some (.string ⟨#[]⟩) := cell_of_row _ _ 0 _ _ _ hbx9
            have c91 : w5.cell? ⟨bS, 1, none⟩ = some (.slice ad9 r1.length cap9) := cell_of_row _ _ 1 _ _ _ hbx9
            have hcell5 := (hL5.bel.cell (p := ⟨sb, so + k, none⟩) hsb).trans HC0.out
            have hcv5 := Try.src_conv ((HS.out.up hL5.bel).up (Below.refl w5.heap.size w5).drew) h0
            have HL9 : Hid _ := hL9
            clear hL5 hL9 hbx9 hcell
            go_region_with (first
              | (go_at_call 12; refine ((HL9.out.below (Below.refl w5.heap.size w5).drew).with hrl d).mono ?_; rintro e w10 ⟨ad10, cap10, rfl, hL10⟩; obtain ⟨ad11, cap11, hbx10, -⟩ := hL10.take (b := bS) (ts := []) (tr := r1) (by simp); have c100 : w10.cell? ⟨bS, 0, none⟩ = some (.string ⟨#[]⟩) := cell_of_row _ _ 0 _ _ _ hbx10; have c101 : w10.cell? ⟨bS, 1, none⟩ = some (.slice ad11 r1.length cap11) := cell_of_row _ _ 1 _ _ _ hbx10; have f100 := frozen_of_row _ _ 0 _ _ hbx10; have f101 := frozen_of_row _ _ 1 _ _ hbx10; have HL10 : Hid _ := hL10; clear hL10 hbx10)
              | fail)
            all_goals
              have hL11 := (HL10.out.put (b := bS) (bs' := [(bS, [], r1 ++ [d]), (bT, snap2, r2), (bU, [], r1)]) (ts0 := []) (tr0 := r1) (by simp) (fun c hc => by simp only [List.mem_cons, List.not_mem_nil, or_false] at hc; rcases hc with rfl | rfl | rfl; exact .inl rfl; exact .inr ⟨by simp, by show bT ≠ bS; omega⟩; exact .inr ⟨by simp, by show bU ≠ bS; omega⟩)).drop (ss' := []) (fun _ e => e) (fun v e => absurd e (by simp))
              obtain ⟨adu, capu, hbu, hLu⟩ := hL11.take (b := bU) (ts := []) (tr := r1) (by simp)
              have hbu0 := ((Below.heap_setCell (w10.setCell ⟨bS, 0, none⟩ (.string ⟨#[]⟩)) ⟨bS, 1, none⟩ (.slice ad10 (r1.length + 1) cap10) bU (by show bU ≠ bS; omega)).trans (Below.heap_setCell w10 ⟨bS, 0, none⟩ (.string ⟨#[]⟩) bU (by show bU ≠ bS; omega))).symm.trans hbu
              have u0 := cell_of_row _ _ 0 _ _ _ hbu
              have u1 := cell_of_row _ _ 1 _ _ _ hbu
              have u2 := cell_of_row _ _ 0 _ _ _ hbu0
              have u3 := cell_of_row _ _ 1 _ _ _ hbu0
              simp only [List.getElem?_toArray, List.getElem?_cons_zero, List.getElem?_cons_succ] at u0 u1 u2 u3
              have hcellW := (hL11.bel.cell (p := ⟨sb, so + k, none⟩) hsb).trans HC0.out
              have hcell10 := (HL10.out.bel.cell (p := ⟨sb, so + k, none⟩) hsb).trans HC0.out
              have hcvW := Try.src_conv ((HS.out.up hL11.bel).up (Below.refl _ _).drew) h0
              have hwi := (hLu.below (Below.refl _ _).drew).with hrl d
              have HLu : Hid _ := hLu
              clear hL11 hLu hbu hbu0
              go_upto_region 19 with fail
              go_region_with (first
                | (go_at_call 12; refine hwi.mono ?_; clear hwi; rintro e w12 ⟨ad12, cap12, rfl, hL12⟩; obtain ⟨ad13, cap13, hbx12, -⟩ := hL12.take (b := bU) (ts := []) (tr := r1) (by simp); have c120 : w12.cell? ⟨bU, 0, none⟩ = some (.string ⟨#[]⟩) := cell_of_row _ _ 0 _ _ _ hbx12; have c121 : w12.cell? ⟨bU, 1, none⟩ = some (.slice ad13 r1.length cap13) := cell_of_row _ _ 1 _ _ _ hbx12; have f120 := frozen_of_row _ _ 0 _ _ hbx12; have f121 := frozen_of_row _ _ 1 _ _ hbx12; have HL12 : Hid _ := hL12; clear hL12 hbx12)
                | fail)
              all_goals
                go_wp2
                go_meet
                case rel => exact ⟨r1 ++ [d], (HL12.out.put (b := bU) (bs' := [(bS, [], r1 ++ [d]), (bT, snap2, r2), (bU, [], r1 ++ [d])]) (ts0 := []) (tr0 := r1) (by simp) (fun c hc => by simp only [List.mem_cons, List.not_mem_nil, or_false] at hc; rcases hc with rfl | rfl | rfl; exact .inr ⟨by simp, by show bS ≠ bU; omega⟩; exact .inr ⟨by simp, by show bT ≠ bU; omega⟩; exact .inl rfl)).drop (ss' := []) (fun _ e => e) (fun v e => absurd e (by simp))⟩
        · have q1 : ¬ (k : Int) < (l1.length : Int) := by omega
          go_wp2
          go_meet
          case rel => exact ⟨r1, (((HL.out.less (q' := Dk.bq (k + 1)) (by omega)).rot.rot.less (q' := Dk.bq (k + 1)) (by omega)).rot)⟩
      case rest =>
        obtain ⟨r1', hL⟩ := hcut
        clear HL hrl
        have HL2 : Hid _ := hL
        clear hL
        by_cases hk2 : k < l2.length
        · have q2 : (k : Int) < (l2.length : Int) := by omega
          obtain ⟨d, hd⟩ : ∃ d, l2[k]? = some d := ⟨_, List.getElem?_eq_getElem hk2⟩
          obtain ⟨sb, so, ad3, cap3, rfl, hcell0, hsrc, hdl⟩ := HP2.out.at hd
          have hsb : sb < w.heap.size := World.block_lt_of_cell? _ _ hcell0
          have hcell := (HL2.out.bel.cell (p := ⟨sb, so + k, none⟩) hsb).trans hcell0
          have HS : Hid (Dk.Src w (.slice ad3 d.length cap3) d) := hsrc
          have HC0 : Hid (w.cell? ⟨sb, so + k, none⟩ = some (.slice ad3 d.length cap3)) := hcell0
          clear hd hsrc hcell0
          by_cases h32 : k % 3 = 2
          · have q3 : (k : Int) % 3 = 2 := by omega
            have q4 : (k : Int).tmod 3 = 2 := by show (((k % 3 : Nat)) : Int) = 2; omega
            by_cases hfitc : d.length ≤ 64 * half m
            · skip
              have hco := (HL2.out.rot.less (q' := Dk.bq (k + 1) + 3000) (by omega)).compact _ d (HS.out.up HL2.out.bel) hfitc (by omega)
              go_wp2_with (first
                | (go_at_call 13; refine hco.mono ?_; clear hco; rintro e w6 ⟨rfl, hL6⟩; have hcell6 := (hL6.bel.cell (p := ⟨sb, so + k, none⟩) hsb).trans HC0.out; have hcv6 := Try.src_any (HS.out.up hL6.bel); obtain ⟨adx, capx, hbx6, -⟩ := hL6.take (b := bT) (ts := snap2) (tr := r2) (by simp); have t0 := cell_of_row _ _ 0 _ _ _ hbx6; have t1 := cell_of_row _ _ 1 _ _ _ hbx6; have f0 := frozen_of_row _ _ 0 _ _ hbx6; have f1 := frozen_of_row _ _ 1 _ _ hbx6; simp only [List.getElem?_toArray, List.getElem?_cons_zero, List.getElem?_cons_succ] at t0 t1; have hL7 := ((hL6.rot.rot.lit d).put (b := bT) (bs' := [(bS, [], r1'), (bT, d, []), (bU, [], r1')]) (ts0 := snap2) (tr0 := r2) (by simp) (fun c hc => by simp only [List.mem_cons, List.not_mem_nil, or_false] at hc; rcases hc with rfl | rfl | rfl; exact .inr ⟨by simp, by show bS ≠ bT; omega⟩; exact .inl rfl; exact .inr ⟨by simp, by show bU ≠ bT; omega⟩)).drop (ss' := []) (fun _ e => e) (fun v e => absurd e (by simp)); have hra := hL7.room; clear hL6 hL7 hbx6)
                | (go_at_call 14; refine hra.mono ?_; clear hra; rintro e wx ⟨rfl, hLx⟩; have hrb := hLx.rot.rot.room; clear hLx)
                | (go_at_call 14; refine hrb.mono ?_; clear hrb; rintro e wy ⟨rfl, hLy⟩)
                | fail)
              go_roundw
              case rel => exact ⟨k + 1, g2 + 1, 1 - a2, d, r1', [], by go_num, by omega, by omega, hLy.rot⟩
              case measure => simp [intOf]; omega
            · skip
              have hgr := HL2.out.rot.great ad3 d.length cap3 (by omega) (by omega)
              go_wp2_with (first
                | (go_at_call 13; refine hgr.mono ?_; clear hgr; rintro e w6 ⟨rfl, hL6⟩; have hra := hL6.rot.rot.room; clear hL6)
                | (go_at_call 14; refine hra.mono ?_; clear hra; rintro e wx ⟨rfl, hLx⟩; have hrb := hLx.rot.rot.room; clear hLx)
                | (go_at_call 14; refine hrb.mono ?_; clear hrb; rintro e wy ⟨rfl, hLy⟩)
                | fail)
              go_roundw
              case rel => exact ⟨k + 1, g2, a2, snap2, r1', r2, by go_num, by omega, by omega, ((hLy.rot.rot.less (q' := Dk.bq (k + 1)) (by omega)).rot.rot)⟩
              case measure => simp [intOf]; omega
          · have q3 : ¬ (k : Int) % 3 = 2 := by omega
            have q4 : ¬ (k : Int).tmod 3 = 2 := by show ¬ (((k % 3 : Nat)) : Int) = 2; omega
            cases hfit : Dk.fits m (body snap2 r2).length d.length with
            | true =>
              have h0 : 0 < d.length := by simp only [Dk.fits, decide_eq_true_eq] at hfit; omega
              have hrl2 := HL2.out.rot.few
              have hap := (HL2.out.rot.less (q' := Dk.bq (k + 1) + 3000) (by omega)).append _ d (HS.out.up HL2.out.bel) hfit
              go_upto_region 27 with (first
                | (go_at_call 11; refine hap.mono ?_; clear hap; rintro e w6 ⟨rfl, hL6⟩)
                | fail)
              obtain ⟨ad9, cap9, hbx9, hL9⟩ := hL6.rot.rot.take (b := bT) (ts := snap2) (tr := r2) (by simp)
              have c90 := cell_of_row _ _ 0 _ _ _ hbx9
              have c91 := cell_of_row _ _ 1 _ _ _ hbx9
              simp only [List.getElem?_toArray, List.getElem?_cons_zero, List.getElem?_cons_succ] at c90 c91
              have hcell6 := (hL6.bel.cell (p := ⟨sb, so + k, none⟩) hsb).trans HC0.out
              have hcv6 := Try.src_conv ((HS.out.up hL6.bel).up (Below.refl w6.heap.size w6).drew) h0
              have HL9 : Hid _ := hL9
              clear hL6 hL9 hbx9 hcell
              go_region_with (first
                | (go_at_call 12; refine ((HL9.out.below (Below.refl w6.heap.size w6).drew).with hrl2 d).mono ?_; rintro e w10 ⟨ad10, cap10, rfl, hL10⟩; obtain ⟨ad11, cap11, hbx10, -⟩ := hL10.take (b := bT) (ts := snap2) (tr := r2) (by simp); have c100 := cell_of_row _ _ 0 _ _ _ hbx10; have c101 := cell_of_row _ _ 1 _ _ _ hbx10; simp only [List.getElem?_toArray, List.getElem?_cons_zero, List.getElem?_cons_succ] at c100 c101; have f100 := frozen_of_row _ _ 0 _ _ hbx10; have f101 := frozen_of_row _ _ 1 _ _ hbx10; have HL10 : Hid _ := hL10; clear hL10 hbx10)
                | fail)
              all_goals
                have hL7 := (HL10.out.put (b := bT) (bs' := [(bS, [], r1'), (bT, snap2, r2 ++ [d]), (bU, [], r1')]) (ts0 := snap2) (tr0 := r2) (by simp) (fun c hc => by simp only [List.mem_cons, List.not_mem_nil, or_false] at hc; rcases hc with rfl | rfl | rfl; exact .inr ⟨by simp, by show bS ≠ bT; omega⟩; exact .inl rfl; exact .inr ⟨by simp, by show bU ≠ bT; omega⟩)).drop (ss' := []) (fun _ e => e) (fun v e => absurd e (by simp))
                have hra := hL7.room
                clear hL7
                go_wp2_with (first
                  | (go_at_call 14; refine hra.mono ?_; clear hra; rintro e wx ⟨rfl, hLx⟩; have hrb := hLx.rot.rot.room; clear hLx)
                  | (go_at_call 14; refine hrb.mono ?_; clear hrb; rintro e wy ⟨rfl, hLy⟩)
                  | fail)
                go_roundw
                case rel => exact ⟨k + 1, g2, a2, snap2, r1', (r2 ++ [d]), by go_num, by omega, by omega, hLy.rot⟩
                case measure => simp [intOf]; omega
            | false =>
              have hfu := HL2.out.rot.full ad3 d.length cap3 (by omega) hfit
              obtain ⟨cc, hcc⟩ : ∃ cc : Int, cc = if d.length = 0 ∨ 6000 < d.length then 52 else 51 := ⟨_, rfl⟩
              have hc0 : cc ≠ 0 := by rw [hcc]; split <;> decide
              rw [← hcc] at hfu
              clear hcc
              go_wp2_with (first
                | (go_at_call 11; refine hfu.mono ?_; clear hfu; rintro e w6 ⟨rfl, hL6⟩; have hra := hL6.rot.rot.room; clear hL6)
                | (go_at_call 14; refine hra.mono ?_; clear hra; rintro e wx ⟨rfl, hLx⟩; have hrb := hLx.rot.rot.room; clear hLx)
                | (go_at_call 14; refine hrb.mono ?_; clear hrb; rintro e wy ⟨rfl, hLy⟩)
                | fail)
              go_roundw
              case rel => exact ⟨k + 1, g2, a2, snap2, r1', r2, by go_num, by omega, by omega, ((hLy.rot.rot.less (q' := Dk.bq (k + 1)) (by omega)).rot.rot)⟩
              case measure => simp [intOf]; omega
        · have q2 : ¬ (k : Int) < (l2.length : Int) := by omega
          have hra := HL2.out.room
          go_wp2_with (first
            | (go_at_call 14; refine hra.mono ?_; clear hra; rintro e wx ⟨rfl, hLx⟩; have hrb := hLx.rot.rot.room; clear hLx)
            | (go_at_call 14; refine hrb.mono ?_; clear hrb; rintro e wy ⟨rfl, hLy⟩)
            | fail)
          go_roundw
          case rel => exact ⟨k + 1, g2, a2, snap2, r1', r2, by go_num, by omega, by omega, ((hLy.rot.rot.less (q' := Dk.bq (k + 1)) (by omega)).rot.rot)⟩
          case measure => simp [intOf]; omega
    · have q0 : ¬ (k : Int) < 20 := by omega
      have hop1 := hL.opens
      have hf1 := hL.few
      have hf2 := hL.rot.few
      clear hL
      go_upto_region 33 with (first
        | (go_at_call 10; refine hop1.mono ?_; clear hop1; rintro e w4 ⟨y4, ad4, cap4, rfl, hL4⟩; have hL5 := hL4.box; have hop2 := hL5.rot.opens; clear hL4 hL5)
        | (go_at_call 10; refine hop2.mono ?_; clear hop2; rintro e w6 ⟨y6, ad6, cap6, rfl, hL6⟩; have hL7 := hL6.box; have hop3 := hL7.rot.opens; clear hL6 hL7)
        | (go_at_call 10; refine hop3.mono ?_; clear hop3; rintro e w8 ⟨y8, ad8, cap8, rfl, hL8⟩; have hL9 := hL8.box; clear hL8)
        | fail)
      generalize hW : w8.alloc (.cells #[.string ⟨#[]⟩, .slice ad8 r1.length cap8] 28) = W at *
      obtain ⟨p1, z1, h1b, hE1⟩ := hL9.take (b := w4.heap.size) (ts := []) (tr := r1) (by simp)
      obtain ⟨p2, z2, h2b, hE2⟩ := hE1.take (b := bS) (ts := []) (tr := r1) (by simp)
      obtain ⟨p3, z3, h3b, hE3⟩ := hE2.take (b := w6.heap.size) (ts := snap2) (tr := r2) (by simp)
      obtain ⟨p4, z4, h4b, hE4⟩ := hE3.take (b := bT) (ts := snap2) (tr := r2) (by simp)
      obtain ⟨p5, z5, h5b, hE5⟩ := hE4.take (b := w8.heap.size) (ts := []) (tr := r1) (by simp)
      obtain ⟨p6, z6, h6b, hE6⟩ := hE5.take (b := bU) (ts := []) (tr := r1) (by simp)
      have a10 := cell_of_row _ _ 0 _ _ _ h1b
      have a11 := cell_of_row _ _ 1 _ _ _ h1b
      have a20 := cell_of_row _ _ 0 _ _ _ h2b
      have a21 := cell_of_row _ _ 1 _ _ _ h2b
      simp only [List.getElem?_toArray, List.getElem?_cons_zero, List.getElem?_cons_succ] at a10 a11 a20 a21
      have hs1 := hE6.same hf1 (va := .agg #[.string ⟨#[]⟩, .slice p1 r1.length z1]) (vb := .agg #[.string ⟨#[]⟩, .slice p2 r1.length z2]) (ts := []) (by simp) (by simp)
      have HE : Hid _ := hE6
      have H3 : Hid _ := h3b
      have H4 : Hid _ := h4b
      have H5 : Hid _ := h5b
      have H6 : Hid _ := h6b
      clear hE1 hE2 hE3 hE4 hE5 hE6 hL9 h1b h2b h3b h4b h5b h6b hW
      go_wp2_with (first
        | (go_at_call 15; refine hs1.mono ?_; clear hs1; rintro e wx ⟨rfl, hbx⟩; have h3 := (hbx.block _ (Dk.block_lt H3.out)).trans H3.out; have h4 := (hbx.block _ (Dk.block_lt H4.out)).trans H4.out; have a30 := cell_of_row _ _ 0 _ _ _ h3; have a31 := cell_of_row _ _ 1 _ _ _ h3; have a40 := cell_of_row _ _ 0 _ _ _ h4; have a41 := cell_of_row _ _ 1 _ _ _ h4; simp only [List.getElem?_toArray, List.getElem?_cons_zero, List.getElem?_cons_succ] at a30 a31 a40 a41; have hs2 := (HE.out.below hbx).same hf2 (va := .agg #[.string ⟨snap2.toArray⟩, .slice p3 r2.length z3]) (vb := .agg #[.string ⟨snap2.toArray⟩, .slice p4 r2.length z4]) (ts := snap2) (by simp) (by simp))
        | (go_at_call 15; refine hs2.mono ?_; clear hs2; rintro e wy ⟨rfl, hby⟩; have hxy := hbx.trans (hby.mono hbx.size); have h5 := (hxy.block _ (Dk.block_lt H5.out)).trans H5.out; have h6 := (hxy.block _ (Dk.block_lt H6.out)).trans H6.out; have a50 := cell_of_row _ _ 0 _ _ _ h5; have a51 := cell_of_row _ _ 1 _ _ _ h5; have a60 := cell_of_row _ _ 0 _ _ _ h6; have a61 := cell_of_row _ _ 1 _ _ _ h6; simp only [List.getElem?_toArray, List.getElem?_cons_zero, List.getElem?_cons_succ] at a50 a51 a60 a61; have hs3 := (HE.out.below hxy).same hf1 (va := .agg #[.string ⟨#[]⟩, .slice p5 r1.length z5]) (vb := .agg #[.string ⟨#[]⟩, .slice p6 r1.length z6]) (ts := []) (by simp) (by simp))
        | (go_at_call 15; refine hs3.mono ?_; clear hs3; rintro e wz ⟨rfl, hbz⟩)
        | fail)
      go_ret
      exact ⟨by simp, (HE.out.below (hxy.trans (hbz.mono hxy.size))).bel⟩
end Go.Proofs
