/-
  JournalSpoilt: the walk.
-/
import Derived.Test.YtkoojpaanpmgeaaKz
import Derived.Test.YtkoojpaanpmgeaaKk
import Derived.Deep.AppendLies
import Derived.Deep.RegionHeld3
namespace Go.Dk
theorem half_bd {n P : Nat} (h : n = 8 + P) (hP : P < 60) : 192 ≤ 64 * half n ∧ 64 * half n ≤ 2112 := by unfold half; omega
end Go.Dk
namespace Go.Proofs
open Go.RowKit Go.Dk
set_option maxHeartbeats 4000000 in
set_option maxRecDepth 20000 in
theorem Try.journalSpoiltWalk (b : Int) (v : Value) (l : List (List UInt8)) (wh pl wi : Int) (w : World) (h1 : -9223372036854775808 ≤ b ∧ b ≤ 9223372036854775807) (hP : Dk.RowsIn w v l) (h2 : -9223372036854775808 ≤ wh ∧ wh ≤ 9223372036854775807) (h3 : -9223372036854775808 ≤ pl ∧ pl ≤ 9223372036854775807) (h4 : -9223372036854775808 ≤ wi ∧ wi ≤ 9223372036854775807) :
    Calls Try.prog 5 #[.int .i64 b, v, .int .i64 wh, .int .i64 pl, .int .i64 wi] w fun e w' => e = .returned (.bool true) ∧ Below w.heap.size w w' := by
  have hfm := Try.formatted_any b h1.1 h1.2 w
  have hp := Dk.pickN_lt b (n := 60) (by omega)
  obtain ⟨n, hn⟩ : ∃ n, n = 8 + Dk.pickN b 60 := ⟨_, rfl⟩
  have hbd := half_bd hn hp
  rw [← hn] at hfm
  have HP : Hid (Dk.RowsIn w v l) := hP
  obtain ⟨ad1, cap1, rfl, hcap, -⟩ := hP.ex
  obtain ⟨ii, hii, hz0, hz1, hz2⟩ := info_parts Try.info_int
  clear hP hn hp
  go_enter Try.func5, Try.ntmps5
  go_wp2_with (first
    | (go_at_call 9; refine hfm.mono ?_; clear hfm; rintro e w1 ⟨x, rfl, hF⟩; have htd := hF.told)
    | (go_at_call 16; refine htd.mono ?_; clear htd; rintro e w2 ⟨y, ad, cap, rfl, hL0⟩; have hL := hL0.box.drop (bs' := [(w2.heap.size, [], [])]) (ss' := []) (fun b e => e) (fun v e => absurd e (by simp)); have HL : Hid (Try.Lt w.heap.size w (w2.alloc (.cells #[.string ⟨#[]⟩, .slice ad 0 cap] 28)) n y x 900000 1 0 [] [] [(w2.heap.size, [], [])] []) := hL; clear hL hL0 hF)
    | fail)
  generalize hbN : w2.heap.size = bN at *
  go_loopw [15, 16, 17] (fun av en i wr => ∃ (k : Nat) (rs : List (List UInt8)), i = .int .i64 k ∧ en = .int .i64 (body [] rs).length ∧ k ≤ 9 ∧ k ≤ l.length ∧ Try.Lq w.heap.size w wr n y x (870000 + 3000 * (9 - k)) 1 0 [] rs [(bN, [], rs)] [] av (starts 0 rs)) (fun _ _ i _ => 9 - (intOf i).toNat)
  case atStart => exact ⟨0, [], rfl, rfl, by omega, by omega, (HL.out.less (by omega)).lq⟩
  case round =>
    obtain ⟨k, rs, rfl, rfl, hk9, hkl, hL⟩ := hrel
    clear HL
    have HL : Hid _ := hL
    have hrl := hL.lt.few
    have hbl : (body [] rs).length ≤ 64 * half n := by
      obtain ⟨_, s, hJ, ⟨hsn, _⟩, _⟩ := hL.ex
      rw [← hsn]; exact hJ.ho.small
    clear hL
    by_cases hgo : k < l.length ∧ k < 9
    · have q0 : (k : Int) < (l.length : Int) := by omega
      have q1 : (k : Int) < 9 := by omega
      obtain ⟨d, hd⟩ : ∃ d, l[k]? = some d := ⟨_, List.getElem?_eq_getElem hgo.1⟩
      obtain ⟨sb, so, ad2, cap2, rfl, hcell0, hsrc, hdl⟩ := HP.out.at hd
      have hsb : sb < w.heap.size := World.block_lt_of_cell? _ _ hcell0
      have hcell := (HL.out.bel.cell (p := ⟨sb, so + k, none⟩) hsb).trans hcell0
      have HS : Hid (Dk.Src w (.slice ad2 d.length cap2) d) := hsrc
      have HC0 : Hid (w.cell? ⟨sb, so + k, none⟩ = some (.slice ad2 d.length cap2)) := hcell0
      clear hd hsrc hcell0
      cases hfit : Dk.fits n (body [] rs).length d.length with
      | false =>
        have hfu := HL.out.full ad2 d.length cap2 (by omega) hfit
        obtain ⟨c, hc⟩ : ∃ c : Int, c = if d.length = 0 ∨ 6000 < d.length then 52 else 51 := ⟨_, rfl⟩
        have hc0 : c ≠ 0 := by rw [hc]; split <;> decide
        rw [← hc] at hfu
        clear hc
        go_wp2_with (first
          | (go_at_call 11; refine hfu.mono ?_; clear hfu; rintro e w3 ⟨rfl, hL3⟩)
          | fail)
        go_roundw
        case rel => exact ⟨k + 1, rs, by go_num, rfl, by omega, by omega, hL3.less (by omega)⟩
        case measure => simp [intOf]; omega
      | true =>
        have hap := (HL.out.less (q' := 870000 + 3000 * (9 - (k + 1)) + 3000) (by omega)).append _ d (HS.out.up HL.out.bel) hfit
        have h0 : 0 < d.length ∧ (body [] rs).length + 7 + d.length ≤ 64 * half n := by simp only [Dk.fits, decide_eq_true_eq] at hfit; omega
        go_upto_region 14 with (first
          | (go_at_call 11; refine hap.mono ?_; clear hap; rintro e w3 ⟨rfl, hL3⟩)
          | fail)
        obtain ⟨ad9, cap9, hbx9, hL9'⟩ := hL3.take (List.mem_singleton.2 rfl)
        have c90 : w3.cell? ⟨bN, 0, none⟩ = some (.string ⟨#[]⟩) := cell_of_row _ _ 0 _ _ _ hbx9
        have c91 : w3.cell? ⟨bN, 1, none⟩ = some (.slice ad9 rs.length cap9) := cell_of_row _ _ 1 _ _ _ hbx9
        have hcell3 := (hL3.bel.cell (p := ⟨sb, so + k, none⟩) hsb).trans HC0.out
        have hcv3 := Try.src_conv ((HS.out.up hL3.bel).up (Below.refl w3.heap.size w3).drew) h0.1
        have HL9 : Hid _ := hL9'
        clear hL3 hL9' hbx9 hcell
        go_region_with (first
          | (go_at_call 12; refine ((HL9.out.below (Below.refl w3.heap.size w3).drew).with hrl d).mono ?_; rintro e w10 ⟨ad10, cap10, rfl, hL10⟩; obtain ⟨ad11, cap11, hbx10, -⟩ := hL10.take (List.mem_singleton.2 rfl); have c100 : w10.cell? ⟨bN, 0, none⟩ = some (.string ⟨#[]⟩) := cell_of_row _ _ 0 _ _ _ hbx10; have c101 : w10.cell? ⟨bN, 1, none⟩ = some (.slice ad11 rs.length cap11) := cell_of_row _ _ 1 _ _ _ hbx10; have f100 := frozen_of_row _ _ 0 _ _ hbx10; have f101 := frozen_of_row _ _ 1 _ _ hbx10; have HL10 : Hid _ := hL10; clear hL10 hbx10)
          | fail)
        all_goals
          have hLW := HL10.out.put
          clear HL10 c100 c101 f100 f101
          go_upto_region 15 with fail
          generalize hW : (w10.setCell ⟨bN, 0, none⟩ (.string ⟨#[]⟩)).setCell ⟨bN, 1, none⟩ (.slice ad10 (rs.length + 1) cap10) = W at *
          have hLW' : Try.Lq w.heap.size w W n y x (870000 + 3000 * (9 - (k + 1))) 1 0 [] (rs ++ [d]) [(bN, [], rs ++ [d])] [] u15 (starts 0 rs) := hLW
          clear hLW hW
          have hsW := hLW'.lt.size
          obtain ⟨_, _, _, _, _, _, _, hrowA, _⟩ := hLW'.ex
          have HRA : Hid (W.ownsRow w.heap.size 3 1 u15 (starts 0 rs).length (Dk.ints (starts 0 rs))) := hrowA
          have hcellW := (hLW'.bel.cell (p := ⟨sb, so + k, none⟩) hsb).trans HC0.out
          have HLW : Hid _ := hLW'
          have hsl := starts_len rs 0
          have hrs9 : (starts 0 rs).length < 1000000 := by omega
          clear hrowA hLW' hsl
          go_wp2_with (first
            | (at_builtin; refine wpList_append_lies _ rfl _ _ 39 rfl w.heap.size 3 ii _ 1 8 Try.underlying39 hii hz0 hz1 hz2 rfl (by omega) u15 (starts 0 rs).length (Dk.ints (starts 0 rs)) (by rfl) (HRA.out.alloc _) ⟨W.heap.size, 0, none⟩ 1 1 [.int .i64 (body [] rs).length] (by rfl) (by rfl) (World.news_of_block (cs := #[.int .i64 (body [] rs).length]) (t := 3) (fr := (0, 0)) (heap_alloc_new W _)) (by simp [Value.oneCell']) (by omega) (by unfold maxLen; omega) (by omega) (by simp; omega) (W.heap.size + 1) (by simp) ?_; intro g1 cp1 w12 hown hgrow hat hlt; have hL12 := HLW.out.more hgrow hown hat; have hcell12 := (hL12.bel.cell (p := ⟨sb, so + k, none⟩) hsb).trans HC0.out; have HL12 : Hid _ := hL12; clear hL12 hown hgrow hat)
            | fail)
          go_roundw
          case rel =>
            refine ⟨k + 1, rs ++ [d], by go_num, ?_, by omega, by omega, ?_⟩
            · rw [body_snoc0]; go_num
            · rw [starts_snoc, Nat.zero_add, ← body_nil]; exact HL12.out
          case measure => simp [intOf]; omega
    · obtain ⟨own, s, hJ, ⟨hsn, hsf⟩, hlo, hbx, -, hrowA, hav⟩ := HL.out.ex
      obtain ⟨rvN, hN0, hNb, hNr, hNk⟩ := hbx _ (List.mem_singleton.2 rfl)
      obtain ⟨adN, capN, rfl, hcapN, -, -, hcN⟩ := Dk.row_form hNr
      obtain ⟨adA, capA, rfl, -, -, -, hcA⟩ := Dk.row_form hrowA
      have hTq : Try.Tq w.heap.size w wr own s x bN (.slice adN rs.length capN) rs := ⟨hJ.dsk, hlo, hN0, ⟨hNb.1, hNb.2.2⟩, hNr, fun k e => ⟨(hNk k e).1, (hNk k e).2.2⟩, HL.out.bel⟩
      have hsl := starts_len rs 0
      rw [hsl]
      have HBW : Hid (Below w.heap.size w wr) := HL.out.bel
      have c1 : wr.cell? ⟨bN, 1, none⟩ = some (.slice adN rs.length capN) := cell_of_row _ _ 1 _ _ _ hN0
      clear HL hrowA hav hbx hNb hNr hNk hN0
      rcases Nat.eq_zero_or_pos rs.length with h0 | h0
      · rw [h0]
        rcases (show ¬ (k : Int) < (l.length : Int) ∨ ((k : Int) < (l.length : Int) ∧ ¬ (k : Int) < 9) by omega) with q0 | ⟨q0, q1⟩
        all_goals
          go_wp2
          go_ret
          exact ⟨rfl, HBW.out⟩
      · have hpk1 : ∀ W, Calls Try.prog 17 #[.int .i64 wh, .int .i64 rs.length] W fun e w' => e = .returned (.int .i64 (Dk.pickN wh rs.length)) ∧ w' = W := fun W => Try.pick_any wh rs.length (by omega) (by omega) h2.1 h2.2 W
        have hKl := Dk.pickN_lt wh h0
        generalize Dk.pickN wh rs.length = K at hpk1 hKl
        obtain ⟨d, hd⟩ : ∃ d, rs[K]? = some d := ⟨_, List.getElem?_eq_getElem hKl⟩
        obtain ⟨gN, rfl, -, hgN, cN⟩ := hcN K _ (Dk.strs_at hd)
        obtain ⟨P, hP⟩ : ∃ P, P = (body [] (rs.take K)).length := ⟨_, rfl⟩
        obtain ⟨gA, rfl, -, hgA, cA⟩ := hcA K (.int .i64 P) (by rw [hP, body_nil]; simp [Dk.ints, starts_get rs 0 K hKl])
        have hdl := hJ.ho.rl d (List.mem_of_getElem? hd)
        have hpk2 : ∀ W, Calls Try.prog 17 #[.int .i64 pl, .int .i64 (5 + (d.length : Int))] W fun e w' => e = .returned (.int .i64 (Dk.pickN pl (5 + d.length))) ∧ w' = W := fun W => by
          have := Try.pick_any pl (5 + d.length) (by omega) (by omega) h3.1 h3.2 W
          rwa [show ((5 + d.length : Nat) : Int) = 5 + (d.length : Int) by omega] at this
        have hpk3 : ∀ W, Calls Try.prog 17 #[.int .i64 wi, .int .i64 255] W fun e w' => e = .returned (.int .i64 (Dk.pickN wi 255)) ∧ w' = W := fun W => Try.pick_any wi 255 (by omega) (by omega) h4.1 h4.2 W
        have hNl := Dk.pickN_lt pl (n := 5 + d.length) (by omega)
        have hCl := Dk.pickN_lt wi (n := 255) (by omega)
        generalize Dk.pickN pl (5 + d.length) = N at hpk2 hNl
        generalize Dk.pickN wi 255 = C at hpk3 hCl
        have hrd : ∀ (W : World), Below wr.heap.size wr W → ∀ (T p : Nat), p = (body [] (rs.take K)).length + T → T < 7 + d.length → ∀ z : Int, z = ((2 + p / 64 : Nat) : Int) → Calls Try.prog 18 #[.pointer (some ⟨x, 0, none⟩), .int .i64 z] W fun e w' => e = .returned (.tuple #[.slice (some ⟨W.heap.size, 0, none⟩) 64 64, .int .i64 0]) ∧ w'.heap[W.heap.size]? = some (.cells (Lib.byteCells (blk s.view (2 + p / 64))).toArray 5 (0, 0)) ∧ Try.Tq w.heap.size w w' own s x bN (.slice (some ⟨gN, 0, none⟩) rs.length capN) rs ∧ (¬ own W.heap.size ∧ W.heap.size ≠ bN ∧ w.heap.size ≤ W.heap.size ∧ ∀ k, Value.ownBlock (.slice (some ⟨gN, 0, none⟩) rs.length capN) = some k → k ≠ W.heap.size) := fun W hW T p hp hT z hz => by
          rw [hz]
          exact (hTq.below hW).read hJ.can.dead _ (byte_there hJ.ho hd hT hp).1
        have HTQ : Hid _ := hTq
        have HRD : Hid _ := hrd
        have HJ : Hid (Try.JD wr own y x s (870000 + 3000 * (9 - k)) 1 0 [] rs) := hJ
        clear hTq hJ hrd hcN hcA
        have hbt := body_at (snap := []) (t := 0) hd (by omega)
        have hPb : P + 7 + d.length ≤ 64 * half n := by have := hbt.2; omega
        have HPP : Hid (P = (body [] (rs.take K)).length) := hP
        clear hP hbt
        obtain ⟨T, p, hTp, hTl, hT3, hcase⟩ : ∃ T p : Nat, p = P + T ∧ T < 7 + d.length ∧ (T = 0 ∨ 3 ≤ T) ∧ (((N : Int) = 0 ∧ p = P) ∨ ((0 < (N : Int)) ∧ (P : Int) + ((N : Int) + 2) = (p : Int))) := by
          rcases Nat.eq_zero_or_pos N with hN0 | hN0
          · exact ⟨0, P, rfl, by omega, .inl rfl, .inl ⟨by omega, rfl⟩⟩
          · exact ⟨N + 2, P + (N + 2), rfl, by omega, by omega, .inr ⟨by omega, by omega⟩⟩
        obtain ⟨I, J, hI, hJm, hI2, hJ2⟩ : ∃ I J : Nat, 2 + (p : Int) / 64 = (I : Int) ∧ (p : Int) % 64 = (J : Int) ∧ I = 2 + p / 64 ∧ J = p % 64 := ⟨_, _, by omega, by omega, rfl, rfl⟩
        have HR2 : Hid (∀ (W : World), Below wr.heap.size wr W → Calls Try.prog 18 #[.pointer (some ⟨x, 0, none⟩), .int .i64 (I : Int)] W fun e w' => e = .returned (.tuple #[.slice (some ⟨W.heap.size, 0, none⟩) 64 64, .int .i64 0]) ∧ w'.heap[W.heap.size]? = some (.cells (Lib.byteCells (blk s.view I)).toArray 5 (0, 0)) ∧ Try.Tq w.heap.size w w' own s x bN (.slice (some ⟨gN, 0, none⟩) rs.length capN) rs ∧ (¬ own W.heap.size ∧ W.heap.size ≠ bN ∧ w.heap.size ≤ W.heap.size ∧ ∀ k, Value.ownBlock (.slice (some ⟨gN, 0, none⟩) rs.length capN) = some k → k ≠ W.heap.size)) := fun W hW => by
          rw [hI2]
          exact HRD.out W hW T p (by rw [hTp, HPP.out]) hTl _ rfl
        obtain ⟨hIn, hpl, xb, hxb, hxr⟩ := byte_there HJ.out.ho hd hTl (p := p) (by rw [hTp, HPP.out])
        rw [← hI2] at hIn hxb
        rw [← hJ2] at hxb
        have hJ64 : J < 64 := by omega
        have hKc : (K : Int) ≤ (capN : Int) := by
          have hcapN' : rs.length ≤ capN := hcapN
          omega
        clear hcapN
        have hJi : (J : Int) < 64 := by omega
        have hJt : (p : Int).tmod 64 = (J : Int) := by rw [Int.tmod_eq_emod_of_nonneg (by omega)]; exact hJm
        have HXB : Hid ((blk s.view I)[J]? = some xb) := hxb
        have HXR : Hid ((recB d)[T]? = some xb) := hxr
        have HI2 : Hid (I = 2 + p / 64 ∧ J = p % 64 ∧ p = P + T ∧ (T = 0 ∨ 3 ≤ T)) := ⟨hI2, hJ2, hTp, hT3⟩
        have hx256 := xb.toNat_lt
        obtain ⟨yb, hyb0, hxy⟩ := byte_turn xb hCl
        have HYB : Hid (((xb.toNat : Int) + 1 + (C : Int)) % 256 = ((yb.toNat : Nat) : Int)) := by show _ = _; omega
        have HXY : Hid (xb ≠ yb) := hxy
        clear hyb0 hxy
        clear HRD hxb hxr hI2 hJ2 hT3
        rcases hcase with ⟨hN0, hpP⟩ | ⟨hN0, hpe⟩
        all_goals
          clear hTp
          try subst hpP
          rcases (show ¬ (k : Int) < (l.length : Int) ∨ ((k : Int) < (l.length : Int) ∧ ¬ (k : Int) < 9) by omega) with q0 | ⟨q0, q1⟩
        all_goals
          go_upto_region 27 with (first
            | (go_at_call 17; refine (hpk1 _).mono ?_; clear hpk1; rintro e w1 ⟨rfl, rfl⟩)
            | (go_at_call 17; refine (hpk2 _).mono ?_; clear hpk2; rintro e w1 ⟨rfl, rfl⟩)
            | (go_at_call 18; refine (HR2.out _ (Below.refl _ _)).mono ?_; rintro e w2 ⟨rfl, hg2, hT2, hno2⟩; have cB := (cell_of_row _ _ J _ _ _ hg2).trans (Eq.trans (List.getElem?_toArray) (Dk.byteCell_at HXB.out)); have fB := frozen_of_row _ _ J _ _ hg2; generalize hwB : w1.heap.size = wB at *; have HG2 : Hid _ := hg2; have HT2 : Hid _ := hT2; have HN2 : Hid _ := hno2; clear hg2 hT2 hno2)
            | fail)
          go_region_with (first
            | (go_at_call 17; refine (hpk3 _).mono ?_; rintro e w3 ⟨rfl, rfl⟩)
            | fail)
          all_goals
            go_wp2_with (first
              | (go_at_call 19; refine (Try.Tq.spoil (q := 10) HT2.out HJ.out.ho (HJ.out.can.mono (by omega)) hd HI2.out.2.2.2 HXR.out HXY.out (by rw [HI2.out.2.2.1, HPP.out]) HI2.out.1 HI2.out.2.1 hIn HG2.out HN2.out _ HYB.out).mono ?_; rintro e w4 ⟨rfl, own4, s4, hT4, htl4, hd4⟩; obtain ⟨rk, hrk⟩ : ∃ rk, rk = rs.take K := ⟨_, rfl⟩; rw [← hrk] at htl4; have hrkl : rk.length = K := by rw [hrk, List.length_take]; omega
                 have HRK : Hid _ := hrk; clear hrk; have htd := Try.told_tells hT4.dsk htl4 hd4; have HT4 : Hid _ := hT4; clear hT4 htl4 hd4)
              | (go_at_call 16; refine htd.mono ?_; clear htd; rintro e w5 ⟨y5, t5, rfl, hTd⟩; obtain ⟨rvF, rfl, hrF, hbF⟩ := hTd.st; obtain ⟨adF, capF, rfl, -⟩ := Dk.row_form hrF; rw [hrkl] at hTd ⊢; rw [HRK.out] at hTd; have hbx5 := (HT4.out.below hTd.bel).bx; have hlt5 := Dk.block_lt hbx5; have c50 := (Below.heap_alloc w5 (.cells #[.string ⟨#[]⟩, .slice adF K capF] 28) bN hlt5).trans hbx5; have d50 := cell_of_row _ _ 0 _ _ _ c50; have c51 := cell_of_row _ _ 1 _ _ _ c50; have f51 := frozen_of_row _ _ 1 _ _ c50; obtain ⟨hX7, hN7, hb7, hsm⟩ := HT4.out.last (by omega) (by omega) hTd; have x70 := cell_of_row _ _ 0 _ _ _ hX7; have x71 := cell_of_row _ _ 1 _ _ _ hX7; have n70 := cell_of_row _ _ 0 _ _ _ hN7; have n71 := cell_of_row _ _ 1 _ _ _ hN7; simp only [List.getElem?_toArray, List.getElem?_cons_zero, List.getElem?_cons_succ] at d50 c51 x70 x71 n70 n71; have HB7 : Hid _ := hb7; clear hlt5 c50 hbx5 hX7 hN7 hb7 hTd hrF hbF)
              | (go_at_call 15; refine (hsm _ (by rfl)).mono ?_; clear hsm; rintro e w8 ⟨rfl, hb8⟩)
              | fail)
            go_ret
            exact ⟨rfl, HB7.out.trans (hb8.mono (by have := HB7.out.size; omega))⟩
end Go.Proofs
