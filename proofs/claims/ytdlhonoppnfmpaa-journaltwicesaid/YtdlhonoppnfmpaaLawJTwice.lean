/-
  JournalTwice: the walk (its arms are written by gentwice.py).
-/
import Derived.Test.YtdlhonoppnfmpaaTg
import Derived.Lib.SlBytesConst
namespace Go.Proofs
open Go.RowKit Go.Dk
set_option maxHeartbeats 8000000 in
set_option maxRecDepth 20000 in
theorem Try.journalTwiceWalk (b : Int) (v1 : Value) (l : List UInt8) (v2 : Value) (ls : List (List UInt8)) (v3 : Value) (lt : List (List UInt8)) (w : World) (h1 : -9223372036854775808 ≤ b ∧ b ≤ 9223372036854775807) (hP1 : Dk.Src w v1 l) (hl : l.length ≤ 140737488351232) (hP2 : Dk.RowsIn w v2 ls) (hP3 : Dk.RowsIn w v3 lt) :
    Calls Try.prog 3 #[.int .i64 b, v1, v2, v3] w fun e w' => e = .returned (.bool true) ∧ Below w.heap.size w w' := by
  have hf1 := Try.filled_any b v1 l v2 ls w h1 hP1 hl hP2
  have hf2 : ∀ W, Below w.heap.size w W → _ := fun W hW => Try.filled_any b v1 l v2 ls W h1 (hP1.up hW) hl (hP2.up hW)
  have hf3 : ∀ W, Below w.heap.size w W → _ := fun W hW => Try.filled_any b (.slice none 0 0) [] v3 lt W h1 ⟨none, 0, rfl, .inl rfl⟩ (by simp) (hP3.up hW)
  have hcv := fun (w : World) (C : Array Value) (n c : Nat) => Lib.run_convert_bytes_const (P := Try.prog) w 22 5 C n c Try.underlying22 Try.underlying5
  clear hP1 hP2 hP3 hl
  go_enter Try.func3, Try.ntmps3
  go_upto_region 6 with (first
    | (go_at_call 4; refine hf1.mono ?_; clear hf1; rintro e w1 ⟨x1, s1, r1, a1, c1, rfl, hF1⟩; have hb1 : Below w.heap.size w (w1.alloc (.cells #[.string ⟨s1.toArray⟩, .slice a1 r1.length c1] 27)) := hF1.bel.alloc hF1.bel.size _; have hD1 := hF1.box; have hg2 := hf2 _ hb1; clear hf2 hF1)
    | (go_at_call 4; refine hg2.mono ?_; clear hg2; rintro e w2 ⟨x2, s2, r2, a2, c2, rfl, hF2⟩; have hc2 : Below (w1.alloc (.cells #[.string ⟨s1.toArray⟩, .slice a1 r1.length c1] 27)).heap.size (w1.alloc (.cells #[.string ⟨s1.toArray⟩, .slice a1 r1.length c1] 27)) (w2.alloc (.cells #[.string ⟨s2.toArray⟩, .slice a2 r2.length c2] 27)) := hF2.bel.alloc hF2.bel.size _; have hb2 : Below w.heap.size w (w2.alloc (.cells #[.string ⟨s2.toArray⟩, .slice a2 r2.length c2] 27)) := hb1.trans (hc2.mono hb1.size); have hE1 := hD1.below hc2; have hD2 := hF2.box; have hg3 := hf3 _ hb2; clear hf3 hF2 hD1 hc2 hb1)
    | (go_at_call 4; refine hg3.mono ?_; clear hg3; rintro e w3 ⟨x3, s3, r3, a3, c3, rfl, hF3⟩; have hc3 : Below (w2.alloc (.cells #[.string ⟨s2.toArray⟩, .slice a2 r2.length c2] 27)).heap.size (w2.alloc (.cells #[.string ⟨s2.toArray⟩, .slice a2 r2.length c2] 27)) (w3.alloc (.cells #[.string ⟨s3.toArray⟩, .slice a3 r3.length c3] 27)) := hF3.bel.alloc hF3.bel.size _; have hb3 : Below w.heap.size w (w3.alloc (.cells #[.string ⟨s3.toArray⟩, .slice a3 r3.length c3] 27)) := hb2.trans (hc3.mono hb2.size); have hK1 := hE1.below hc3; have hK2 := hD2.below hc3; have hK3 := hF3.box; clear hF3 hE1 hD2 hc3 hb2)
    | fail)
  generalize hW : w3.alloc (.cells #[.string ⟨s3.toArray⟩, .slice a3 r3.length c3] 27) = W at *
  generalize hw1 : w1.heap.size = t1 at *
  generalize hw2 : w2.heap.size = t2 at *
  generalize hw3 : w3.heap.size = t3 at *
  have K1 : Hid (Try.Dt W x1 t1 a1 c1 s1 r1) := hK1
  have K2 : Hid (Try.Dt W x2 t2 a2 c2 s2 r2) := hK2
  have K3 : Hid (Try.Dt W x3 t3 a3 c3 s3 r3) := hK3
  have HBW : Hid (Below w.heap.size w W) := hb3
  clear hW hw1 hw2 hw3 hK1 hK2 hK3 hb3
  obtain ⟨ow1, sd1, g1, e1, q1, hd1, ho1, hca1⟩ := K1.out.ex
  obtain ⟨ow2, sd2, g2, e2, q2, hd2, ho2, hca2⟩ := K2.out.ex
  obtain ⟨ow3, sd3, g3, e3, q3, hd3, ho3, hca3⟩ := K3.out.ex
  have hr1 := Try.raw_any hd1 ho1 hca1
  have hr2 : ∀ V, Below W.heap.size W V → _ := fun V hV => Try.raw_any (hd3.below hV) ho3 hca3
  have hr3 : ∀ V, Below W.heap.size W V → _ := fun V hV => Try.raw_any (hd1.below hV) ho1 hca1
  have hr4 : ∀ V, Below W.heap.size W V → _ := fun V hV => Try.raw_any (hd2.below hV) ho2 hca2
  clear hd1 ho1 hca1 hd2 ho2 hca2 hd3 ho3 hca3
  go_upto_region 10 with (first
    | (go_at_call 5; refine hr1.mono ?_; clear hr1; rintro e wa ⟨bA, aA, cA, RA, rfl, gA, sA, oA, hbA⟩; have hs2 := hr2 _ hbA; clear hr2)
    | (go_at_call 5; refine hs2.mono ?_; clear hs2; rintro e wb ⟨bC, aC, cC, RC, rfl, gC, sC, -, hbC⟩; have hVb := hbA.trans (hbC.mono hbA.size); have hs3 := hr3 _ hVb; clear hr3)
    | (go_at_call 5; refine hs3.mono ?_; clear hs3; rintro e wc ⟨bH, aH, cH, RH, rfl, gH, sH, oH, hbH⟩; have hVc := hVb.trans (hbH.mono hVb.size); have hs4 := hr4 _ hVc; clear hr4)
    | (go_at_call 5; refine hs4.mono ?_; clear hs4; rintro e wd ⟨bN, aN, cN, RN, rfl, gN, sN, oN, hbN⟩; have hVd := hVc.trans (hbN.mono hVc.size))
    | fail)
  have HQ0 : Hid (Try.G4 W.heap.size W wd ⟨W.heap.size, wa.heap.size, bA, s1.length, cA, aA, r1⟩ ⟨wa.heap.size, wb.heap.size, bC, s3.length, cC, aC, r3⟩ ⟨wb.heap.size, wc.heap.size, bH, s1.length, cH, aH, r1⟩ ⟨wc.heap.size, wd.heap.size, bN, s2.length, cN, aN, r2⟩ RA RC RH RN true true true) := by
    have za := hbA.size
    have zb := hbC.size
    have zc := hbH.size
    have zd := hbN.size
    have hcd := hbN
    have hbd : Below wb.heap.size wb wd := hbH.trans (hbN.mono zc)
    have had : Below wa.heap.size wa wd := hbC.trans (hbd.mono zb)
    refine ⟨hVd, ?_, ?_, ?_, ?_, Nat.le_refl _, Nat.le_refl _, Nat.le_refl _, Nat.le_refl _, Nat.le_refl _⟩
    · exact Try.Gd.keep (w := wa) ⟨gA, fun _ => ⟨oA, fun k e => (oA.lt k e).2⟩⟩ fun k _ hk => had.block k hk
    · exact Try.Gd.keep (w := wb) ⟨gC, fun e => by cases e⟩ fun k _ hk => hbd.block k hk
    · exact Try.Gd.keep (w := wc) ⟨gH, fun _ => ⟨oH, fun k e => (oH.lt k e).2⟩⟩ fun k _ hk => hcd.block k hk
    · exact ⟨gN, fun _ => ⟨oN, fun k e => (oN.lt k e).2⟩⟩
  have SA : Hid (Says RA s1 r1) := sA
  have SC : Hid (Says RC s3 r3) := sC
  have SH : Hid (Says RH s1 r1) := sH
  have SN : Hid (Says RN s2 r2) := sN
  clear gA gC gH gN sA sC sH sN oA oH oN hbA hbC hbH hbN hVb hVc hVd
  generalize wa.heap.size = ma at *
  generalize wb.heap.size = mb at *
  generalize wc.heap.size = mc at *
  generalize wd.heap.size = md at *
  have hC := Try.still_any (cap := cA) (show Try.Gc wd W.heap.size ma bA RA s1.length r1 aA from HQ0.out.a.gc) SA.out HQ0.out.sz.1 ((K1.out.below HQ0.out.bel).st)
  have yb := ((K1.out.below HQ0.out.bel).bx)
  have y0 := cell_of_row _ _ 0 _ _ _ yb
  have y1 := cell_of_row _ _ 1 _ _ _ yb
  simp only [List.getElem?_toArray, List.getElem?_cons_zero, List.getElem?_cons_succ] at y0 y1
  clear yb
  go_upto_region 27 with (first
    | (go_at_call 6; refine hC.mono ?_; clear hC y0 y1; rintro e v1 ⟨rfl, hb⟩; have HQ1 : Hid (Try.G4 W.heap.size W v1 ⟨W.heap.size, ma, bA, s1.length, cA, aA, r1⟩ ⟨ma, mb, bC, s3.length, cC, aC, r3⟩ ⟨mb, mc, bH, s1.length, cH, aH, r1⟩ ⟨mc, md, bN, s2.length, cN, aN, r2⟩ RA RC RH RN true true true) := HQ0.out.below hb; clear hb HQ0; have hC := Try.still_any (cap := cC) (show Try.Gc v1 ma mb bC RC s3.length r3 aC from HQ1.out.c.gc) SC.out HQ1.out.sz.2.1 ((K3.out.below HQ1.out.bel).st); have yb := ((K3.out.below HQ1.out.bel).bx); have y0 := cell_of_row _ _ 0 _ _ _ yb; have y1 := cell_of_row _ _ 1 _ _ _ yb; simp only [List.getElem?_toArray, List.getElem?_cons_zero, List.getElem?_cons_succ] at y0 y1; clear yb)
    | (go_at_call 6; refine hC.mono ?_; clear hC y0 y1; rintro e v2 ⟨rfl, hb⟩; have HQ2 : Hid (Try.G4 W.heap.size W v2 ⟨W.heap.size, ma, bA, s1.length, cA, aA, r1⟩ ⟨ma, mb, bC, s3.length, cC, aC, r3⟩ ⟨mb, mc, bH, s1.length, cH, aH, r1⟩ ⟨mc, md, bN, s2.length, cN, aN, r2⟩ RA RC RH RN true true true) := HQ1.out.below hb; clear hb HQ1; have hC := Try.still_any (cap := cH) (show Try.Gc v2 mb mc bH RH s1.length r1 aH from HQ2.out.h.gc) SH.out HQ2.out.sz.2.2.1 ((K1.out.below HQ2.out.bel).st); have yb := ((K1.out.below HQ2.out.bel).bx); have y0 := cell_of_row _ _ 0 _ _ _ yb; have y1 := cell_of_row _ _ 1 _ _ _ yb; simp only [List.getElem?_toArray, List.getElem?_cons_zero, List.getElem?_cons_succ] at y0 y1; clear yb)
    | (go_at_call 6; refine hC.mono ?_; clear hC y0 y1; rintro e v3 ⟨rfl, hb⟩; have HQ3 : Hid (Try.G4 W.heap.size W v3 ⟨W.heap.size, ma, bA, s1.length, cA, aA, r1⟩ ⟨ma, mb, bC, s3.length, cC, aC, r3⟩ ⟨mb, mc, bH, s1.length, cH, aH, r1⟩ ⟨mc, md, bN, s2.length, cN, aN, r2⟩ RA RC RH RN true true true) := HQ2.out.below hb; clear hb HQ2; have hC := Try.still_any (cap := cN) (show Try.Gc v3 mc md bN RN s2.length r2 aN from HQ3.out.n.gc) SN.out HQ3.out.sz.2.2.2.1 ((K2.out.below HQ3.out.bel).st); have yb := ((K2.out.below HQ3.out.bel).bx); have y0 := cell_of_row _ _ 0 _ _ _ yb; have y1 := cell_of_row _ _ 1 _ _ _ yb; simp only [List.getElem?_toArray, List.getElem?_cons_zero, List.getElem?_cons_succ] at y0 y1; clear yb)
    | (go_at_call 6; refine hC.mono ?_; clear hC y0 y1; rintro e v4 ⟨rfl, hb⟩; have HQ4 : Hid (Try.G4 W.heap.size W v4 ⟨W.heap.size, ma, bA, s1.length, cA, aA, r1⟩ ⟨ma, mb, bC, s3.length, cC, aC, r3⟩ ⟨mb, mc, bH, s1.length, cH, aH, r1⟩ ⟨mc, md, bN, s2.length, cN, aN, r2⟩ RA RC RH RN true true true) := HQ3.out.below hb; clear hb HQ3; have hC := Try.Gd.owned 65 65 (by decide) HQ4.out.a HQ4.out.sz.1)
    | (go_at_call 7; refine hC.mono ?_; clear hC; rintro e v5 ⟨⟨rv5, rfl⟩, PRA, hG, hP, hw⟩; have HQ5 : Hid (Try.G4 W.heap.size W v5 ⟨W.heap.size, ma, bA, s1.length, cA, aA, r1⟩ ⟨ma, mb, bC, s3.length, cC, aC, r3⟩ ⟨mb, mc, bH, s1.length, cH, aH, r1⟩ ⟨mc, md, bN, s2.length, cN, aN, r2⟩ PRA RC RH RN true true true) := HQ4.out.turnA hw hG; have PA : Hid (Paint PRA s1.length r1 65) := hP; clear hG hP hw HQ4; have hC := Try.still_any (cap := cC) (show Try.Gc v5 ma mb bC RC s3.length r3 aC from HQ5.out.c.gc) SC.out HQ5.out.sz.2.1 ((K3.out.below HQ5.out.bel).st); have yb := ((K3.out.below HQ5.out.bel).bx); have y0 := cell_of_row _ _ 0 _ _ _ yb; have y1 := cell_of_row _ _ 1 _ _ _ yb; simp only [List.getElem?_toArray, List.getElem?_cons_zero, List.getElem?_cons_succ] at y0 y1; clear yb)
    | (go_at_call 6; refine hC.mono ?_; clear hC y0 y1; rintro e v6 ⟨rfl, hb⟩; have HQ6 : Hid (Try.G4 W.heap.size W v6 ⟨W.heap.size, ma, bA, s1.length, cA, aA, r1⟩ ⟨ma, mb, bC, s3.length, cC, aC, r3⟩ ⟨mb, mc, bH, s1.length, cH, aH, r1⟩ ⟨mc, md, bN, s2.length, cN, aN, r2⟩ PRA RC RH RN true true true) := HQ5.out.below hb; clear hb HQ5; have hC := Try.still_any (cap := cH) (show Try.Gc v6 mb mc bH RH s1.length r1 aH from HQ6.out.h.gc) SH.out HQ6.out.sz.2.2.1 ((K1.out.below HQ6.out.bel).st); have yb := ((K1.out.below HQ6.out.bel).bx); have y0 := cell_of_row _ _ 0 _ _ _ yb; have y1 := cell_of_row _ _ 1 _ _ _ yb; simp only [List.getElem?_toArray, List.getElem?_cons_zero, List.getElem?_cons_succ] at y0 y1; clear yb)
    | (go_at_call 6; refine hC.mono ?_; clear hC y0 y1; rintro e v7 ⟨rfl, hb⟩; have HQ7 : Hid (Try.G4 W.heap.size W v7 ⟨W.heap.size, ma, bA, s1.length, cA, aA, r1⟩ ⟨ma, mb, bC, s3.length, cC, aC, r3⟩ ⟨mb, mc, bH, s1.length, cH, aH, r1⟩ ⟨mc, md, bN, s2.length, cN, aN, r2⟩ PRA RC RH RN true true true) := HQ6.out.below hb; clear hb HQ6; have hC := Try.still_any (cap := cN) (show Try.Gc v7 mc md bN RN s2.length r2 aN from HQ7.out.n.gc) SN.out HQ7.out.sz.2.2.2.1 ((K2.out.below HQ7.out.bel).st); have yb := ((K2.out.below HQ7.out.bel).bx); have y0 := cell_of_row _ _ 0 _ _ _ yb; have y1 := cell_of_row _ _ 1 _ _ _ yb; simp only [List.getElem?_toArray, List.getElem?_cons_zero, List.getElem?_cons_succ] at y0 y1; clear yb)
    | (go_at_call 6; refine hC.mono ?_; clear hC y0 y1; rintro e v8 ⟨rfl, hb⟩; have HQ8 : Hid (Try.G4 W.heap.size W v8 ⟨W.heap.size, ma, bA, s1.length, cA, aA, r1⟩ ⟨ma, mb, bC, s3.length, cC, aC, r3⟩ ⟨mb, mc, bH, s1.length, cH, aH, r1⟩ ⟨mc, md, bN, s2.length, cN, aN, r2⟩ PRA RC RH RN true true true) := HQ7.out.below hb; clear hb HQ7; have hC := Try.Gd.owned 72 72 (by decide) HQ8.out.h HQ8.out.sz.2.2.1)
    | (go_at_call 7; refine hC.mono ?_; clear hC; rintro e v9 ⟨⟨rv9, rfl⟩, PRH, hG, hP, hw⟩; have HQ9 : Hid (Try.G4 W.heap.size W v9 ⟨W.heap.size, ma, bA, s1.length, cA, aA, r1⟩ ⟨ma, mb, bC, s3.length, cC, aC, r3⟩ ⟨mb, mc, bH, s1.length, cH, aH, r1⟩ ⟨mc, md, bN, s2.length, cN, aN, r2⟩ PRA RC PRH RN true true true) := HQ8.out.turnH hw hG; have PH : Hid (Paint PRH s1.length r1 72) := hP; clear hG hP hw HQ8; have hC := Try.still_any (cap := cC) (show Try.Gc v9 ma mb bC RC s3.length r3 aC from HQ9.out.c.gc) SC.out HQ9.out.sz.2.1 ((K3.out.below HQ9.out.bel).st); have yb := ((K3.out.below HQ9.out.bel).bx); have y0 := cell_of_row _ _ 0 _ _ _ yb; have y1 := cell_of_row _ _ 1 _ _ _ yb; simp only [List.getElem?_toArray, List.getElem?_cons_zero, List.getElem?_cons_succ] at y0 y1; clear yb)
    | (go_at_call 6; refine hC.mono ?_; clear hC y0 y1; rintro e v10 ⟨rfl, hb⟩; have HQ10 : Hid (Try.G4 W.heap.size W v10 ⟨W.heap.size, ma, bA, s1.length, cA, aA, r1⟩ ⟨ma, mb, bC, s3.length, cC, aC, r3⟩ ⟨mb, mc, bH, s1.length, cH, aH, r1⟩ ⟨mc, md, bN, s2.length, cN, aN, r2⟩ PRA RC PRH RN true true true) := HQ9.out.below hb; clear hb HQ9; have hC := Try.still_any (cap := cN) (show Try.Gc v10 mc md bN RN s2.length r2 aN from HQ10.out.n.gc) SN.out HQ10.out.sz.2.2.2.1 ((K2.out.below HQ10.out.bel).st); have yb := ((K2.out.below HQ10.out.bel).bx); have y0 := cell_of_row _ _ 0 _ _ _ yb; have y1 := cell_of_row _ _ 1 _ _ _ yb; simp only [List.getElem?_toArray, List.getElem?_cons_zero, List.getElem?_cons_succ] at y0 y1; clear yb)
    | (go_at_call 6; refine hC.mono ?_; clear hC y0 y1; rintro e v11 ⟨rfl, hb⟩; have HQ11 : Hid (Try.G4 W.heap.size W v11 ⟨W.heap.size, ma, bA, s1.length, cA, aA, r1⟩ ⟨ma, mb, bC, s3.length, cC, aC, r3⟩ ⟨mb, mc, bH, s1.length, cH, aH, r1⟩ ⟨mc, md, bN, s2.length, cN, aN, r2⟩ PRA RC PRH RN true true true) := HQ10.out.below hb; clear hb HQ10; have hC := Try.Gd.owned 77 77 (by decide) HQ11.out.n HQ11.out.sz.2.2.2.1)
    | (go_at_call 7; refine hC.mono ?_; clear hC; rintro e v12 ⟨⟨rv12, rfl⟩, PRN, hG, hP, hw⟩; have HQ12 : Hid (Try.G4 W.heap.size W v12 ⟨W.heap.size, ma, bA, s1.length, cA, aA, r1⟩ ⟨ma, mb, bC, s3.length, cC, aC, r3⟩ ⟨mb, mc, bH, s1.length, cH, aH, r1⟩ ⟨mc, md, bN, s2.length, cN, aN, r2⟩ PRA RC PRH PRN true true true) := HQ11.out.turnN hw hG; have PN : Hid (Paint PRN s2.length r2 77) := hP; clear hG hP hw HQ11; have hC := Try.Gd.owned 67 67 (by decide) HQ12.out.c HQ12.out.sz.2.1)
    | (go_at_call 7; refine hC.mono ?_; clear hC; rintro e v13 ⟨⟨rv13, rfl⟩, PRC, hG, hP, hw⟩; have HQ13 : Hid (Try.G4 W.heap.size W v13 ⟨W.heap.size, ma, bA, s1.length, cA, aA, r1⟩ ⟨ma, mb, bC, s3.length, cC, aC, r3⟩ ⟨mb, mc, bH, s1.length, cH, aH, r1⟩ ⟨mc, md, bN, s2.length, cN, aN, r2⟩ PRA PRC PRH PRN true true true) := HQ12.out.turnC hw hG; have PC : Hid (Paint PRC s3.length r3 67) := hP; clear hG hP hw HQ12)
    | fail)
  clear SA SC SH SN
  have hxy : Below v13.heap.size v13 ((v13.alloc (.cells #[.int .u8 120] 5 (1, 2))).alloc (.cells #[.slice (some ⟨v13.heap.size, 0, none⟩) 1 1] 22)) := ((Below.refl _ v13).alloc (Nat.le_refl _) _).alloc (by simp) _
  have HY : Hid (Try.G4 W.heap.size W ((v13.alloc (.cells #[.int .u8 120] 5 (1, 2))).alloc (.cells #[.slice (some ⟨v13.heap.size, 0, none⟩) 1 1] 22)) ⟨W.heap.size, ma, bA, s1.length, cA, aA, r1⟩ ⟨ma, mb, bC, s3.length, cC, aC, r3⟩ ⟨mb, mc, bH, s1.length, cH, aH, r1⟩ ⟨mc, md, bN, s2.length, cN, aN, r2⟩ PRA PRC PRH PRN true true true) := HQ13.out.below hxy
  have hzY : ((v13.alloc (.cells #[.int .u8 120] 5 (1, 2))).alloc (.cells #[.slice (some ⟨v13.heap.size, 0, none⟩) 1 1] 22)).heap.size = v13.heap.size + 2 := by simp
  have hbY : ((v13.alloc (.cells #[.int .u8 120] 5 (1, 2))).alloc (.cells #[.slice (some ⟨v13.heap.size, 0, none⟩) 1 1] 22)).heap[v13.heap.size]? = some (.cells (Lib.byteCells [120]).toArray 5 (1, 2)) := (Below.heap_alloc (v13.alloc (.cells #[.int .u8 120] 5 (1, 2))) _ _ (by simp)).trans (heap_alloc_new v13 _)
  obtain ⟨gu1, cu1, u1, hap, hcl, hgl, hgd, hwo⟩ := Try.Gd.app HY.out.a HY.out.sz.1 (.slice (some ⟨v13.heap.size, 0, none⟩) 1 1) rfl (v13.heap.size + 1) (by have := heap_alloc_new (v13.alloc (.cells #[.int .u8 120] 5 (1, 2))) (.cells #[.slice (some ⟨v13.heap.size, 0, none⟩) 1 1] 22); simpa using this)
  have HR1 : Hid (Try.G4 W.heap.size W u1 ⟨W.heap.size, ma, bA, s1.length, cA, aA, r1⟩ ⟨ma, mb, bC, s3.length, cC, aC, r3⟩ ⟨mb, mc, bH, s1.length, cH, aH, r1⟩ ⟨mc, md, bN, s2.length, cN, aN, r2⟩ PRA PRC PRH PRN false true true) := HY.out.turnA hwo hgd
  have hsz := HQ13.out.sz
  have hle := HQ13.out.le
  have hor := HQ13.out.ord
  simp only at hsz hle hor hgl
  have hws := hwo.size
  have X1 : Hid (Dk.Xk u1 mb md gu1 r1.length v13.heap.size 120) := ⟨hcl, (hwo.block _ (by omega) fun e => by omega).trans hbY, hgl.2.1, by omega, by omega⟩
  clear hxy hzY hbY hcl hgl hgd hwo hsz hle hor hws HY HQ13
  go_upto_region 28 with (first
    | (at_builtin; refine Dk.wpList_app rfl _ _ 23 rfl rfl rfl hap ?_)
    | fail)
  clear hap
  generalize v13.heap.size = Bu1 at *
  have hxy : Below u1.heap.size u1 ((u1.alloc (.cells #[.int .u8 121] 5 (1, 2))).alloc (.cells #[.slice (some ⟨u1.heap.size, 0, none⟩) 1 1] 22)) := ((Below.refl _ u1).alloc (Nat.le_refl _) _).alloc (by simp) _
  have HY : Hid (Try.G4 W.heap.size W ((u1.alloc (.cells #[.int .u8 121] 5 (1, 2))).alloc (.cells #[.slice (some ⟨u1.heap.size, 0, none⟩) 1 1] 22)) ⟨W.heap.size, ma, bA, s1.length, cA, aA, r1⟩ ⟨ma, mb, bC, s3.length, cC, aC, r3⟩ ⟨mb, mc, bH, s1.length, cH, aH, r1⟩ ⟨mc, md, bN, s2.length, cN, aN, r2⟩ PRA PRC PRH PRN false true true) := HR1.out.below hxy
  have hzY : ((u1.alloc (.cells #[.int .u8 121] 5 (1, 2))).alloc (.cells #[.slice (some ⟨u1.heap.size, 0, none⟩) 1 1] 22)).heap.size = u1.heap.size + 2 := by simp
  have hbY : ((u1.alloc (.cells #[.int .u8 121] 5 (1, 2))).alloc (.cells #[.slice (some ⟨u1.heap.size, 0, none⟩) 1 1] 22)).heap[u1.heap.size]? = some (.cells (Lib.byteCells [121]).toArray 5 (1, 2)) := (Below.heap_alloc (u1.alloc (.cells #[.int .u8 121] 5 (1, 2))) _ _ (by simp)).trans (heap_alloc_new u1 _)
  obtain ⟨gu2, cu2, u2, hap, hcl, hgl, hgd, hwo⟩ := Try.Gd.app HY.out.h HY.out.sz.2.2.1 (.slice (some ⟨u1.heap.size, 0, none⟩) 1 1) rfl (u1.heap.size + 1) (by have := heap_alloc_new (u1.alloc (.cells #[.int .u8 121] 5 (1, 2))) (.cells #[.slice (some ⟨u1.heap.size, 0, none⟩) 1 1] 22); simpa using this)
  have HR2 : Hid (Try.G4 W.heap.size W u2 ⟨W.heap.size, ma, bA, s1.length, cA, aA, r1⟩ ⟨ma, mb, bC, s3.length, cC, aC, r3⟩ ⟨mb, mc, bH, s1.length, cH, aH, r1⟩ ⟨mc, md, bN, s2.length, cN, aN, r2⟩ PRA PRC PRH PRN false false true) := HY.out.turnH hwo hgd
  have hsz := HR1.out.sz
  have hle := HR1.out.le
  have hor := HR1.out.ord
  simp only at hsz hle hor hgl
  have hws := hwo.size
  have X2 : Hid (Dk.Xk u2 mc md gu2 r1.length u1.heap.size 121) := ⟨hcl, (hwo.block _ (by omega) fun e => by omega).trans hbY, hgl.2.1, by omega, by omega⟩
  have X1' : Hid (Dk.Xk u2 mc md gu1 r1.length Bu1 120) := Dk.Xk.keep (X1.out.keep (lo' := mb) (hi' := md) (own := fun _ => False) ⟨hxy.os, hxy.tape, hxy.output, hxy.size, fun k hk _ => hxy.block k hk⟩ (fun k e => absurd e id) ⟨Nat.le_refl _, Nat.le_refl _⟩) hwo (fun k e => by omega) ⟨by omega, Nat.le_refl _⟩
  clear X1
  have X1 := X1'
  clear X1'
  clear hxy hzY hbY hcl hgl hgd hwo hsz hle hor hws HY HR1
  go_upto_region 29 with (first
    | (at_builtin; refine Dk.wpList_app rfl _ _ 23 rfl rfl rfl hap ?_)
    | fail)
  clear hap
  generalize u1.heap.size = Bu2 at *
  have hxy : Below u2.heap.size u2 ((u2.alloc (.cells #[.int .u8 122] 5 (1, 2))).alloc (.cells #[.slice (some ⟨u2.heap.size, 0, none⟩) 1 1] 22)) := ((Below.refl _ u2).alloc (Nat.le_refl _) _).alloc (by simp) _
  have HY : Hid (Try.G4 W.heap.size W ((u2.alloc (.cells #[.int .u8 122] 5 (1, 2))).alloc (.cells #[.slice (some ⟨u2.heap.size, 0, none⟩) 1 1] 22)) ⟨W.heap.size, ma, bA, s1.length, cA, aA, r1⟩ ⟨ma, mb, bC, s3.length, cC, aC, r3⟩ ⟨mb, mc, bH, s1.length, cH, aH, r1⟩ ⟨mc, md, bN, s2.length, cN, aN, r2⟩ PRA PRC PRH PRN false false true) := HR2.out.below hxy
  have hzY : ((u2.alloc (.cells #[.int .u8 122] 5 (1, 2))).alloc (.cells #[.slice (some ⟨u2.heap.size, 0, none⟩) 1 1] 22)).heap.size = u2.heap.size + 2 := by simp
  have hbY : ((u2.alloc (.cells #[.int .u8 122] 5 (1, 2))).alloc (.cells #[.slice (some ⟨u2.heap.size, 0, none⟩) 1 1] 22)).heap[u2.heap.size]? = some (.cells (Lib.byteCells [122]).toArray 5 (1, 2)) := (Below.heap_alloc (u2.alloc (.cells #[.int .u8 122] 5 (1, 2))) _ _ (by simp)).trans (heap_alloc_new u2 _)
  obtain ⟨gu3, cu3, u3, hap, hcl, hgl, hgd, hwo⟩ := Try.Gd.app HY.out.n HY.out.sz.2.2.2.1 (.slice (some ⟨u2.heap.size, 0, none⟩) 1 1) rfl (u2.heap.size + 1) (by have := heap_alloc_new (u2.alloc (.cells #[.int .u8 122] 5 (1, 2))) (.cells #[.slice (some ⟨u2.heap.size, 0, none⟩) 1 1] 22); simpa using this)
  have HR3 : Hid (Try.G4 W.heap.size W u3 ⟨W.heap.size, ma, bA, s1.length, cA, aA, r1⟩ ⟨ma, mb, bC, s3.length, cC, aC, r3⟩ ⟨mb, mc, bH, s1.length, cH, aH, r1⟩ ⟨mc, md, bN, s2.length, cN, aN, r2⟩ PRA PRC PRH PRN false false false) := HY.out.turnN hwo hgd
  have hsz := HR2.out.sz
  have hle := HR2.out.le
  have hor := HR2.out.ord
  simp only at hsz hle hor hgl
  have hws := hwo.size
  have X3 : Hid (Dk.Xk u3 md md gu3 r2.length u2.heap.size 122) := ⟨hcl, (hwo.block _ (by omega) fun e => by omega).trans hbY, hgl.2.1, by omega, by omega⟩
  have X1' : Hid (Dk.Xk u3 md md gu1 r1.length Bu1 120) := Dk.Xk.keep (X1.out.keep (lo' := mc) (hi' := md) (own := fun _ => False) ⟨hxy.os, hxy.tape, hxy.output, hxy.size, fun k hk _ => hxy.block k hk⟩ (fun k e => absurd e id) ⟨Nat.le_refl _, Nat.le_refl _⟩) hwo (fun k e => by omega) ⟨by omega, Nat.le_refl _⟩
  clear X1
  have X1 := X1'
  clear X1'
  have X2' : Hid (Dk.Xk u3 md md gu2 r1.length Bu2 121) := Dk.Xk.keep (X2.out.keep (lo' := mc) (hi' := md) (own := fun _ => False) ⟨hxy.os, hxy.tape, hxy.output, hxy.size, fun k hk _ => hxy.block k hk⟩ (fun k e => absurd e id) ⟨Nat.le_refl _, Nat.le_refl _⟩) hwo (fun k e => by omega) ⟨by omega, Nat.le_refl _⟩
  clear X2
  have X2 := X2'
  clear X2'
  clear hxy hzY hbY hcl hgl hgd hwo hsz hle hor hws HY HR2
  go_upto_region 30 with (first
    | (at_builtin; refine Dk.wpList_app rfl _ _ 23 rfl rfl rfl hap ?_)
    | fail)
  clear hap
  generalize u2.heap.size = Bu3 at *
  have z1 := X1.out.cl
  have z2 := X2.out.cl
  have z3 := X3.out.cl
  have k1 := Try.Xk.conv X1.out
  have k2 := Try.Xk.conv X2.out
  have k3 := Try.Xk.conv X3.out
  clear X1 X2 X3
  go_upto_region 32 with fail
  clear z1 z2 z3 k1 k2 k3
  have hC := Try.reads_any (cap := cA) 65 65 (by decide) (show Try.Gc u3 W.heap.size ma bA PRA s1.length r1 aA from HR3.out.a.gc) PA.out HR3.out.sz.1 ((K1.out.below HR3.out.bel).st)
  have yb := ((K1.out.below HR3.out.bel).bx)
  have y0 := cell_of_row _ _ 0 _ _ _ yb
  have y1 := cell_of_row _ _ 1 _ _ _ yb
  simp only [List.getElem?_toArray, List.getElem?_cons_zero, List.getElem?_cons_succ] at y0 y1
  clear yb
  go_wp2_with (first
    | (go_at_call 8; refine hC.mono ?_; clear hC y0 y1; rintro e v14 ⟨rfl, hb⟩; have HQ14 : Hid (Try.G4 W.heap.size W v14 ⟨W.heap.size, ma, bA, s1.length, cA, aA, r1⟩ ⟨ma, mb, bC, s3.length, cC, aC, r3⟩ ⟨mb, mc, bH, s1.length, cH, aH, r1⟩ ⟨mc, md, bN, s2.length, cN, aN, r2⟩ PRA PRC PRH PRN false false false) := HR3.out.below hb; clear hb HR3; have hC := Try.reads_any (cap := cH) 72 72 (by decide) (show Try.Gc v14 mb mc bH PRH s1.length r1 aH from HQ14.out.h.gc) PH.out HQ14.out.sz.2.2.1 ((K1.out.below HQ14.out.bel).st); have yb := ((K1.out.below HQ14.out.bel).bx); have y0 := cell_of_row _ _ 0 _ _ _ yb; have y1 := cell_of_row _ _ 1 _ _ _ yb; simp only [List.getElem?_toArray, List.getElem?_cons_zero, List.getElem?_cons_succ] at y0 y1; clear yb)
    | (go_at_call 8; refine hC.mono ?_; clear hC y0 y1; rintro e v15 ⟨rfl, hb⟩; have HQ15 : Hid (Try.G4 W.heap.size W v15 ⟨W.heap.size, ma, bA, s1.length, cA, aA, r1⟩ ⟨ma, mb, bC, s3.length, cC, aC, r3⟩ ⟨mb, mc, bH, s1.length, cH, aH, r1⟩ ⟨mc, md, bN, s2.length, cN, aN, r2⟩ PRA PRC PRH PRN false false false) := HQ14.out.below hb; clear hb HQ14; have hC := Try.reads_any (cap := cN) 77 77 (by decide) (show Try.Gc v15 mc md bN PRN s2.length r2 aN from HQ15.out.n.gc) PN.out HQ15.out.sz.2.2.2.1 ((K2.out.below HQ15.out.bel).st); have yb := ((K2.out.below HQ15.out.bel).bx); have y0 := cell_of_row _ _ 0 _ _ _ yb; have y1 := cell_of_row _ _ 1 _ _ _ yb; simp only [List.getElem?_toArray, List.getElem?_cons_zero, List.getElem?_cons_succ] at y0 y1; clear yb)
    | (go_at_call 8; refine hC.mono ?_; clear hC y0 y1; rintro e v16 ⟨rfl, hb⟩; have HQ16 : Hid (Try.G4 W.heap.size W v16 ⟨W.heap.size, ma, bA, s1.length, cA, aA, r1⟩ ⟨ma, mb, bC, s3.length, cC, aC, r3⟩ ⟨mb, mc, bH, s1.length, cH, aH, r1⟩ ⟨mc, md, bN, s2.length, cN, aN, r2⟩ PRA PRC PRH PRN false false false) := HQ15.out.below hb; clear hb HQ15; have hC := Try.reads_any (cap := cC) 67 67 (by decide) (show Try.Gc v16 ma mb bC PRC s3.length r3 aC from HQ16.out.c.gc) PC.out HQ16.out.sz.2.1 ((K3.out.below HQ16.out.bel).st); have yb := ((K3.out.below HQ16.out.bel).bx); have y0 := cell_of_row _ _ 0 _ _ _ yb; have y1 := cell_of_row _ _ 1 _ _ _ yb; simp only [List.getElem?_toArray, List.getElem?_cons_zero, List.getElem?_cons_succ] at y0 y1; clear yb)
    | (go_at_call 8; refine hC.mono ?_; clear hC y0 y1; rintro e v17 ⟨rfl, hb⟩; have HQ17 : Hid (Try.G4 W.heap.size W v17 ⟨W.heap.size, ma, bA, s1.length, cA, aA, r1⟩ ⟨ma, mb, bC, s3.length, cC, aC, r3⟩ ⟨mb, mc, bH, s1.length, cH, aH, r1⟩ ⟨mc, md, bN, s2.length, cN, aN, r2⟩ PRA PRC PRH PRN false false false) := HQ16.out.below hb; clear hb HQ16)
    | fail)
  go_ret
  exact ⟨by simp, HBW.out.trans (HQ17.out.bel.mono HBW.out.size)⟩
end Go.Proofs
