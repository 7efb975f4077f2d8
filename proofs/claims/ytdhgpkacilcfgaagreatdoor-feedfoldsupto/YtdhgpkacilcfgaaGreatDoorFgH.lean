/-
  FEED: Fold of what has changed.
-/
import Derived.Test.YtdhgpkacilcfgaaGreatDoorFgG
namespace Go.Fd
open Go.Sort
def cmpN (x : Cn) (y : ByteArray) : Int := cmpS x.room y
def foldP (la lc : List Cn) (lg : List ByteArray) : List Cn := mer cnC (wout cnC (woutT cmpN (sheet la) (sortT lg)) (sheet lc)) (sheet lc)
end Go.Fd
namespace Go.Proofs
open Go.RowKit Go.Wi Go.Fd Go.Sort Go.Maps
theorem Tryz.eByName : ∀ args w, (callFunc 31 args).run Tryz.prog w = .ok (.enter 31 args) w := enters_of Tryz.func31 (by kernel_rfl) rfl
set_option maxRecDepth 20000 in
set_option maxHeartbeats 1000000 in
theorem Tryz.fold_wide {w : World} {Va Vc Vg : Value} {la lc : List Cn} {lg : List ByteArray} (hA : Cs w Va la) (hA2 : ∀ k, Va.ownBlock = some k → k < w.heap.size) (hC : Cs w Vc lc) (hC2 : ∀ k, Vc.ownBlock = some k → k < w.heap.size)
    (hG : Ts w Vg lg) (hG2 : ∀ k, Vg.ownBlock = some k → k < w.heap.size) (ha : la.length ≤ 4398046511104) (hc : lc.length ≤ 4398046511104) (hac : (foldP la lc lg).length ≤ 4398046511104) (hg : lg.length ≤ 4398046511104) :
    Calls Tryz.prog 9 #[Va, Vc, Vg, .bool false] w fun e w' => ∃ V', e = .returned V' ∧ w'.ownsRow w.heap.size 39 3 V' (foldP la lc lg).length (cnCells (foldP la lc lg)) ∧ Below w.heap.size w w' := by
  have hs := Tryz.sheetOf_any hA hA2 ha
  obtain ⟨gd, gcap, rfl⟩ := hG.is
  have HC : Hid (Cs w Vc lc ∧ ∀ k, Vc.ownBlock = some k → k < w.heap.size) := ⟨hC, hC2⟩
  have HG : Hid (Ts w (.slice gd lg.length gcap) lg ∧ ∀ k, (Value.slice gd lg.length gcap).ownBlock = some k → k < w.heap.size) := ⟨hG, hG2⟩
  have HL : Hid ((la.length ≤ 4398046511104 ∧ lc.length ≤ 4398046511104) ∧ lg.length ≤ 4398046511104) := ⟨⟨ha, hc⟩, hg⟩
  have HF : Hid ((wout cnC (woutT cmpN (sheet la) (sortT lg)) (sheet lc)).length + (sheet lc).length ≤ 4398046511104) := by show _ ≤ _; rw [foldP, mer_len] at hac; exact hac
  clear hA hA2 hC hC2 hG hG2 hac hg ha hc
  go_enter Tryz.func9, Tryz.ntmps9
  go_upto_region 4 with (first
    | (go_at_call 20; refine hs.mono ?_; clear hs; rintro e w1 ⟨V1, rfl, hr1, hb1⟩; have hva := Tryz.values_any gd lg.length gcap w1)
    | (go_at_call 30; refine hva.mono ?_; clear hva; rintro e w2 ⟨rfl, hw2⟩
       have hb2 : Below w1.heap.size w1 w2 := by rw [hw2]; exact (Below.refl _ w1).alloc (Nat.le_refl _) _
       have hx2 : w2.heap[w1.heap.size]? = some (.cells #[.slice gd lg.length gcap] 27 (0, 0)) := by rw [hw2]; exact heap_alloc_new _ _
       have hb02 : Below w.heap.size w w2 := Fd.bel_on hb1 hb1.size hb2
       have hso := Tryz.sorted_any (cell_of_row _ _ 0 _ _ _ hx2) (block_lt hx2) (HG.out.1.below hb02 HG.out.2) (fun k e => Nat.lt_of_lt_of_le (HG.out.2 k e) hb02.size) HL.out.2
       clear hw2 hx2)
    | (go_at_call 29; refine hso.mono ?_; clear hso; rintro e w3 ⟨V3, rfl, hr3, hb3⟩
       have hr13 := Fd.row_past (Fd.row_past hr1 hb2 (Nat.le_refl _)) hb3 (Nat.le_refl _)
       have hb03 : Below w.heap.size w w3 := Fd.bel_on hb02 hb02.size hb3
       have hl3 : (sheet la).length ≤ 4398046511104 := Nat.le_trans (sheet_len la) (by have := HL.out; omega)
       have hwo := Tryz.withoutT_any 31 cmpN Tryz.eByName Tryz.byName_any (Cs.ofRow hr13) (fun k e => (hr13.lt k e).2) (Ts.ofRow (l := sortT lg) hr3) (fun k e => (hr3.lt k e).2) hl3 (by rw [sortT_len]; exact HL.out.2))
    | (go_at_call 28; refine hwo.mono ?_; clear hwo; rintro e w4 ⟨V4, rfl, hr4, hb4⟩)
    | fail)
  have hb04 : Below w.heap.size w w4 := Fd.bel_on hb03 hb03.size hb4
  have hs2 := Tryz.sheetOf_any (HC.out.1.below hb04 HC.out.2) (fun k e => Nat.lt_of_lt_of_le (HC.out.2 k e) hb04.size) (by have := HL.out; omega)
  have HR4 : Hid (w4.ownsRow w3.heap.size 39 3 V4 (woutT cmpN (sheet la) (sortT lg)).length (cnCells (woutT cmpN (sheet la) (sortT lg)))) := hr4
  have HB4 : Hid (Below w.heap.size w w4) := hb04
  have HLn : Hid ((woutT cmpN (sheet la) (sortT lg)).length ≤ 4398046511104) := Nat.le_trans (woutT_len cmpN (sheet la) (sortT lg)) hl3
  clear hr1 hb1 hb2 hb02 hr3 hb3 hr13 hb03 hl3 hr4 hb4 hb04
  go_wp2_with (first
    | (go_at_call 20; refine hs2.mono ?_; clear hs2; rintro e w5 ⟨V5, rfl, hr5, hb5⟩
       have hr45 := Fd.row_past HR4.out hb5 (Nat.le_refl _)
       have hme := Tryz.merge_wide 33 cnC Tryz.eByRoom Tryz.byRoom_any (Cs.ofRow hr45) (fun k e => (hr45.lt k e).2) (Cs.ofRow hr5) (fun k e => (hr5.lt k e).2) HLn.out HF.out
       have HB5 : Hid (Below w.heap.size w w5) := Fd.bel_on HB4.out HB4.out.size hb5
       clear hr45 hr5 hb5)
    | (go_at_call 32; refine hme.mono ?_; clear hme; rintro e w6 ⟨V6, rfl, hr6, hb6⟩)
    | fail)
  go_ret
  exact ⟨V6, rfl, Fd.row_mono hr6 HB5.out.size, Fd.bel_on HB5.out HB5.out.size hb6⟩
theorem Tryz.fold_part {w : World} {Va Vc Vg : Value} {la lc : List Cn} {lg : List ByteArray} (hA : Cs w Va la) (hA2 : ∀ k, Va.ownBlock = some k → k < w.heap.size) (hC : Cs w Vc lc) (hC2 : ∀ k, Vc.ownBlock = some k → k < w.heap.size)
    (hG : Ts w Vg lg) (hG2 : ∀ k, Vg.ownBlock = some k → k < w.heap.size) (hac : la.length + lc.length ≤ 4398046511104) (hg : lg.length ≤ 4398046511104) :
    Calls Tryz.prog 9 #[Va, Vc, Vg, .bool false] w fun e w' => ∃ V', e = .returned V' ∧ w'.ownsRow w.heap.size 39 3 V' (foldP la lc lg).length (cnCells (foldP la lc lg)) ∧ Below w.heap.size w w' :=
  Tryz.fold_wide hA hA2 hC hC2 hG hG2 (by omega) (by omega) (by
    have h1 := woutT_len cmpN (sheet la) (sortT lg)
    have h2 := sheet_len la
    have h3 := sheet_len lc
    have h4 := wout_len cnC (woutT cmpN (sheet la) (sortT lg)) (sheet lc)
    rw [foldP, mer_len]
    omega) hg
end Go.Proofs
