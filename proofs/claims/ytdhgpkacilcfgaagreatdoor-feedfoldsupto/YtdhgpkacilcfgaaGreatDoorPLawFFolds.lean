/-
  Laid together by packg.py of LawFFolds.
-/
import Derived.Test.YtdhgpkacilcfgaaGreatDoorPfI
import Derived.Deep.DeepCutAuto
import Derived.Deep.RegionHeld3
namespace Go.Fd
open Go.RowKit Go.Wi Go.Sort Go.Proofs
def foldB (b : Bool) (la lc : List Cn) (lg : List ByteArray) : List Cn := if b then sheet lc else foldP la lc lg
def beS : ByteArray := ⟨#[98, 101, 104, 105, 110, 100]⟩
def bs4 : List ByteArray := List.replicate 4 beS
end Go.Fd
namespace Go.Proofs
open Go.RowKit Go.Wi Go.Fd Go.Sort
theorem Fd.foldB_len (b : Bool) (la lc : List Cn) (lg : List ByteArray) : (foldB b la lc lg).length ≤ la.length + lc.length := by
  unfold foldB
  split
  · have := sheet_len lc; omega
  · have h1 := woutT_len cmpN (sheet la) (sortT lg)
    have h2 := sheet_len la
    have h3 := sheet_len lc
    have h4 := wout_len cnC (woutT cmpN (sheet la) (sortT lg)) (sheet lc)
    rw [foldP, mer_len]
    omega
theorem Fd.Ts.front {w : World} {B g n m cap : Nat} {T : TypeId} {L0 L1 : List ByteArray} (h : w.ownsRow B T 1 (.slice (some ⟨g, 0, none⟩) m cap) m ((L0 ++ L1).map Value.string)) (hn : n = L0.length) : Ts w (.slice (some ⟨g, 0, none⟩) n cap) L0 := by
  have hl := h.1
  rw [List.length_map, List.length_append] at hl
  obtain ⟨ad, cap', e, hc, hn', h1⟩ := (Ts.ofRow h).ex
  injection e with e1 e2 e3
  subst e3
  rw [List.length_append] at hc
  refine ⟨some ⟨g, 0, none⟩, cap, by rw [hn], by omega, (fun e => by cases e), ?_⟩
  rcases h1 with h1 | ⟨g', o, e1', hg, h1⟩
  · exact .inl (List.append_eq_nil_iff.1 h1).1
  · rw [← e1] at e1'
    injection e1' with e1'
    injection e1' with e4 e5
    subst e4 e5
    refine .inr ⟨g, 0, rfl, hg, fun j u hu => h1 j u ?_⟩
    rw [List.getElem?_append_left ?_]
    · exact hu
    · rcases Nat.lt_or_ge j L0.length with e | e
      · exact e
      · rw [List.getElem?_eq_none e] at hu; cases hu
theorem Fd.cs_three {w : World} {g : Nat} {x : Cn} {T : TypeId} (h : w.heap[g]? = some (.cells #[.string x.room, .int .i64 x.un, .int .i64 x.hi, .string x.room, .int .i64 x.un, .int .i64 x.hi, .string x.room, .int .i64 x.un, .int .i64 x.hi] T (0, 0))) : Cs w (.slice (some ⟨g, 0, none⟩) 3 3) [x, x, x] :=
  ⟨some ⟨g, 0, none⟩, 3, rfl, Nat.le_refl _, (fun e => by cases e), .inr ⟨g, 0, rfl, block_lt h, fun j u hu => by
    rw [cell_of_row _ _ _ _ _ _ h, Nat.zero_add]
    rw [← Array.getElem?_toList]
    exact hu⟩⟩
theorem Tryz.pFold_any (b : Bool) {w : World} {Va Vc Vg : Value} {la lc : List Cn} {lg : List ByteArray} (hA : Cs w Va la) (hA2 : ∀ k, Va.ownBlock = some k → k < w.heap.size) (hC : Cs w Vc lc) (hC2 : ∀ k, Vc.ownBlock = some k → k < w.heap.size)
    (hG : Ts w Vg lg) (hG2 : ∀ k, Vg.ownBlock = some k → k < w.heap.size) (h1 : la.length + lc.length ≤ 2147483648) (h2 : lg.length ≤ 2147483648) :
    Calls Tryz.prog 9 #[Va, Vc, Vg, .bool b] w fun e w' => ∃ V', e = .returned V' ∧ w'.ownsRow w.heap.size 39 3 V' (foldB b la lc lg).length (cnCells (foldB b la lc lg)) ∧ Below w.heap.size w w' := by
  cases b with
  | true => exact Tryz.fold_all hC hC2 (by omega)
  | false => exact Tryz.fold_part hA hA2 hC hC2 hG hG2 (by omega) (by omega)
/-- The program's Fold at three rows with room behind, wherever the region has come to. -/
theorem Tryz.pFold_rows (b : Bool) {wq : World} {gA gB gC : Nat} {la lc xa xc : List Cn} {lg xg : List ByteArray} {nA nC nG : Nat} (rA : wq.ownsRow 0 39 3 (.slice (some ⟨gA, 0, none⟩) nA nA) nA (cnCells (la ++ xa))) (rC : wq.ownsRow 0 39 3 (.slice (some ⟨gB, 0, none⟩) nC nC) nC (cnCells (lc ++ xc))) (rG : wq.ownsRow 0 9 1 (.slice (some ⟨gC, 0, none⟩) nG nG) nG ((lg ++ xg).map Value.string))
    (h1 : la.length + lc.length ≤ 2147483648) (h2 : lg.length ≤ 2147483648) (W : World) (hW : Below wq.heap.size wq W) :
    Calls Tryz.prog 9 #[.slice (some ⟨gA, 0, none⟩) la.length nA, .slice (some ⟨gB, 0, none⟩) lc.length nC, .slice (some ⟨gC, 0, none⟩) lg.length nG, .bool b] W fun e w' => ∃ V', e = .returned V' ∧ w'.ownsRow wq.heap.size 39 3 V' (foldB b la lc lg).length (cnCells (foldB b la lc lg)) ∧ Below W.heap.size W w' ∧ Below wq.heap.size wq w' := by
  have bA : gA < wq.heap.size := (rA.lt gA rfl).2
  have bB : gB < wq.heap.size := (rC.lt gB rfl).2
  have bC : gC < wq.heap.size := (rG.lt gC rfl).2
  have hz := hW.size
  refine (Tryz.pFold_any b ((Cs.front rA rfl).past hW) (fun k e => by cases e; exact Nat.lt_of_lt_of_le bA hz) ((Cs.front rC rfl).past hW) (fun k e => by cases e; exact Nat.lt_of_lt_of_le bB hz) ((Fd.Ts.front rG rfl).past hW) (fun k e => by cases e; exact Nat.lt_of_lt_of_le bC hz) h1 h2).mono ?_
  rintro e w' ⟨V', rfl, hr, hb⟩
  exact ⟨V', rfl, Fd.row_mono hr hz, hb, Fd.bel_on hW hz hb⟩
theorem Tryz.rFold_any (b : Bool) {w : World} {Va Vc Vg : Value} {la lc : List Cn} {lg : List ByteArray} (hA : Cs w Va la) (hA2 : ∀ k, Va.ownBlock = some k → k < w.heap.size) (hC : Cs w Vc lc) (hC2 : ∀ k, Vc.ownBlock = some k → k < w.heap.size)
    (hG : Ts w Vg lg) (hG2 : ∀ k, Vg.ownBlock = some k → k < w.heap.size) (h1 : la.length + lc.length ≤ 2147483648) (h2 : lg.length ≤ 2147483648) :
    Calls Tryz.prog 14 #[Va, Vc, Vg, .bool b] w fun e w' => ∃ V', e = .returned V' ∧ w'.ownsRow w.heap.size 39 3 V' (foldB b la lc lg).length (cnCells (foldB b la lc lg)) ∧ Below w.heap.size w w' := by
  cases b with
  | true => exact Tryz.rFold_whole hC hC2 (by omega)
  | false => exact Tryz.rFold_part hA hA2 hC hC2 hG hG2 h1 h2
theorem Tryz.sizeStr : (Tryz.prog.info? 9).map (·.size) = some 1 := by kernel_rfl
theorem Tryz.someStr : ((Tryz.prog.info? 9).map (·.size)).isSome = true := by kernel_rfl
set_option maxRecDepth 20000 in
/-- 'copy' of texts to the head of a longer row. -/
theorem Tryz.copyTs {W : World} {B g n : Nat} {V : Value} {L : List ByteArray} {xs : List Value} (hV : Ts W V L) (hr : W.ownsRow B 9 1 (.slice (some ⟨g, 0, none⟩) n n) n xs) (hn : L.length ≤ n) :
    ∃ W', (∀ ty, (Builtin.copy_ #[27, 27] ty #[.slice (some ⟨g, 0, none⟩) n n, V]).run Tryz.prog W = .ok (goInt L.length) W') ∧ W'.ownsRow B 9 1 (.slice (some ⟨g, 0, none⟩) n n) n (L.map Value.string ++ xs.drop L.length) ∧ Wo (fun k => k = g) W W' := by
  have hxl : xs.length = n * 1 := hr.1
  rcases Fd.Ts.nz hV with rfl | ⟨ad, m, c, rfl⟩
  · obtain ⟨ad, cap, e, h1⟩ := hV.ex
    injection e with e1 e2 e3
    have hL : L = [] := List.eq_nil_of_length_eq_zero e2.symm
    subst hL
    exact ⟨W, fun ty => run_copy_nil Tryz.prog W 27 27 ty 9 _ _ _ Tryz.underlying27 Tryz.someStr, by simpa using hr, Wo.refl _ _⟩
  · have hcs := Fd.ts_cells hV ad rfl
    obtain ⟨ad', cap, e, h1⟩ := hV.ex
    injection e with e1 e2 e3
    subst e1 e2 e3
    obtain ⟨f1, f2⟩ := Fd.row_fill (L.map Value.string) 0 W xs hr (by rw [List.length_map]; omega)
    have := fun ty => Fd.run_copy (P := Tryz.prog) W 27 27 ty 9 1 g 0 n n ad L.length c (L.map Value.string) Tryz.underlying27 Tryz.sizeStr (by rw [List.length_map]; show _ = min _ _ * 1; rw [Nat.min_eq_left hn]; omega) hcs (fun j hj => by rw [List.length_map] at hj; rw [Nat.zero_add, hr.cellAt j (by omega), List.getElem?_eq_getElem (by omega)]; rfl) (fun j _ => by rw [Nat.zero_add]; exact hr.frozenAt j) (fun u hu => by obtain ⟨x, _, rfl⟩ := List.mem_map.1 hu; rfl)
    rw [show Nat.min L.length n = L.length from Nat.min_eq_left hn] at this
    refine ⟨_, this, ?_, f2⟩
    rw [List.length_map] at f1
    simpa using f1
/-- The three rows that were lent, in blocks of their own. -/
structure Tryz.F3 (w : World) (gA gB gC : Nat) (A B : List Cn) (C : List ByteArray) (nA nB nC : Nat) (W : World) : Prop where
  ra : W.ownsRow 0 39 3 (.slice (some ⟨gA, 0, none⟩) nA nA) nA (cnCells A)
  rb : W.ownsRow 0 39 3 (.slice (some ⟨gB, 0, none⟩) nB nB) nB (cnCells B)
  rc : W.ownsRow 0 9 1 (.slice (some ⟨gC, 0, none⟩) nC nC) nC (C.map Value.string)
  be : Below w.heap.size w W
theorem Tryz.F3.drewN {w W : World} {gA gB gC nA nB nC : Nat} {A B : List Cn} {C : List ByteArray} (h : Tryz.F3 w gA gB gC A B C nA nB nC W) (q : Nat) : Tryz.F3 w gA gB gC A B C nA nB nC (W.drewN q) :=
  ⟨Fd.row_keep h.ra fun _ _ => rfl, Fd.row_keep h.rb fun _ _ => rfl, Fd.row_keep h.rc fun _ _ => rfl, belowN h.be q⟩
theorem Tryz.F3.past {w W W' : World} {gA gB gC nA nB nC : Nat} {A B : List Cn} {C : List ByteArray} (h : Tryz.F3 w gA gB gC A B C nA nB nC W) (g : Below W.heap.size W W') : Tryz.F3 w gA gB gC A B C nA nB nC W' :=
  ⟨Fd.row_past h.ra g (Nat.le_refl _), Fd.row_past h.rb g (Nat.le_refl _), Fd.row_past h.rc g (Nat.le_refl _), Fd.bel_on h.be h.be.size g⟩
theorem Fd.cnCells_un : ∀ (l : List Cn) (i : Nat) (v : Int), i < l.length → (cnCells l).set (i * 3 + 1) (.int .i64 v) = cnCells (l.set i { l[i]! with un := v })
  | c :: l, 0, v, _ => by simp [cnCells, cnE]
  | c :: l, i + 1, v, h => by
    have ih := Fd.cnCells_un l i v (by simpa using h)
    simp only [cnCells, List.flatMap_cons, List.set_cons_succ, List.getElem!_cons_succ] at ih ⊢
    rw [show (i + 1) * 3 + 1 = i * 3 + 1 + 1 + 1 + 1 by omega]
    simp only [cnE, List.cons_append, List.nil_append, List.set_cons_succ]
    rw [← ih]
theorem Fd.cnCells_hi : ∀ (l : List Cn) (i : Nat) (v : Int), i < l.length → (cnCells l).set (i * 3 + 2) (.int .i64 v) = cnCells (l.set i { l[i]! with hi := v })
  | c :: l, 0, v, _ => by simp [cnCells, cnE]
  | c :: l, i + 1, v, h => by
    have ih := Fd.cnCells_hi l i v (by simpa using h)
    simp only [cnCells, List.flatMap_cons, List.set_cons_succ, List.getElem!_cons_succ] at ih ⊢
    rw [show (i + 1) * 3 + 2 = i * 3 + 2 + 1 + 1 + 1 by omega]
    simp only [cnE, List.cons_append, List.nil_append, List.set_cons_succ]
    rw [← ih]
/-- A count of the first row, or of the second one, is written. -/
theorem Tryz.F3.setA {w W : World} {gA gB gC nA nB nC : Nat} {A B : List Cn} {C : List ByteArray} (h : Tryz.F3 w gA gB gC A B C nA nB nC W) (hne : gA ≠ gB) (hne2 : gA ≠ gC) (hw : w.heap.size ≤ gA) {i : Nat} (hi : i < A.length) (v : Int) : Tryz.F3 w gA gB gC (A.set i { A[i]! with un := v }) B C nA nB nC (W.setCell ⟨gA, i * 3 + 1, none⟩ (.int .i64 v)) := by
  have h1 := (h.ra.stored (i * 3 + 1) (.int .i64 v)).1
  rw [Fd.cnCells_un A i v hi] at h1
  exact ⟨h1, Fd.row_keep h.rb fun k e => by cases e; exact Below.heap_setCell W ⟨gA, i * 3 + 1, none⟩ _ gB (fun e => hne (by simpa using e.symm)), Fd.row_keep h.rc fun k e => by cases e; exact Below.heap_setCell W ⟨gA, i * 3 + 1, none⟩ _ gC (fun e => hne2 (by simpa using e.symm)), h.be.setCell (p := ⟨gA, i * 3 + 1, none⟩) hw _⟩
theorem Tryz.F3.setB {w W : World} {gA gB gC nA nB nC : Nat} {A B : List Cn} {C : List ByteArray} (h : Tryz.F3 w gA gB gC A B C nA nB nC W) (hne : gA ≠ gB) (hne2 : gB ≠ gC) (hw : w.heap.size ≤ gB) {i : Nat} (hi : i < B.length) (v : Int) : Tryz.F3 w gA gB gC A (B.set i { B[i]! with hi := v }) C nA nB nC (W.setCell ⟨gB, i * 3 + 2, none⟩ (.int .i64 v)) := by
  have h1 := (h.rb.stored (i * 3 + 2) (.int .i64 v)).1
  rw [Fd.cnCells_hi B i v hi] at h1
  exact ⟨Fd.row_keep h.ra fun k e => by cases e; exact Below.heap_setCell W ⟨gB, i * 3 + 2, none⟩ _ gA (fun e => hne (by simpa using e)), h1, Fd.row_keep h.rc fun k e => by cases e; exact Below.heap_setCell W ⟨gB, i * 3 + 2, none⟩ _ gC (fun e => hne2 (by simpa using e.symm)), h.be.setCell (p := ⟨gB, i * 3 + 2, none⟩) hw _⟩
set_option maxRecDepth 20000 in
set_option maxHeartbeats 4000000 in
theorem Tryz.feedFoldsWalk {w : World} {Va Vc Vg : Value} {la lc : List Cn} {lg : List ByteArray} {b : Bool} (hA : Cs w Va la) (hA2 : ∀ k, Va.ownBlock = some k → k < w.heap.size) (hC : Cs w Vc lc) (hC2 : ∀ k, Vc.ownBlock = some k → k < w.heap.size) (hG : Ts w Vg lg) (hG2 : ∀ k, Vg.ownBlock = some k → k < w.heap.size)
    (h1 : la.length ≤ 1048576) (h2 : lc.length ≤ 1048576) (h3 : lg.length ≤ 1048576) (hT : Tryz.Tb w) :
    Calls Tryz.prog 4 #[Va, Vc, Vg, .bool b] w fun e w' => e = .returned (.bool true) ∧ Below w.heap.size w w' := by
  have haw := Tryz.awake_any w hT
  obtain ⟨aa, ca, rfl⟩ := hA.is
  obtain ⟨ac, cc, rfl⟩ := hC.is
  obtain ⟨ag, cg, rfl⟩ := hG.is
  have HA : Hid (Cs w (.slice aa la.length ca) la ∧ ∀ k, (Value.slice aa la.length ca).ownBlock = some k → k < w.heap.size) := ⟨hA, hA2⟩
  have HC : Hid (Cs w (.slice ac lc.length cc) lc ∧ ∀ k, (Value.slice ac lc.length cc).ownBlock = some k → k < w.heap.size) := ⟨hC, hC2⟩
  have HG : Hid (Ts w (.slice ag lg.length cg) lg ∧ ∀ k, (Value.slice ag lg.length cg).ownBlock = some k → k < w.heap.size) := ⟨hG, hG2⟩
  have hmx : Tryz.prog.follows .mixedOrders = true := by kernel_rfl
  clear hA hA2 hC hC2 hG hG2 hT
  obtain ⟨i0, hi0, hz0, hz1, hz2⟩ := info_parts Tryz.infoStr
  go_enter Tryz.func4, Tryz.ntmps4
  go_upto_region 2 with (first
    | (go_at_call 5; refine haw.mono ?_; clear haw; rintro e w1 ⟨rfl, hb1⟩)
    | fail)
  have hro1 := Tryz.roomy_any (HA.out.1.below hb1 HA.out.2) (fun k e => Nat.lt_of_lt_of_le (HA.out.2 k e) hb1.size) (by omega)
  go_upto_region 3 with (first
    | (go_at_call 13; refine hro1.mono ?_; clear hro1; rintro e w2 ⟨rfl, ra, hb2⟩)
    | fail)
  have hb02 : Below w.heap.size w w2 := Fd.bel_on hb1 hb1.size hb2
  have hro2 := Tryz.roomy_any (HC.out.1.below hb02 HC.out.2) (fun k e => Nat.lt_of_lt_of_le (HC.out.2 k e) hb02.size) (by omega)
  go_upto_region 4 with (first
    | (go_at_call 13; refine hro2.mono ?_; clear hro2; rintro e w3 ⟨rfl, rb, hb3⟩)
    | fail)
  have hb03 : Below w.heap.size w w3 := Fd.bel_on hb02 hb02.size hb3
  have hz12 : w1.heap.size < w2.heap.size := (ra.lt _ rfl).2
  have hz23 : w2.heap.size < w3.heap.size := (rb.lt _ rfl).2
  have RA : Hid (w3.ownsRow 0 39 3 (.slice (some ⟨w1.heap.size, 0, none⟩) (la.length + 4 : Nat) (la.length + 4)) (la.length + 4) (cnCells (la ++ bh4))) := Fd.row_mono (Fd.row_past ra hb3 (Nat.le_refl _)) (Nat.zero_le _)
  have RB : Hid (w3.ownsRow 0 39 3 (.slice (some ⟨w2.heap.size, 0, none⟩) (lc.length + 4 : Nat) (lc.length + 4)) (lc.length + 4) (cnCells (lc ++ bh4))) := Fd.row_mono rb (Nat.zero_le _)
  have HZ : Hid (w.heap.size ≤ w1.heap.size ∧ w1.heap.size < w2.heap.size ∧ w2.heap.size < w3.heap.size) := ⟨hb1.size, hz12, hz23⟩
  have HB3 : Hid (Below w.heap.size w w3) := hb03
  clear ra rb hb1 hb2 hb3 hb02 hb03 hz12 hz23
  go_upto_region 5 with (first
    | (at_make; refine wpList_make_full _ rfl _ _ _ rfl w3.heap.size 9 i0 _ 1 Tryz.underlying27 hi0 hz0 hz1 _ _ _ _ (lg.length + 4) rfl rfl (by omega) (by omega) (by rw [hz2]; omega) (by unfold maxLen; omega) (Nat.le_refl _) ?_; intro w4 hr4 hg4)
    | fail)
  have hb4 : Below w3.heap.size w3 w4 := (Below.refl _ w3).grown hg4 (Nat.le_refl _) (fun k e => by cases e)
  obtain ⟨w5, hrun, hr5, hwo⟩ := Tryz.copyTs ((HG.out.1.below HB3.out HG.out.2).past hb4) hr4 (by omega)
  have hb5 : Below w3.heap.size w3 w5 := hwo.toBelow hb4 (fun k e => by rw [e]; exact Nat.le_refl _) hb4.size
  have HR5 : Hid (∃ rest : List Value, rest.length = 4 ∧ w5.ownsRow 0 9 1 (.slice (some ⟨w3.heap.size, 0, none⟩) (lg.length + 4 : Nat) (lg.length + 4)) (lg.length + 4) (lg.map Value.string ++ rest)) := ⟨_, by have := hr4.1; rw [List.length_drop]; omega, Fd.row_mono hr5 (Nat.zero_le _)⟩
  have HB5 : Hid (Below w3.heap.size w3 w5) := hb5
  clear hr4 hg4 hb4 hr5 hwo hb5 hi0 hz0 hz1 hz2
  obtain ⟨gA, hgA⟩ : ∃ g, g = w1.heap.size := ⟨_, rfl⟩
  obtain ⟨gB, hgB⟩ : ∃ g, g = w2.heap.size := ⟨_, rfl⟩
  obtain ⟨gC, hgC⟩ : ∃ g, g = w3.heap.size := ⟨_, rfl⟩
  have HZ2 : Hid (w.heap.size ≤ gA ∧ gA < gB ∧ gB < gC ∧ gC = w3.heap.size) := ⟨by rw [hgA]; exact HZ.out.1, by rw [hgA, hgB]; exact HZ.out.2.1, by rw [hgB, hgC]; exact HZ.out.2.2, hgC⟩
  rw [← hgA] at RA ⊢
  rw [← hgB] at RB ⊢
  rw [← hgC] at hrun HR5 ⊢
  clear HZ hgA hgB hgC
  go_upto_region 7 with (fail)
  clear hrun
  go_loopw [13] (fun iv wr => ∃ (t : Nat) (rest : List Value), iv = .int .i64 ((lg.length : Int) + t) ∧ t ≤ 4 ∧ rest.length = 4 - t ∧ wr.ownsRow 0 9 1 (.slice (some ⟨gC, 0, none⟩) (lg.length + 4 : Nat) (lg.length + 4)) (lg.length + 4) ((lg ++ List.replicate t beS).map Value.string ++ rest) ∧ Below w3.heap.size w3 wr) (fun iv _ => lg.length + 4 - (intOf iv).toNat)
  case atStart =>
    obtain ⟨rest, h1, h2⟩ := HR5.out
    exact ⟨0, rest, by simp, by omega, h1, by simpa using h2, HB5.out⟩
  case round =>
    obtain ⟨t, rest, rfl, ht, hrl, hrow, hbel⟩ := hrel
    have HR : Hid (wr.ownsRow 0 9 1 (.slice (some ⟨gC, 0, none⟩) (lg.length + 4 : Nat) (lg.length + 4)) (lg.length + 4) ((lg ++ List.replicate t beS).map Value.string ++ rest)) := hrow
    have HB : Hid (Below w3.heap.size w3 wr) := hbel
    clear hrow hbel HR5 HB5
    by_cases hlt : t < 4
    · have q1 : (lg.length : Int) + (t : Int) < (lg.length : Int) + 4 := by omega
      match rest, hrl with
      | [], h => simp at h; omega
      | a :: rest, h =>
        obtain ⟨m, hm⟩ : ∃ m, m = lg.length + t := ⟨_, rfl⟩
        have hml : ((lg ++ List.replicate t beS).map Value.string).length = m := by simp [hm]
        have hmi : (lg.length : Int) + (t : Int) = (m : Int) := by omega
        have hm4 : m < lg.length + 4 := by omega
        have x0 := HR.out.cellAt m (by omega)
        rw [List.getElem?_append_right (by omega), hml, show m - m = 0 by omega] at x0
        simp only [List.getElem?_cons_zero] at x0
        have f0 := HR.out.frozenAt m
        have HR6 : Hid ((wr.setCell ⟨gC, m, none⟩ (.string beS)).ownsRow 0 9 1 (.slice (some ⟨gC, 0, none⟩) (lg.length + 4 : Nat) (lg.length + 4)) (lg.length + 4) ((lg ++ List.replicate (t + 1) beS).map Value.string ++ rest)) := by
          have h1 := (HR.out.stored m (.string beS)).1
          rw [List.set_append_right _ _ (by omega), hml, show m - m = 0 by omega, List.set_cons_zero] at h1
          rw [List.replicate_succ', ← List.append_assoc, List.map_append, List.append_assoc]
          exact h1
        have HB6 : Hid (Below w3.heap.size w3 (wr.setCell ⟨gC, m, none⟩ (.string beS))) := HB.out.setCell (p := ⟨gC, m, none⟩) (by show _ ≤ gC; rw [HZ2.out.2.2.2]; exact Nat.le_refl _) _
        have HMI : Hid (m = lg.length + t) := hm
        simp only [beS] at HR6 HB6
        rw [hmi] at q1 ⊢
        clear hm hml HR HB hmi
        go_wp2
        go_roundw
        case rel => exact ⟨t + 1, rest, by have := HMI.out; simp; omega, by omega, by simp at h; omega, HR6.out, HB6.out⟩
        case measure => have := HMI.out; simp [intOf]; omega
    · have q1 : ¬ (lg.length : Int) + (t : Int) < (lg.length : Int) + 4 := by omega
      obtain rfl : t = 4 := by omega
      obtain rfl : rest = [] := List.eq_nil_of_length_eq_zero (by omega)
      have RC : Hid (wr.ownsRow 0 9 1 (.slice (some ⟨gC, 0, none⟩) (lg.length + 4 : Nat) (lg.length + 4)) (lg.length + 4) ((lg ++ bs4).map Value.string)) := by have := HR.out; rw [List.append_nil] at this; exact this
      have RA2 : Hid (wr.ownsRow 0 39 3 (.slice (some ⟨gA, 0, none⟩) (la.length + 4 : Nat) (la.length + 4)) (la.length + 4) (cnCells (la ++ bh4))) := Fd.row_past RA.out HB.out (Nat.le_refl _)
      have RB2 : Hid (wr.ownsRow 0 39 3 (.slice (some ⟨gB, 0, none⟩) (lc.length + 4 : Nat) (lc.length + 4)) (lc.length + 4) (cnCells (lc ++ bh4))) := Fd.row_past RB.out HB.out (Nat.le_refl _)
      have HBq : Hid (Below w.heap.size w wr) := Fd.bel_on HB3.out HB3.out.size HB.out
      clear HR HB RA RB HB3
      go_upto_region 10 with (fail)
      generalize wr = wq at *
      have hfo := Tryz.pFold_rows b RA2.out RB2.out RC.out (by omega) (by omega)
      have hdr : Below wq.heap.size wq wq.drew := (Below.refl _ wq).drew
      have s1 : (la.length : Int) ≤ (la.length : Int) + 4 := by omega
      have s2 : (lc.length : Int) ≤ (lc.length : Int) + 4 := by omega
      have s3 : (lg.length : Int) ≤ (lg.length : Int) + 4 := by omega
      go_region_held3 (fun W => Below wq.heap.size wq W) (first | assumption | exact hdr)
        (first
          | (go_at_call 9; refine (hfo _ (by assumption)).mono ?_; rintro e w6 ⟨V6, rfl, r6, b66, b6⟩)
          | fail)
      clear hfo hdr s1 s2 s3 b66
      have HB6 : Hid (Below wq.heap.size wq w6) := b6
      have hbw6 : Below w.heap.size w w6 := Fd.bel_on HBq.out HBq.out.size b6
      have hrf := Tryz.rFold_any b (HA.out.1.below hbw6 HA.out.2) (fun k e => Nat.lt_of_lt_of_le (HA.out.2 k e) hbw6.size) (HC.out.1.below hbw6 HC.out.2) (fun k e => Nat.lt_of_lt_of_le (HC.out.2 k e) hbw6.size) (HG.out.1.below hbw6 HG.out.2) (fun k e => Nat.lt_of_lt_of_le (HG.out.2 k e) hbw6.size) (by omega) (by omega)
      have hFl : (foldB b la lc lg).length ≤ 2097152 := Nat.le_trans (Fd.foldB_len b la lc lg) (by omega)
      clear b6 hbw6
      generalize foldB b la lc lg = F at *
      go_upto_region 12 with (first
        | (go_at_call 14; refine hrf.mono ?_; clear hrf; rintro e w7 ⟨V7, rfl, r7, b7⟩)
        | fail)
      have hsm := Tryz.rSame_any ((Cs.ofRow r6).past b7) (Cs.ofRow r7) (by omega)
      rw [decide_eq_true rfl] at hsm
      obtain ⟨a6, c6, rfl⟩ := Fd.row_is r6
      obtain ⟨a7, c7, rfl⟩ := Fd.row_is r7
      go_upto_region 14 with (first
        | (go_at_call 15; refine hsm.mono ?_; clear hsm; rintro e w8 ⟨rfl, q8, rfl⟩)
        | fail)
      have HR8 : Hid ((w7.drewN q8).ownsRow wq.heap.size 39 3 (.slice a6 F.length c6) F.length (cnCells F)) := Fd.row_keep (Fd.row_past r6 b7 (Nat.le_refl _)) fun _ _ => rfl
      have HB8 : Hid (Below wq.heap.size wq (w7.drewN q8)) := belowN (Fd.bel_on HB6.out HB6.out.size b7) q8
      clear r6 r7 b7 HB6
      generalize w7.drewN q8 = w8 at *
      go_loopw [17] (fun iv wr => ∃ (i : Nat) (li : List Cn), iv = .int .i64 i ∧ i ≤ F.length ∧ li.length = F.length ∧ wr.ownsRow wq.heap.size 39 3 (.slice a6 F.length c6) F.length (cnCells li) ∧ Below wq.heap.size wq wr) (fun iv _ => F.length - (intOf iv).toNat)
      case atStart => exact ⟨0, F, rfl, Nat.zero_le _, rfl, HR8.out, HB8.out⟩
      case round =>
        obtain ⟨i, li, rfl, hi, hli, hrow, hbel⟩ := hrel
        have HR : Hid (wr.ownsRow wq.heap.size 39 3 (.slice a6 F.length c6) F.length (cnCells li)) := hrow
        have HB : Hid (Below wq.heap.size wq wr) := hbel
        have HLi : Hid (li.length = F.length) := hli
        clear hrow hbel hli
        by_cases hlt : i < F.length
        · have q1 : (i : Int) < (F.length : Int) := by omega
          obtain ⟨g, rfl⟩ : ∃ g, a6 = some ⟨g, 0, none⟩ := by
            rcases HR.out.2 with ⟨e, e0⟩ | ⟨g, cap', cur, e, _⟩
            · omega
            · injection e with e1; exact ⟨g, e1⟩
          have hil : i < li.length := by rw [HLi.out]; exact hlt
          obtain ⟨g', o', e', c0, c1, c2⟩ := (Cs.ofRow HR.out).at hil
          injection e' with e'
          injection e' with e1 e2
          subst e1 e2
          simp only [Nat.zero_add] at c0 c1 c2
          have f0 := HR.out.frozenAt (i * 3)
          have f1 := HR.out.frozenAt (i * 3 + 1)
          have f2 := HR.out.frozenAt (i * 3 + 2)
          have hgw : wq.heap.size ≤ g := (HR.out.lt g rfl).1
          have HR2 : Hid _ := Fd.row_set HR.out hil (mkc 0)
          have HB2 : Hid (Below wq.heap.size wq (((wr.setCell ⟨g, i * 3, none⟩ (.string (mkc 0).room)).setCell ⟨g, i * 3 + 1, none⟩ (.int .i64 (mkc 0).un)).setCell ⟨g, i * 3 + 2, none⟩ (.int .i64 (mkc 0).hi))) := ((HB.out.setCell (p := ⟨g, i * 3, none⟩) hgw _).setCell (p := ⟨g, i * 3 + 1, none⟩) hgw _).setCell (p := ⟨g, i * 3 + 2, none⟩) hgw _
          clear HR HB hgw
          go_wp2
          go_roundw
          case rel => exact ⟨i + 1, li.set i (mkc 0), by simp, by omega, by rw [List.length_set]; exact HLi.out, HR2.out, HB2.out⟩
          case measure => simp [intOf]; omega
        · have q1 : ¬ (i : Int) < (F.length : Int) := by omega
          have HLn : Hid (F.length + 3 ≤ 4398046511104) := by show _ ≤ _; omega
          go_upto_region 18 with (first
            | (at_builtin; refine Tryz.appCn Tryz.underlying22 rfl _ _ rfl (Fd.row_past HR.out ((Below.refl _ _).alloc (Nat.le_refl _) _) (Nat.le_refl _)) (by rw [World.size_alloc]; exact Nat.le_succ_of_le HB.out.size) rfl (Fd.cs_three (x := mkc 0) (heap_alloc_new _ _)) rfl HLn.out ?_; intro v9 w9 r9 b9)
            | fail)
          have bq9 : Below wq.heap.size wq w9 := (HB.out.alloc HB.out.size _).trans b9
          have h9 : Tryz.F3 w gA gB gC (la ++ bh4) (lc ++ bh4) (lg ++ bs4) (la.length + 4) (lc.length + 4) (lg.length + 4) w9 := (⟨RA2.out, RB2.out, RC.out, HBq.out⟩ : Tryz.F3 w gA gB gC (la ++ bh4) (lc ++ bh4) (lg ++ bs4) (la.length + 4) (lc.length + 4) (lg.length + 4) wq).past bq9
          obtain ⟨a9, c9, rfl⟩ := Fd.row_is r9
          have hst1 := Tryz.stays_any (Cs.ofRow h9.ra) (HA.out.1.below h9.be HA.out.2) (by omega)
          have H9 : Hid (Tryz.F3 w gA gB gC (la ++ bh4) (lc ++ bh4) (lg ++ bs4) (la.length + 4) (lc.length + 4) (lg.length + 4) w9) := h9
          clear h9 bq9 b9 r9 HR HB HR8 HB8 RA2 RB2 RC HBq
          rw [List.length_cons, List.length_cons, List.length_cons, List.length_nil]
          go_upto_region 19 with (first
            | (go_at_call 16; refine hst1.mono ?_; clear hst1; rintro e w10 ⟨rfl, q10, rfl⟩)
            | fail)
          have H10 : Hid (Tryz.F3 w gA gB gC (la ++ bh4) (lc ++ bh4) (lg ++ bs4) (la.length + 4) (lc.length + 4) (lg.length + 4) (w9.drewN q10)) := H9.out.drewN q10
          clear H9
          generalize w9.drewN q10 = w10 at *
          have hst2 := Tryz.stays_any (Cs.ofRow H10.out.rb) (HC.out.1.below H10.out.be HC.out.2) (by omega)
          go_upto_region 20 with (first
            | (go_at_call 16; refine hst2.mono ?_; clear hst2; rintro e w11 ⟨rfl, q11, rfl⟩)
            | fail)
          have H11 : Hid (Tryz.F3 w gA gB gC (la ++ bh4) (lc ++ bh4) (lg ++ bs4) (la.length + 4) (lc.length + 4) (lg.length + 4) (w10.drewN q11)) := H10.out.drewN q11
          clear H10
          generalize w10.drewN q11 = w11 at *
          have s3 : (lg.length : Int) ≤ (lg.length : Int) + 4 := by omega
          have hst3 := Tryz.sameTexts_any (Fd.Ts.front (L1 := bs4) H11.out.rc rfl) (HG.out.1.below H11.out.be HG.out.2) (by omega)
          go_upto_region 22 with (first
            | (go_at_call 17; refine hst3.mono ?_; clear hst3; rintro e w12 ⟨rfl, q12, rfl⟩)
            | fail)
          have H12 : Hid (Tryz.F3 w gA gB gC (la ++ bh4) (lc ++ bh4) (lg ++ bs4) (la.length + 4) (lc.length + 4) (lg.length + 4) (w11.drewN q12)) := H11.out.drewN q12
          clear H11
          generalize w11.drewN q12 = w12 at *
          go_loopw [20, 21] (fun bv iv wr => ∃ t : Nat, bv = .bool true ∧ iv = .int .i64 ((lg.length : Int) + t) ∧ t ≤ 4 ∧ w12 = wr) (fun _ iv _ => lg.length + 4 - (intOf iv).toNat)
          case atStart => exact ⟨0, rfl, by simp, by omega, rfl⟩
          case round =>
            obtain ⟨t, rfl, rfl, ht3, rfl⟩ := hrel
            by_cases hlt3 : t < 4
            · have q3 : (lg.length : Int) + (t : Int) < (lg.length : Int) + 4 := by omega
              obtain ⟨m, hm⟩ : ∃ m, m = lg.length + t := ⟨_, rfl⟩
              have hmi : (lg.length : Int) + (t : Int) = (m : Int) := by omega
              have hm4 : m < lg.length + 4 := by omega
              have x0 := H12.out.rc.cellAt m (by omega)
              rw [List.getElem?_map, List.getElem?_append_right (by omega), show (bs4[m - lg.length]?) = some beS from by unfold bs4; rw [List.getElem?_replicate, if_pos (by omega)]] at x0
              simp only [Option.map_some, beS] at x0
              have HMI : Hid (m = lg.length + t) := hm
              rw [hmi] at q3 ⊢
              clear hm hmi
              go_wp2
              go_roundw
              case rel => exact ⟨t + 1, rfl, by have := HMI.out; simp; omega, by omega, by first | trivial | rfl⟩
              case measure => have := HMI.out; simp [intOf]; omega
            · have q3 : ¬ (lg.length : Int) + (t : Int) < (lg.length : Int) + 4 := by omega
              go_upto_region 26 with (fail)
              go_loopw [22] (fun iv wr => ∃ (i : Nat) (li : List Cn), iv = .int .i64 i ∧ i ≤ la.length ∧ li.length = la.length ∧ Tryz.F3 w gA gB gC (li ++ bh4) (lc ++ bh4) (lg ++ bs4) (la.length + 4) (lc.length + 4) (lg.length + 4) wr) (fun iv _ => la.length - (intOf iv).toNat)
              case atStart => exact ⟨0, la, rfl, Nat.zero_le _, rfl, H12.out⟩
              case round =>
                obtain ⟨i, li, rfl, hi4, hli4, h4⟩ := hrel
                have H4 : Hid (Tryz.F3 w gA gB gC (li ++ bh4) (lc ++ bh4) (lg ++ bs4) (la.length + 4) (lc.length + 4) (lg.length + 4) wr) := h4
                have HL4 : Hid (li.length = la.length) := hli4
                clear h4 hli4
                by_cases hlt4 : i < la.length
                · have q4 : (i : Int) < (la.length : Int) := by omega
                  have q4b : (i : Int) < (la.length : Int) + 4 := by omega
                  have hiA : i < (li ++ bh4).length := by rw [List.length_append, HL4.out]; omega
                  obtain ⟨g', o', e', c0, c1, c2⟩ := (Cs.ofRow H4.out.ra).at hiA
                  injection e' with e'
                  injection e' with e1 e2
                  subst e1 e2
                  simp only [Nat.zero_add] at c0 c1 c2
                  have f1 := H4.out.ra.frozenAt (i * 3 + 1)
                  have H5 : Hid (∀ v : Int, ∃ l2 : List Cn, l2.length = la.length ∧ Tryz.F3 w gA gB gC (l2 ++ bh4) (lc ++ bh4) (lg ++ bs4) (la.length + 4) (lc.length + 4) (lg.length + 4) (wr.setCell ⟨gA, i * 3 + 1, none⟩ (.int .i64 v))) := fun v => by
                    have hz := HZ2.out
                    have h5 := H4.out.setA (by omega) (by omega) hz.1 hiA v
                    rw [List.set_append_left _ _ (by rw [HL4.out]; exact hlt4)] at h5
                    exact ⟨_, by rw [List.length_set]; exact HL4.out, h5⟩
                  generalize ((li ++ bh4)[i]).un = uu at *
                  clear H4 c0 c2
                  go_wp2
                  go_roundw
                  case rel =>
                    obtain ⟨l2, h6, h7⟩ := H5.out _
                    exact ⟨i + 1, l2, by simp, by omega, h6, h7⟩
                  case measure => simp [intOf]; omega
                · have q4 : ¬ (i : Int) < (la.length : Int) := by omega
                  clear H12
                  go_upto_region 30 with (fail)
                  go_loopw [23] (fun iv wr => ∃ (i : Nat) (lj : List Cn), iv = .int .i64 i ∧ i ≤ lc.length ∧ lj.length = lc.length ∧ Tryz.F3 w gA gB gC (li ++ bh4) (lj ++ bh4) (lg ++ bs4) (la.length + 4) (lc.length + 4) (lg.length + 4) wr) (fun iv _ => lc.length - (intOf iv).toNat)
                  case atStart => exact ⟨0, lc, rfl, Nat.zero_le _, rfl, H4.out⟩
                  case round =>
                    obtain ⟨i, lj, rfl, hi5, hlj5, h5⟩ := hrel
                    have H5 : Hid (Tryz.F3 w gA gB gC (li ++ bh4) (lj ++ bh4) (lg ++ bs4) (la.length + 4) (lc.length + 4) (lg.length + 4) wr) := h5
                    have HL5 : Hid (lj.length = lc.length) := hlj5
                    clear h5 hlj5 H4
                    by_cases hlt5 : i < lc.length
                    · have q5 : (i : Int) < (lc.length : Int) := by omega
                      have q5b : (i : Int) < (lc.length : Int) + 4 := by omega
                      have hiB : i < (lj ++ bh4).length := by rw [List.length_append, HL5.out]; omega
                      obtain ⟨g', o', e', c0, c1, c2⟩ := (Cs.ofRow H5.out.rb).at hiB
                      injection e' with e'
                      injection e' with e1 e2
                      subst e1 e2
                      simp only [Nat.zero_add] at c0 c1 c2
                      have f1 := H5.out.rb.frozenAt (i * 3 + 2)
                      have H6 : Hid (∀ v : Int, ∃ l2 : List Cn, l2.length = lc.length ∧ Tryz.F3 w gA gB gC (li ++ bh4) (l2 ++ bh4) (lg ++ bs4) (la.length + 4) (lc.length + 4) (lg.length + 4) (wr.setCell ⟨gB, i * 3 + 2, none⟩ (.int .i64 v))) := fun v => by
                        have hz := HZ2.out
                        have h5 := H5.out.setB (by omega) (by omega) (by omega) hiB v
                        rw [List.set_append_left _ _ (by rw [HL5.out]; exact hlt5)] at h5
                        exact ⟨_, by rw [List.length_set]; exact HL5.out, h5⟩
                      generalize ((lj ++ bh4)[i]).hi = uu at *
                      clear H5 c0 c1
                      go_wp2
                      go_roundw
                      case rel =>
                        obtain ⟨l2, h6, h7⟩ := H6.out _
                        exact ⟨i + 1, l2, by simp, by omega, h6, h7⟩
                      case measure => simp [intOf]; omega
                    · have q5 : ¬ (i : Int) < (lc.length : Int) := by omega
                      have s1 : (la.length : Int) ≤ (la.length : Int) + 4 := by omega
                      have s2 : (lc.length : Int) ≤ (lc.length : Int) + 4 := by omega
                      have HFa : Hid (Cs wr (.slice (some ⟨gA, 0, none⟩) la.length (la.length + 4)) li) := Cs.front (L1 := bh4) H5.out.ra HL4.out.symm
                      have HFb : Hid (Cs wr (.slice (some ⟨gB, 0, none⟩) lc.length (lc.length + 4)) lj) := Cs.front (L1 := bh4) H5.out.rb HL5.out.symm
                      have HLa : Hid (li.length ≤ 4398046511104 ∧ lj.length ≤ 4398046511104) := ⟨by rw [HL4.out]; omega, by rw [HL5.out]; omega⟩
                      go_upto_region 34 with (first
                        | (at_builtin; refine Tryz.appNew rfl _ _ rfl rfl HFa.out rfl HLa.out.1 ?_; intro VO w20 r20 b20)
                        | fail)
                      go_upto_region 35 with (first
                        | (at_builtin; refine Tryz.appNew rfl _ _ rfl rfl (HFb.out.past b20) rfl HLa.out.2 ?_; intro VT w21 r21 b21)
                        | fail)
                      have h21 := (H5.out.past b20).past b21
                      have hfo := Tryz.pFold_rows b h21.ra h21.rb h21.rc (by rw [HL4.out, HL5.out]; omega) (by omega)
                      rw [HL4.out, HL5.out] at hfo
                      have hdr : Below w21.heap.size w21 w21.drew := (Below.refl _ w21).drew
                      have HO : Hid (w21.ownsRow 0 39 3 VO li.length (cnCells li) ∧ w21.ownsRow 0 39 3 VT lj.length (cnCells lj)) := ⟨Fd.row_mono (Fd.row_past r20 b21 (Nat.le_refl _)) (Nat.zero_le _), Fd.row_mono r21 (Nat.zero_le _)⟩
                      have HB21 : Hid (Below w.heap.size w w21) := h21.be
                      clear h21 r20 b20 r21 b21 HFa HFb HLa
                      go_region_held3 (fun W => Below w21.heap.size w21 W) (first | assumption | exact hdr)
                        (first
                          | (go_at_call 9; refine (hfo _ (by assumption)).mono ?_; rintro e w22 ⟨V22, rfl, r22, b2x, b22⟩)
                          | fail)
                      clear hfo hdr b2x
                      have hbw22 : Below w.heap.size w w22 := Fd.bel_on HB21.out HB21.out.size b22
                      have rO := Fd.row_past HO.out.1 b22 (Nat.le_refl _)
                      have rT := Fd.row_past HO.out.2 b22 (Nat.le_refl _)
                      have hrf := Tryz.rFold_any b (Cs.ofRow rO) (fun k e => (rO.lt k e).2) (Cs.ofRow rT) (fun k e => (rT.lt k e).2) (HG.out.1.below hbw22 HG.out.2) (fun k e => Nat.lt_of_lt_of_le (HG.out.2 k e) hbw22.size) (by rw [HL4.out, HL5.out]; omega) (by omega)
                      have hFl2 : (foldB b li lj lg).length ≤ 4398046511104 := Nat.le_trans (Fd.foldB_len b li lj lg) (by rw [HL4.out, HL5.out]; omega)
                      have HBw : Hid (Below w.heap.size w w22) := hbw22
                      clear rO rT hbw22 b22
                      generalize foldB b li lj lg = F2 at *
                      obtain ⟨a22, c22, rfl⟩ := Fd.row_is r22
                      go_upto_region 37 with (first
                        | (go_at_call 14; refine hrf.mono ?_; clear hrf; rintro e w23 ⟨V23, rfl, r23, b23⟩; have hsm := Tryz.rSame_any ((Cs.ofRow r22).past b23) (Cs.ofRow r23) hFl2; rw [decide_eq_true rfl] at hsm)
                        | (go_at_call 15; refine hsm.mono ?_; clear hsm; rintro e w24 ⟨rfl, q24, rfl⟩)
                        | fail)
                      have HBz : Hid (Below w.heap.size w (w23.drewN q24)) := belowN (Fd.bel_on HBw.out HBw.out.size b23) q24
                      clear r22 r23 b23
                      generalize w23.drewN q24 = w24 at *
                      go_wp2
                      go_ret
                      exact ⟨rfl, HBz.out⟩
end Go.Proofs
