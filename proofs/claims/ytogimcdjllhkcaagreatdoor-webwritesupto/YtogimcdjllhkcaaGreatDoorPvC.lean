/-
  Laid together by packg.py of WwI WwK WwN.
-/
import Derived.Test.YtogimcdjllhkcaaGreatDoorPvY
import Derived.Test.YtogimcdjllhkcaaGreatDoorPvB
import Derived.Test.YtogimcdjllhkcaaGreatDoorPvZ
namespace Go.Wb
open Go.RowKit Go.Proofs Go.Wi
/-- Headers that were copied to the head of a block of empty ones. -/
theorem hs_spare {W : World} {g c : Nat} {L : List (List UInt8 × List UInt8)} (hg : g < W.heap.size) (h : ∀ j, j < (L.length + 8) * 2 → W.cell? ⟨g, j, none⟩ = some (.string ⟨#[]⟩)) : Hs (W.setCells g 0 (hdCells L)) (.slice (some ⟨g, 0, none⟩) (L.length + 8) c) (L ++ List.replicate 8 ([], [])) := by
  have hin := World.cell?_setCells_in g (hdCells L) 0 W (fun i hi => by rw [Nat.zero_add]; rw [hdCells_len] at hi; rw [h i (by omega)]; rfl)
  have hll : (L ++ List.replicate 8 (([], []) : List UInt8 × List UInt8)).length = L.length + 8 := by simp
  refine ⟨⟨_, _, by rw [hll], .inr ⟨g, 0, rfl, Nat.lt_of_lt_of_le hg (setCells_wo g (hdCells L) 0 W).size, fun j hj => ?_⟩⟩, .inr ⟨_, _, _, rfl⟩⟩
  rw [hll] at hj
  by_cases hjl : j < L.length
  · rw [List.getElem_append_left hjl, Nat.zero_add]
    have e1 := hin (j * 2) (by rw [hdCells_len]; omega)
    have e2 := hin (j * 2 + 1) (by rw [hdCells_len]; omega)
    rw [Nat.zero_add] at e1 e2
    have k := hd_cell hjl
    rw [List.getElem?_eq_getElem (by rw [hdCells_len]; omega), List.getElem?_eq_getElem (by rw [hdCells_len]; omega)] at k
    exact ⟨e1.trans k.1, e2.trans k.2⟩
  · rw [List.getElem_append_right (by omega), Nat.zero_add]
    simp only [List.getElem_replicate]
    have o1 := World.cell?_setCells_out g (hdCells L) 0 W ⟨g, j * 2, none⟩ (fun _ _ => .inr (by rw [hdCells_len]; show 0 + _ ≤ j * 2; omega))
    have o2 := World.cell?_setCells_out g (hdCells L) 0 W ⟨g, j * 2 + 1, none⟩ (fun _ _ => .inr (by rw [hdCells_len]; show 0 + _ ≤ j * 2 + 1; omega))
    rw [o1, o2]
    exact ⟨h _ (by omega), h _ (by omega)⟩
end Go.Wb
namespace Go.Proofs
open Go.RowKit Go.Wi Go.Wb
theorem Tryz.makeHZ {ops : Array Oper} {rest : List Oper} {o : Oper} {a : Act} {Q : Exit → Act → World → Prop} {w : World} (hgd : o.guard = none) (l c : Operand) (hop : o.op = Op.makeSlice 22 l c)
    (L : Int) (n : Nat) (hl : a.eval l = .int .i64 L) (hc : a.eval c = .int .i64 L) (hL : L = (n : Int)) (hn : n ≤ 4398046511104)
    (hK : ∀ w', w.heap.size < w'.heap.size → (∀ j, j < n * 2 → w'.cell? ⟨w.heap.size, j, none⟩ = some (.string ⟨#[]⟩)) → (∀ j, w'.frozen? ⟨w.heap.size, j, none⟩ = false) → Below w.heap.size w w' → wpList Tryz.prog ops Q rest (a.put o.dst (.slice (some ⟨w.heap.size, 0, none⟩) n n)) w') (h0 : 0 < n) : wpList Tryz.prog ops Q (o :: rest) a w := by
  obtain ⟨i0, hi0, hz0, hz1, hz2⟩ := info_parts Tryz.info2N
  refine wpList_make_full w hgd l c 22 hop w.heap.size 52 i0 (.agg #[.string ⟨#[]⟩, .string ⟨#[]⟩]) 2 Tryz.underlying22 hi0 hz0 hz1 .i64 .i64 L L n hl hc hL hL (by rw [hz2]; omega) (by unfold maxLen; omega) (Nat.le_refl _) ?_
  intro w' hown hg
  rcases hown.2 with ⟨e, e0⟩ | ⟨g, cap, cur, e, hB, hgg, k1, k2, k3, k4⟩
  · omega
  · injection e with e1 e3 e4
    injection e1 with e1
    injection e1 with e1
    subst e1
    refine hK w' (block_lt hgg) (fun j hj => ?_) (fun j => frozen_of_row _ _ _ _ _ hgg) ((Below.refl _ w).grown hg (Nat.le_refl _) fun k e => by cases e)
    rw [cell_of_row _ _ _ _ _ _ hgg]
    have h5 := congrArg (fun l => l[j]?) k4
    simp only [List.getElem?_take, if_pos hj, Array.getElem?_toList] at h5
    rw [h5]
    simp only [madeCells, Array.getElem?_map, Array.getElem?_range, if_pos hj]
    have hz : (Value.agg #[.string ⟨#[]⟩, .string ⟨#[]⟩]).cells = #[.string ⟨#[]⟩, .string ⟨#[]⟩] := rfl
    rw [hz]
    rcases Nat.mod_two_eq_zero_or_one j with e | e
    · simp [e]
    · simp [e]
set_option maxRecDepth 20000 in
set_option maxHeartbeats 1000000 in
theorem Tryz.askRequest_full {w : World} (meth tg : ByteArray) {V : Value} {L : List (List UInt8 × List UInt8)} (hV : Hs w V L) (body : List UInt8) (last : Bool) (hL : L.length ≤ 4398046511000) (hb : body.length ≤ 140737488355000) :
    Calls Tryz.prog 5 #[.agg #[.string meth, .string tg, V, .string ⟨body.toArray⟩, .bool last]] w fun e w' => ∃ gh gb, w.heap.size ≤ gh ∧ w.heap.size ≤ gb ∧ gh ≠ gb ∧ gh < w'.heap.size ∧ Hs w' (.slice (some ⟨gh, 0, none⟩) (L.length + 8) (L.length + 8)) (L ++ List.replicate 8 ([], [])) ∧ Rb w' gb (body ++ List.replicate 8 201) ∧ e = .returned (.agg #[.string meth, .string tg, .slice (some ⟨gh, 0, none⟩) L.length (L.length + 8), .slice (some ⟨gb, 0, none⟩) body.length (body.length + 8), .bool last]) ∧ Hs w' (.slice (some ⟨gh, 0, none⟩) L.length (L.length + 8)) L ∧ Bs w' (.slice (some ⟨gb, 0, none⟩) body.length (body.length + 8)) body ∧ gb < w'.heap.size ∧ Below w.heap.size w w' := by
  have hz := text_size body
  obtain ⟨ad, cap, rfl, _⟩ := hV.ex
  have HV : Hid (Hs w (.slice ad L.length cap) L) := hV
  clear hV
  go_enter Tryz.func5, Tryz.ntmps5
  go_upto_region 1 with (fail)
  generalize hW : (w.alloc _).alloc _ = W
  have hA : W.heap[w.heap.size]? = some (.cells #[.string meth, .string tg, .slice ad L.length cap, .string ⟨body.toArray⟩, .bool last] 24 (0, 0)) := by rw [← hW, Below.heap_alloc _ _ _ (by simp)]; exact heap_alloc_new w _
  have hR : W.heap[w.heap.size + 1]? = some (.cells #[.string ⟨#[]⟩, .string ⟨#[]⟩, .slice none 0 0, .slice none 0 0, .bool false] 28 (0, 0)) := by
    rw [← hW]
    have := heap_alloc_new (w.alloc (.cells #[.string meth, .string tg, .slice ad L.length cap, .string ⟨body.toArray⟩, .bool last] 24)) (.cells #[.string ⟨#[]⟩, .string ⟨#[]⟩, .slice none 0 0, .slice none 0 0, .bool false] 28)
    rw [World.size_alloc] at this
    exact this
  have hB : Below w.heap.size w W := by rw [← hW]; exact ((Below.refl _ w).alloc (Nat.le_refl _) _).alloc (by simp) _
  have hS : W.heap.size = w.heap.size + 2 := by rw [← hW]; simp
  clear hW
  have hlA : w.heap.size < W.heap.size := by omega
  have hlR : w.heap.size + 1 < W.heap.size := by omega
  have hlW : w.heap.size ≤ W.heap.size := by omega
  clear hS
  have c2 : W.cell? ⟨w.heap.size, 2, none⟩ = some (.slice ad L.length cap) := cell_of_row _ _ 2 _ _ _ hA
  have HA : Hid (W.heap[w.heap.size]? = some (.cells #[.string meth, .string tg, .slice ad L.length cap, .string ⟨body.toArray⟩, .bool last] 24 (0, 0))) := hA
  have HR : Hid (W.heap[w.heap.size + 1]? = some (.cells #[.string ⟨#[]⟩, .string ⟨#[]⟩, .slice none 0 0, .slice none 0 0, .bool false] 28 (0, 0))) := hR
  have HB : Hid (Below w.heap.size w W) := hB
  have HVW : Hid (Hs W (.slice ad L.length cap) L) := HV.out.below hB
  clear hA hR hB
  obtain ⟨N, hN⟩ : ∃ N : Nat, N = L.length + 8 := ⟨_, rfl⟩
  have e1 : IntKind.i64.wrap ((L.length : Int) + 8) = (N : Int) := by rw [IntKind.wrap_i64]; omega
  have HN : Hid (N = L.length + 8) := hN
  have hN2 : N ≤ 4398046511104 := by omega
  have hN3 : L.length ≤ N := by omega
  have hN0 : 0 < N := by omega
  clear hN
  go_upto_region 3 with (first | (refine Tryz.makeHZ rfl _ _ rfl _ N rfl rfl rfl hN2 ?_ hN0; intro W1 hlt1 hzs1 hfz1 hb1; have hcs1 : ∀ j, j < N * 2 → (W1.cell? ⟨W.heap.size, j, none⟩).isSome = true := (fun j hj => by rw [hzs1 j hj]; rfl); have HC2 : Hid (Hs (W1.setCells W.heap.size 0 (hdCells L)) (.slice (some ⟨W.heap.size, 0, none⟩) (L.length + 8) N) (L ++ List.replicate 8 ([], []))) := hs_spare hlt1 (fun j hj => hzs1 j (by rw [HN.out]; exact hj)); have hcp := Tryz.copy_hN (HVW.out.below hb1) hN3 hcs1 hfz1; have k2 := (hb1.cell (p := ⟨w.heap.size, 2, none⟩) hlA).trans c2; have HB1 : Hid (Below W.heap.size W W1) := hb1; have HC1 : Hid (Hs (W1.setCells W.heap.size 0 (hdCells L)) (.slice (some ⟨W.heap.size, 0, none⟩) L.length N) L) := hs_copied hlt1 (fun j hj => hcs1 j (by omega)); clear hb1 hcs1 hzs1 hfz1 hlt1) | fail)
  have hB2 : Below W.heap.size W (W1.setCells W.heap.size 0 (hdCells L)) := Wo.toBelow HB1.out (Wb.setCells_wo (own := fun k => W.heap.size ≤ k) W.heap.size (Nat.le_refl _) _ 0 W1 W1 (Wo.refl _ _)) (fun k e => e) HB1.out.size
  clear hcp HB1 k2 HVW c2
  have HC : Hid (Hs (W1.setCells W.heap.size 0 (hdCells L)) (.slice (some ⟨W.heap.size, 0, none⟩) L.length N) L) := HC1.out
  clear HC1
  have HCC : Hid (Hs (W1.setCells W.heap.size 0 (hdCells L)) (.slice (some ⟨W.heap.size, 0, none⟩) (L.length + 8) N) (L ++ List.replicate 8 ([], []))) := HC2.out
  clear HC2
  generalize W1.setCells W.heap.size 0 (hdCells L) = W2 at *
  have hA2 := (hB2.block _ hlA).trans HA.out
  have hR2 := (hB2.block _ hlR).trans HR.out
  have hB02 : Below w.heap.size w W2 := HB.out.trans (hB2.mono hlW)
  have hsz2 := hB2.size
  have hltc : W.heap.size < W2.heap.size := (by obtain ⟨ad, cap, e, h1⟩ := HCC.out.ex; rcases h1 with h1 | ⟨g, o, e1, hg, -⟩; exact absurd (congrArg List.length h1) (by simp); injection e with e2; rw [e1] at e2; injection e2 with e2; injection e2 with e2; rw [e2]; exact hg)
  have kl := Tryz.lent_any body hb W2
  have c3 : W2.cell? ⟨w.heap.size, 3, none⟩ = some (.string ⟨body.toArray⟩) := cell_of_row _ _ 3 _ _ _ hA2
  have HA2 : Hid (W2.heap[w.heap.size]? = some (.cells #[.string meth, .string tg, .slice ad L.length cap, .string ⟨body.toArray⟩, .bool last] 24 (0, 0))) := hA2
  have HR2 : Hid (W2.heap[w.heap.size + 1]? = some (.cells #[.string ⟨#[]⟩, .string ⟨#[]⟩, .slice none 0 0, .slice none 0 0, .bool false] 28 (0, 0))) := hR2
  have HB2 : Hid (Below w.heap.size w W2) := hB02
  clear hA2 hR2 hB02 HA HR HB hB2
  go_upto_region 4 with (first | (go_at_call 16; refine kl.mono ?_; clear kl; rintro e W3 ⟨rfl, hrb, hb3⟩; have HRB : Hid (Rb W3 W2.heap.size (body ++ List.replicate 8 201)) := hrb; have HB3 : Hid (Below W2.heap.size W2 W3) := hb3; clear hrb hb3) | fail)
  have hA := (HB3.out.block _ (by omega)).trans HA2.out
  have hR := (HB3.out.block _ (by omega)).trans HR2.out
  have HHS : Hid (Hs W3 (.slice (some ⟨W.heap.size, 0, none⟩) L.length N) L) := HC.out.below HB3.out
  have HHT : Hid (Hs W3 (.slice (some ⟨W.heap.size, 0, none⟩) (L.length + 8) N) (L ++ List.replicate 8 ([], []))) := HCC.out.below HB3.out
  have HRR : Hid (Rb W3 W2.heap.size (body ++ List.replicate 8 201)) := HRB.out
  have HLW : Hid (W.heap.size < W2.heap.size) := hltc
  have HBB : Hid (Below w.heap.size w W3) := HB2.out.trans (HB3.out.mono (by omega))
  have HBS : Hid (Bs W3 (.slice (some ⟨W2.heap.size, 0, none⟩) body.length (body.length + 8)) body) := (by
    have hr := HRB.out
    refine ⟨_, _, rfl, by omega, (fun e => by cases e), .inr ⟨W2.heap.size, 0, rfl, hr.lt, fun j u hu => ?_⟩⟩
    rw [Nat.zero_add]
    refine hr.cell j u ?_
    rw [byteCells_app, List.getElem?_append_left (by have := (List.getElem?_eq_some_iff.1 hu).1; exact this)]
    exact hu)
  have hg3 : W2.heap.size < W3.heap.size := HRB.out.lt
  have a0 : W3.cell? ⟨w.heap.size, 0, none⟩ = some (.string meth) := cell_of_row _ _ 0 _ _ _ hA
  have a1 : W3.cell? ⟨w.heap.size, 1, none⟩ = some (.string tg) := cell_of_row _ _ 1 _ _ _ hA
  have a2 : W3.cell? ⟨w.heap.size, 2, none⟩ = some (.slice ad L.length cap) := cell_of_row _ _ 2 _ _ _ hA
  have a3 : W3.cell? ⟨w.heap.size, 3, none⟩ = some (.string ⟨body.toArray⟩) := cell_of_row _ _ 3 _ _ _ hA
  have a4 : W3.cell? ⟨w.heap.size, 4, none⟩ = some (.bool last) := cell_of_row _ _ 4 _ _ _ hA
  have g0 : W3.cell? ⟨w.heap.size + 1, 0, none⟩ = some (.string ⟨#[]⟩) := cell_of_row _ _ 0 _ _ _ hR
  have g1 : W3.cell? ⟨w.heap.size + 1, 1, none⟩ = some (.string ⟨#[]⟩) := cell_of_row _ _ 1 _ _ _ hR
  have g2 : W3.cell? ⟨w.heap.size + 1, 2, none⟩ = some (.slice none 0 0) := cell_of_row _ _ 2 _ _ _ hR
  have g3 : W3.cell? ⟨w.heap.size + 1, 3, none⟩ = some (.slice none 0 0) := cell_of_row _ _ 3 _ _ _ hR
  have g4 : W3.cell? ⟨w.heap.size + 1, 4, none⟩ = some (.bool false) := cell_of_row _ _ 4 _ _ _ hR
  have z0 := frozen_of_row W3 (w.heap.size + 1) 0 _ _ hR
  have z1 := frozen_of_row W3 (w.heap.size + 1) 1 _ _ hR
  have z2 := frozen_of_row W3 (w.heap.size + 1) 2 _ _ hR
  have z3 := frozen_of_row W3 (w.heap.size + 1) 3 _ _ hR
  have z4 := frozen_of_row W3 (w.heap.size + 1) 4 _ _ hR
  have HG : Hid (W3.heap[w.heap.size + 1]? = some (.cells #[.string ⟨#[]⟩, .string ⟨#[]⟩, .slice none 0 0, .slice none 0 0, .bool false] 28 (0, 0))) := hR
  clear hA hR HRB HB3 HB2 HR2 HA2 HC c3
  obtain ⟨M, hM⟩ : ∃ M : Nat, M = body.length + 8 := ⟨_, rfl⟩
  have HM : Hid (M = body.length + 8) := hM
  have hM3 : body.length ≤ M := by omega
  rw [← hM]
  clear hM
  (refine Go.Lq.wp_region_last 17 (by kernel_rfl) (by kernel_rfl) ?_; dsimp only [List.dropLast]; (repeat (quiet_step (fail))); refine wpQuiet_nil ?_; intro _ hw'; obtain ⟨nq, hw''⟩ := hw'; subst hw''; refine Go.Lq.wpOp_last rfl rfl ?_; unfold Oper.wp; go_simp)
  go_wp2
  have e0 := heap_setCell_same (W3.drewN nq) (w.heap.size + 1) 0 _ _ (.string meth) HG.out
  have e1 := heap_setCell_same _ (w.heap.size + 1) 1 _ _ (.string tg) e0
  have e2 := heap_setCell_same _ (w.heap.size + 1) 2 _ _ (.slice (some ⟨W.heap.size, 0, none⟩) L.length N) e1
  have e3 := heap_setCell_same _ (w.heap.size + 1) 3 _ _ (.slice (some ⟨W2.heap.size, 0, none⟩) body.length M) e2
  have e4 := heap_setCell_same _ (w.heap.size + 1) 4 _ _ (.bool last) e3
  have hne : W.heap.size ≠ w.heap.size + 1 := by omega
  have hne2 : W2.heap.size ≠ w.heap.size + 1 := by omega
  have hot : ∀ k, k ≠ w.heap.size + 1 → ((((((W3.drewN nq).setCell ⟨w.heap.size + 1, 0, none⟩ (.string meth)).setCell ⟨w.heap.size + 1, 1, none⟩ (.string tg)).setCell ⟨w.heap.size + 1, 2, none⟩ (.slice (some ⟨W.heap.size, 0, none⟩) L.length N)).setCell ⟨w.heap.size + 1, 3, none⟩ (.slice (some ⟨W2.heap.size, 0, none⟩) body.length M)).setCell ⟨w.heap.size + 1, 4, none⟩ (.bool last)).heap[k]? = W3.heap[k]? := fun k hk => by
    rw [Below.heap_setCell _ _ _ k hk, Below.heap_setCell _ _ _ k hk, Below.heap_setCell _ _ _ k hk, Below.heap_setCell _ _ _ k hk, Below.heap_setCell _ _ _ k hk]
    rfl
  have hlast : W2.heap.size < ((((((W3.drewN nq).setCell ⟨w.heap.size + 1, 0, none⟩ (.string meth)).setCell ⟨w.heap.size + 1, 1, none⟩ (.string tg)).setCell ⟨w.heap.size + 1, 2, none⟩ (.slice (some ⟨W.heap.size, 0, none⟩) L.length N)).setCell ⟨w.heap.size + 1, 3, none⟩ (.slice (some ⟨W2.heap.size, 0, none⟩) body.length M)).setCell ⟨w.heap.size + 1, 4, none⟩ (.bool last)).heap.size := by simpa using hg3
  refine bodyPost_ret (results_cell_row rfl _ _ (w.heap.size + 1) _ _ _ _ rfl e4 Tryz.underlying28 rfl (by kernel_rfl)) rfl ⟨W.heap.size, W2.heap.size, hlW, Nat.le_trans hlW hsz2, Nat.ne_of_lt HLW.out, Nat.lt_trans HLW.out hlast, ?_, ?_, ?_, ?_, ?_, hlast, (((((belowN HBB.out nq).setCell (p := ⟨w.heap.size + 1, 0, none⟩) (Nat.le_succ _) _).setCell (p := ⟨w.heap.size + 1, 1, none⟩) (Nat.le_succ _) _).setCell (p := ⟨w.heap.size + 1, 2, none⟩) (Nat.le_succ _) _).setCell (p := ⟨w.heap.size + 1, 3, none⟩) (Nat.le_succ _) _).setCell (p := ⟨w.heap.size + 1, 4, none⟩) (Nat.le_succ _) _⟩
  · rw [← HN.out]
    have := HHT.out.keep (w' := _) fun k hk => hot k (by injection hk with hk; subst hk; exact hne)
    rw [HN.out] at this ⊢
    exact this
  · have hr := HRR.out
    refine ⟨hlast, fun j u hu => (World.cell?_of_block (a := ⟨W2.heap.size, j, none⟩) (hot _ hne2)).trans (hr.cell j u hu), fun j hj => (World.frozen?_of_block (a := ⟨W2.heap.size, j, none⟩) (hot _ hne2)).trans (hr.fz j hj)⟩
  · rw [← HN.out, ← HM.out]
    rfl
  · rw [← HN.out]
    exact HHS.out.keep fun k hk => hot k (by injection hk with hk; subst hk; exact hne)
  · exact HBS.out.keep fun k hk => hot k (by injection hk with hk; subst hk; exact hne2)
end Go.Proofs
namespace Go.Proofs
open Go.RowKit Go.Wi Go.Wb
set_option maxRecDepth 20000 in
set_option maxHeartbeats 4000000 in
theorem Tryz.kept_any {w : World} (meth tg : List UInt8) {V : Value} {L : List (List UInt8 × List UInt8)} {body : List UInt8} {gh gb : Nat} (last : Bool) (hV : Hs w V L) (hh : Hs w (.slice (some ⟨gh, 0, none⟩) (L.length + 8) (L.length + 8)) (L ++ List.replicate 8 ([], []))) (hb : Rb w gb (body ++ List.replicate 8 201)) (hL : L.length ≤ 4398046511000) (hbl : body.length ≤ 140737488355000) :
    Calls Tryz.prog 10 #[.agg #[.string ⟨meth.toArray⟩, .string ⟨tg.toArray⟩, V, .string ⟨body.toArray⟩, .bool last], .agg #[.string ⟨meth.toArray⟩, .string ⟨tg.toArray⟩, .slice (some ⟨gh, 0, none⟩) L.length (L.length + 8), .slice (some ⟨gb, 0, none⟩) body.length (body.length + 8), .bool last]] w fun e w' => e = .returned (.bool true) ∧ Below w.heap.size w w' := by
  obtain ⟨ad, cap, rfl, hx⟩ := hV.ex
  have hzb := text_size body
  obtain ⟨N, hN⟩ : ∃ N : Nat, N = L.length + 8 := ⟨_, rfl⟩
  obtain ⟨M, hM⟩ : ∃ M : Nat, M = body.length + 8 := ⟨_, rfl⟩
  have HN : Hid (N = L.length + 8) := hN
  have HM : Hid (M = body.length + 8) := hM
  rw [← hN] at hh
  have hNb : N ≤ 9223372036854775807 := by omega
  have hMb : M ≤ 9223372036854775807 := by omega
  have hN0 : L.length ≤ N := by omega
  have hM0 : body.length ≤ M := by omega
  have eN : IntKind.i64.wrap ((L.length : Int) + 8) = (N : Int) := by rw [IntKind.wrap_i64]; omega
  have eM : IntKind.i64.wrap ((body.length : Int) + 8) = (M : Int) := by rw [IntKind.wrap_i64]; omega
  rw [← hN, ← hM]
  clear hN hM
  have HH : Hid (∀ j (hj : j < (L ++ List.replicate 8 (([], []) : List UInt8 × List UInt8)).length), w.cell? ⟨gh, j * 2, none⟩ = some (.string ⟨((L ++ List.replicate 8 (([], []) : List UInt8 × List UInt8))[j]).1.toArray⟩) ∧ w.cell? ⟨gh, j * 2 + 1, none⟩ = some (.string ⟨((L ++ List.replicate 8 (([], []) : List UInt8 × List UInt8))[j]).2.toArray⟩) ∧ gh < w.heap.size) := fun j hj => by
    have hll : (L ++ List.replicate 8 (([], []) : List UInt8 × List UInt8)).length = N := by rw [HN.out]; simp
    obtain ⟨ad2, cap2, e, h1⟩ := hh.ex
    rcases h1 with h1 | ⟨g2, o2, e1, hg, hc⟩
    · rw [h1] at hj; cases hj
    · injection e with e2
      rw [e1] at e2
      injection e2 with e2
      injection e2 with e2 e3
      subst e2 e3
      have := hc j hj
      rw [Nat.zero_add] at this
      exact ⟨this.1, this.2, hg⟩
  have HX : Hid (L = [] ∨ ∃ g o, ad = some ⟨g, o, none⟩ ∧ g < w.heap.size ∧ ∀ j (hj : j < L.length), w.cell? ⟨g, o + j * 2, none⟩ = some (.string ⟨L[j].1.toArray⟩) ∧ w.cell? ⟨g, o + j * 2 + 1, none⟩ = some (.string ⟨L[j].2.toArray⟩)) := hx
  have HB : Hid (Rb w gb (body ++ List.replicate 8 201)) := hb
  clear hh hb hx hV
  go_enter Tryz.func10, Tryz.ntmps10
  go_upto_region 1 with (fail)
  generalize hW : (w.alloc _).alloc _ = W0
  obtain ⟨gA, hgA⟩ : ∃ g, g = w.heap.size := ⟨_, rfl⟩
  obtain ⟨gR, hgR⟩ : ∃ g, g = w.heap.size + 1 := ⟨_, rfl⟩
  have hA : W0.heap[gA]? = some (.cells #[.string ⟨meth.toArray⟩, .string ⟨tg.toArray⟩, .slice ad L.length cap, .string ⟨body.toArray⟩, .bool last] 24 (0, 0)) := by rw [hgA, ← hW, Below.heap_alloc _ _ _ (by simp)]; exact heap_alloc_new w _
  have hR : W0.heap[gR]? = some (.cells #[.string ⟨meth.toArray⟩, .string ⟨tg.toArray⟩, .slice (some ⟨gh, 0, none⟩) L.length N, .slice (some ⟨gb, 0, none⟩) body.length M, .bool last] 28 (0, 0)) := by
    rw [hgR, ← hW]
    have := heap_alloc_new (w.alloc (.cells #[.string ⟨meth.toArray⟩, .string ⟨tg.toArray⟩, .slice ad L.length cap, .string ⟨body.toArray⟩, .bool last] 24)) (.cells #[.string ⟨meth.toArray⟩, .string ⟨tg.toArray⟩, .slice (some ⟨gh, 0, none⟩) L.length N, .slice (some ⟨gb, 0, none⟩) body.length M, .bool last] 28)
    rw [World.size_alloc] at this
    exact this
  have hBel : Below w.heap.size w W0 := by rw [← hW]; exact ((Below.refl _ w).alloc (Nat.le_refl _) _).alloc (by simp) _
  clear hW
  rw [← hgR, ← hgA]
  clear hgR hgA
  have HBel : Hid (Below w.heap.size w W0) := hBel
  have cA : W0.cell? ⟨gA, 2, none⟩ = some (.slice ad L.length cap) := cell_of_row _ _ 2 _ _ _ hA
  have cB : W0.cell? ⟨gA, 3, none⟩ = some (.string ⟨body.toArray⟩) := cell_of_row _ _ 3 _ _ _ hA
  have r2 : W0.cell? ⟨gR, 2, none⟩ = some (.slice (some ⟨gh, 0, none⟩) L.length N) := cell_of_row _ _ 2 _ _ _ hR
  have r3 : W0.cell? ⟨gR, 3, none⟩ = some (.slice (some ⟨gb, 0, none⟩) body.length M) := cell_of_row _ _ 3 _ _ _ hR
  clear hA hR hBel
  have s1 : (L.length : Int) ≤ (N : Int) := by omega
  have s2 : (body.length : Int) ≤ (M : Int) := by omega
  have HA2 : Hid (W0.cell? ⟨gA, 2, none⟩ = some (.slice ad L.length cap)) := cA
  have HA3 : Hid (W0.cell? ⟨gA, 3, none⟩ = some (.string ⟨body.toArray⟩)) := cB
  go_wp2
  clear r2 r3 cA cB
  go_loopw [7] (fun iv wr => ∃ i : Nat, iv = .int .i64 i ∧ i ≤ N ∧ ∃ n, wr = W0.drewN n) (fun iv _ => N - (intOf iv).toNat)
  case atStart => exact ⟨0, rfl, Nat.zero_le _, 0, rfl⟩
  case round =>
    obtain ⟨i, rfl, hi, n, rfl⟩ := hrel
    have cA := HA2.out
    by_cases hlt : i < N
    · have q : (i : Int) < (N : Int) := by omega
      obtain ⟨h0, h1, hgl⟩ := HH.out i (by rw [List.length_append, List.length_replicate, ← HN.out]; exact hlt)
      have h0 := (HBel.out.cell (p := ⟨gh, i * 2, none⟩) hgl).trans h0
      have h1 := (HBel.out.cell (p := ⟨gh, i * 2 + 1, none⟩) hgl).trans h1
      by_cases hil : i < L.length
      · have q2 : (i : Int) < (L.length : Int) := by omega
        obtain ⟨g, o, rfl, d0, d1⟩ : ∃ g o, ad = some ⟨g, o, none⟩ ∧ W0.cell? ⟨g, o + i * 2, none⟩ = some (.string ⟨L[i].1.toArray⟩) ∧ W0.cell? ⟨g, o + i * 2 + 1, none⟩ = some (.string ⟨L[i].2.toArray⟩) := by
          rcases HX.out with e | ⟨g, o, e, hg, hc⟩
          · rw [e] at hil; cases hil
          · exact ⟨g, o, e, (HBel.out.cell (p := ⟨g, o + i * 2, none⟩) hg).trans (hc i hil).1, (HBel.out.cell (p := ⟨g, o + i * 2 + 1, none⟩) hg).trans (hc i hil).2⟩
        rw [List.getElem_append_left hil] at h0 h1
        generalize L[i].1 = a at *
        generalize L[i].2 = b at *
        have q3 : ¬ (L.length : Int) ≤ (i : Int) := by omega
        have q4 : decide (L.length ≤ i) = false := decide_eq_false (by omega)
        go_wp2
        have eq1 := fun W => Tryz.eqHd W ⟨a.toArray⟩ ⟨b.toArray⟩
        go_quiet (fail)
        go_wp2
        go_roundw
        case rel => exact ⟨i + 1, by simp, by omega, _, rfl⟩
        case measure => simp [intOf]; omega
      · have q2 : ¬ (i : Int) < (L.length : Int) := by omega
        have q3 : (L.length : Int) ≤ (i : Int) := by omega
        have q4 : decide (L.length ≤ i) = true := decide_eq_true (by omega)
        rw [List.getElem_append_right (by omega), List.getElem_replicate] at h0 h1
        change W0.cell? ⟨gh, i * 2, none⟩ = some (.string ⟨#[]⟩) at h0
        change W0.cell? ⟨gh, i * 2 + 1, none⟩ = some (.string ⟨#[]⟩) at h1
        go_wp2
        have eq1 := fun W => Tryz.eqHd W ⟨#[]⟩ ⟨#[]⟩
        go_quiet (fail)
        go_wp2
        go_roundw
        case rel => exact ⟨i + 1, by simp, by omega, _, rfl⟩
        case measure => simp [intOf]; omega
    · have q : ¬ (i : Int) < (N : Int) := by omega
      clear cA HH HX HA2
      go_wp2
      go_loopw [8] (fun iv wr => ∃ i : Nat, iv = .int .i64 i ∧ i ≤ M ∧ ∃ n, wr = W0.drewN n) (fun iv _ => M - (intOf iv).toNat)
      case atStart => exact ⟨0, rfl, Nat.zero_le _, n, rfl⟩
      case round =>
        clear q hlt hi
        obtain ⟨i, rfl, hi, n, rfl⟩ := hrel
        have cB := HA3.out
        by_cases hlt : i < M
        · have q : (i : Int) < (M : Int) := by omega
          have hll : i < (body ++ List.replicate 8 (201 : UInt8)).length := by rw [List.length_append, List.length_replicate, ← HM.out]; exact hlt
          have h0 := (HBel.out.cell (p := ⟨gb, i, none⟩) HB.out.lt).trans (HB.out.at hll)
          by_cases hil : i < body.length
          · have q2 : (i : Int) < (body.length : Int) := by omega
            rw [List.getElem_append_left hil] at h0
            obtain ⟨c, hde⟩ : ∃ c, body[i]'hil = c := ⟨_, rfl⟩
            have hix : ∀ h : i < (⟨body.toArray⟩ : ByteArray).size, (⟨body.toArray⟩ : ByteArray)[i]'h = c := fun h => (at_text hil h).trans hde
            rw [hde] at h0
            clear hde
            have q3 : ¬ (body.length : Int) ≤ (i : Int) := by omega
            have q4 : decide (body.length ≤ i) = false := decide_eq_false (by omega)
            go_wp2
            go_quiet (fail)
            go_wp2
            go_roundw
            case rel => exact ⟨i + 1, by simp, by omega, _, rfl⟩
            case measure => simp [intOf]; omega
          · have q2 : ¬ (i : Int) < (body.length : Int) := by omega
            have q3 : (body.length : Int) ≤ (i : Int) := by omega
            have q4 : decide (body.length ≤ i) = true := decide_eq_true (by omega)
            rw [List.getElem_append_right (by omega), List.getElem_replicate] at h0
            change W0.cell? ⟨gb, i, none⟩ = some (.int .u8 201) at h0
            go_wp2
            go_quiet (fail)
            go_wp2
            go_roundw
            case rel => exact ⟨i + 1, by simp, by omega, _, rfl⟩
            case measure => simp [intOf]; omega
        · have q : ¬ (i : Int) < (M : Int) := by omega
          go_wp2
          go_ret
          exact ⟨rfl, belowN HBel.out n⟩
end Go.Proofs
namespace Go.Dg
open Go.RowKit Go.Wi Go.Proofs
theorem Ov.box {w : World} {B g : Nat} {T : TypeId} {cs : List Value} (hB : B ≤ g) (h : w.heap[g]? = some (.cells cs.toArray T (0, 0))) : Ov w B (.slice (some ⟨g, 0, none⟩) cs.length cs.length) cs := by
  refine .inr ⟨g, cs.length, rfl, hB, block_lt h, Nat.le_refl _, fun j u hu => ?_, fun j hj => ⟨?_, frozen_of_row _ _ _ _ _ h⟩⟩
  · rw [cell_of_row _ _ _ _ _ _ h]
    simpa using hu
  · rw [cell_of_row _ _ _ _ _ _ h]
    simp [hj]
theorem Ls.four {W0 w : World} {gx gl s1 s2 : Nat} {R1 R2 R3 R4 : Value} {T1 T2 : List UInt8} {ts : List Value} {n c : Nat} (hb : Below W0.heap.size W0 w) (ht : Ov w W0.heap.size (.slice (some ⟨gx, 0, none⟩) n c) ts) (hl : Ov w W0.heap.size (.slice (some ⟨gl, 0, none⟩) 4 4) [R1, R2, R3, R4])
    (h1 : Ob w W0.heap.size R1 T1 ∧ ∀ k, R1.ownBlock = some k → k < gx) (h2 : Ob w W0.heap.size R2 T2 ∧ ∀ k, R2.ownBlock = some k → gx < k ∧ k < s1) (h3 : Ob w W0.heap.size R3 T1 ∧ ∀ k, R3.ownBlock = some k → s1 ≤ k ∧ k < s2) (h4 : Ob w W0.heap.size R4 T2 ∧ ∀ k, R4.ownBlock = some k → s2 ≤ k ∧ k < gl)
    (hs : gx < s1 ∧ s1 ≤ s2 ∧ s2 ≤ gl) (z1 : T1.length ≤ 8000000) (z2 : T2.length ≤ 8000000) : Ls W0 (.slice (some ⟨gx, 0, none⟩) n c) (.slice (some ⟨gl, 0, none⟩) 4 4) ts [R1, R2, R3, R4] (fun j => if j % 2 = 0 then T1 else T2) w := by
  have key : ∀ (j : Nat) (v : Value), [R1, R2, R3, R4][j]? = some v → (j = 0 ∧ v = R1) ∨ (j = 1 ∧ v = R2) ∨ (j = 2 ∧ v = R3) ∨ (j = 3 ∧ v = R4) := by
    intro j v e
    match j, e with
    | 0, e => cases e; exact .inl ⟨rfl, rfl⟩
    | 1, e => cases e; exact .inr (.inl ⟨rfl, rfl⟩)
    | 2, e => cases e; exact .inr (.inr (.inl ⟨rfl, rfl⟩))
    | 3, e => cases e; exact .inr (.inr (.inr ⟨rfl, rfl⟩))
    | j + 4, e => simp at e
  refine ⟨hb, ht, hl, fun j v e => ?_, fun i j vi vj k ei ej hn e1 e2 => ?_, fun j v k e e1 => ?_, fun k e e2 => ?_, fun j => ?_⟩
  · rcases key j v e with ⟨rfl, rfl⟩ | ⟨rfl, rfl⟩ | ⟨rfl, rfl⟩ | ⟨rfl, rfl⟩
    · exact h1.1
    · exact h2.1
    · exact h3.1
    · exact h4.1
  · rcases key i vi ei with ⟨rfl, rfl⟩ | ⟨rfl, rfl⟩ | ⟨rfl, rfl⟩ | ⟨rfl, rfl⟩ <;> rcases key j vj ej with ⟨rfl, rfl⟩ | ⟨rfl, rfl⟩ | ⟨rfl, rfl⟩ | ⟨rfl, rfl⟩ <;> first
      | (exact hn rfl)
      | (have a1 := h1.2 k (by assumption); have a2 := h2.2 k (by assumption); omega)
      | (have a1 := h1.2 k (by assumption); have a2 := h3.2 k (by assumption); omega)
      | (have a1 := h1.2 k (by assumption); have a2 := h4.2 k (by assumption); omega)
      | (have a1 := h2.2 k (by assumption); have a2 := h3.2 k (by assumption); omega)
      | (have a1 := h2.2 k (by assumption); have a2 := h4.2 k (by assumption); omega)
      | (have a1 := h3.2 k (by assumption); have a2 := h4.2 k (by assumption); omega)
  · refine ⟨fun e2 => ?_, fun e2 => ?_⟩
    · injection e2 with e2
      rcases key j v e with ⟨rfl, rfl⟩ | ⟨rfl, rfl⟩ | ⟨rfl, rfl⟩ | ⟨rfl, rfl⟩
      · have := h1.2 k e1; have e3 : gx = k := e2; omega
      · have := h2.2 k e1; have e3 : gx = k := e2; omega
      · have := h3.2 k e1; have e3 : gx = k := e2; omega
      · have := h4.2 k e1; have e3 : gx = k := e2; omega
    · injection e2 with e2
      rcases key j v e with ⟨rfl, rfl⟩ | ⟨rfl, rfl⟩ | ⟨rfl, rfl⟩ | ⟨rfl, rfl⟩
      · have := h1.2 k e1; have e3 : gl = k := e2; omega
      · have := h2.2 k e1; have e3 : gl = k := e2; omega
      · have := h3.2 k e1; have e3 : gl = k := e2; omega
      · have := h4.2 k e1; have e3 : gl = k := e2; omega
  · injection e with e
    injection e2 with e2
    have e3 : gx = k := e
    have e4 : gl = k := e2
    omega
  · show (if j % 2 = 0 then T1 else T2).length ≤ _
    split
    · exact z1
    · exact z2
end Go.Dg
