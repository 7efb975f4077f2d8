/-
  Laid together by packg.py of WtD WtF.
-/
import Derived.Test.YtjiidkkmnlcpcaaGreatDoorPaO
import Derived.Test.YtjiidkkmnlcpcaaGreatDoorPaW
namespace Go.Wb
open Go.RowKit Go.Proofs Go.Wi
theorem results_row3 {P : Program} {fn : Func} {p t u v : Tmp} {ty : TypeId} (h : fn.results = #[.cell p ty, .tmp t, .tmp u, .tmp v]) (tmps : Array Value) (w : World) (g : Nat) (tt : TypeId) (cs : Array Value) (fr : Nat × Nat) (d : TypeDesc)
    (hp : tmps.getD p undef = .pointer (some ⟨g, 0, none⟩)) (hg : w.heap[g]? = some (.cells cs tt fr))
    (hu : P.underlying ty = some d) (hd : (match d with | .struct _ | .array _ _ => true | _ => false) = true) (hi : (P.info? ty).map (·.size) = some cs.size) :
    (results fn tmps).run P w = .ok (.tuple #[.agg cs, tmps.getD t undef, tmps.getD u undef, tmps.getD v undef]) w := by
  have hp' : tmps[p]?.getD undef = .pointer (some ⟨g, 0, none⟩) := by simpa using hp
  simp [results, h, hp', asAddr, run_loadVar_row w g tt ty cs fr d hg hu hd hi]
/-- What is answered of a response that is none. -/
theorem ans_dead {s : List UInt8} (hd : deadR (resD s) = true) (hz : ∀ a e, resD s = .bad a e → e ≠ 0) : ansP s = (0, [], [], false, 0) ∧ Wb.plc (rd newRes s).1 = (codes (resD s)).1 ∧ (rd newRes s).1.fErr = (codes (resD s)).2 := by
  have h := res_read s
  cases hx : resD s with
  | bad a e =>
    rw [hx] at h
    have he := hz a e hx
    obtain ⟨_, _, h3, h4⟩ := (h : Bad _ _ _)
    refine ⟨?_, ?_, h4⟩
    · unfold ansP
      rw [if_neg]
      unfold whole
      rw [h4]
      simp [he]
    · unfold Wb.plc
      rw [if_neg (by rw [h4]; exact he), h3]
      rfl
  | more =>
    rw [hx] at h
    have h : (rd newRes s).1.fErr = 0 ∧ over (rd newRes s).1 = false := h
    refine ⟨?_, ?_, h.1⟩
    · unfold ansP
      rw [if_neg]
      unfold whole
      rw [h.2]
      simp
    · unfold Wb.plc
      rw [if_pos h.1]
      rfl
  | ok z r k => rw [hx] at hd; cases hd
theorem ans_live {s r : List UInt8} {z : (Nat × Nat × List (List UInt8 × List UInt8)) × Nat × List UInt8 × Option (List (List UInt8 × List UInt8) × Nat)} {k : Nat} (h : resD s = .ok z r k) (hk : k + r.length = s.length) : ansP s = (z.1.2.1, z.1.2.2.map hdOf, z.2.2.1, endsD (z.1.2.2.map hdOf) (decide (z.1.1 = 11)), k) ∧ Wb.plc (rd newRes s).1 = 0 ∧ (rd newRes s).1.fErr = 0 := by
  have h2 := res_read s
  rw [h] at h2
  obtain ⟨h3, h4, h5, h6, h7, h8⟩ := (h2 : whole (rd newRes s).1 = true ∧ _)
  have hf : (rd newRes s).1.fErr = 0 := by
    unfold whole at h3
    simp only [Bool.and_eq_true, beq_iff_eq] at h3
    exact h3.2
  refine ⟨?_, ?_, hf⟩
  · unfold ansP
    rw [if_pos h3, h5, h6, h7, h8, h4]
    congr 4
    omega
  · unfold Wb.plc
    rw [if_pos hf]
end Go.Wb
namespace Go.Proofs
open Go.RowKit Go.Wi Go.Wb
theorem Tryz.conv_textR (s : List UInt8) (W : World) : (convert 9 23 (.string ⟨s.toArray⟩)).run Tryz.prog W = .ok (.slice (some ⟨W.heap.size, 0, none⟩) s.length (grownCap W s.length 0 5)) (Lib.bytesWorld W 5 ⟨s.toArray⟩) := by
  have := Lib.run_convert_string_bytes (P := Tryz.prog) W 9 23 5 ⟨s.toArray⟩ (u := .string) Tryz.underlying9 Tryz.underlying23 Tryz.underlying5
  have e : (⟨s.toArray⟩ : ByteArray).size = s.length := by simp [ByteArray.size]
  rw [e] at this
  exact this
/-- What the document's ParseResponse answers. -/
structure Tryz.RefPar (w w' : World) (s : List UInt8) (e : Ending) : Prop where
  ex : ∃ ah ch ab cb, e = .returned (.tuple #[.agg #[.int .i64 ((ansP s).1 : Nat), .slice ah (ansP s).2.1.length ch, .slice ab (ansP s).2.2.1.length cb, .bool (ansP s).2.2.2.1], .int .i64 ((ansP s).2.2.2.2 : Nat), .int .i64 (Wb.plc (rd newRes s).1 : Nat), .int .i64 ((rd newRes s).1.fErr : Nat)]) ∧
    Hs w' (.slice ah (ansP s).2.1.length ch) (ansP s).2.1 ∧ Bs w' (.slice ab (ansP s).2.2.1.length cb) (ansP s).2.2.1 ∧ (∀ k, (Value.slice ab (ansP s).2.2.1.length cb).ownBlock = some k → k < w'.heap.size)
  bel : Below w.heap.size w w'
set_option maxRecDepth 20000 in
set_option maxHeartbeats 4000000 in
theorem Tryz.refParse_any {w : World} {s : List UInt8} (hs47 : s.length ≤ 140737488355328) :
    Calls Tryz.prog 23 #[.string ⟨s.toArray⟩] w fun e w' => Tryz.RefPar w w' s e := by
  cases hd : deadR (resD s) with
  | true =>
    obtain ⟨a, ea⟩ : ∃ a, (codes (resD s)).1 = a := ⟨_, rfl⟩
    obtain ⟨er, ee⟩ : ∃ er, (codes (resD s)).2 = er := ⟨_, rfl⟩
    have kr : ∀ W, Calls Tryz.prog 47 #[.string ⟨s.toArray⟩, .int .i64 0, .bool true] W fun e w' => e = .returned (.tuple #[.agg (mCells [] [] 0 0 (.slice none 0 0) [] false), .int .i64 0, .int .i64 a, .int .i64 er, .bool false]) ∧ Below W.heap.size W w' ∧ Hid (ansP s = (0, [], [], false, 0) ∧ Wb.plc (rd newRes s).1 = a ∧ (rd newRes s).1.fErr = er) := fun W => by
      refine (Tryz.readResp_any hs47).mono ?_
      rintro e w1 ⟨C, en, at_, er', wh, rfl, hr⟩
      obtain ⟨rfl, rfl, rfl, rfl, rfl, hz⟩ := hr.dead hd
      refine ⟨?_, hr.bel, ?_⟩
      · rw [ea, ee]; rfl
      · have := ans_dead hd hz
        rw [ea, ee] at this
        exact this
    clear hd ea ee
    go_enter Tryz.func23, Tryz.ntmps23
    go_upto_region 1 with (fail)
    generalize hW : w.alloc _ = W0
    have HBX : Hid (W0.heap[w.heap.size]? = some (.cells #[.int .i64 0, .slice none 0 0, .slice none 0 0, .bool false] 27 (0, 0))) := (by show W0.heap[w.heap.size]? = _; rw [← hW]; exact heap_alloc_new w _)
    have HB0 : Hid (Below w.heap.size w W0) := (by show Below _ _ _; rw [← hW]; exact (Below.refl _ w).alloc (Nat.le_refl _) _)
    clear hW
    have k1 := kr W0
    clear kr
    go_upto_region 2 with (first
      | (go_at_call 47; refine k1.mono ?_; clear k1; rintro e w1 ⟨rfl, hb1, HA⟩)
      | fail)
    generalize hW1 : w1.alloc _ = W1
    have hb2 : Below w1.heap.size w1 W1 := (by rw [← hW1]; exact (Below.refl _ w1).alloc (Nat.le_refl _) _)
    clear hW1
    have hlt0 := block_lt HBX.out
    have hx := (hb2.block _ (Nat.lt_of_lt_of_le hlt0 hb1.size)).trans ((hb1.block _ hlt0).trans HBX.out)
    have HB1 : Hid (Below w.heap.size w W1) := HB0.out.trans ((hb1.trans (hb2.mono hb1.size)).mono HB0.out.size)
    have b0 : W1.cell? ⟨w.heap.size, 0, none⟩ = some (.int .i64 0) := cell_of_row _ _ 0 _ _ _ hx
    have b1 : W1.cell? ⟨w.heap.size, 1, none⟩ = some (.slice none 0 0) := cell_of_row _ _ 1 _ _ _ hx
    have b2 : W1.cell? ⟨w.heap.size, 2, none⟩ = some (.slice none 0 0) := cell_of_row _ _ 2 _ _ _ hx
    have b3 : W1.cell? ⟨w.heap.size, 3, none⟩ = some (.bool false) := cell_of_row _ _ 3 _ _ _ hx
    have z0 := frozen_of_row _ _ 0 _ _ hx
    have z1 := frozen_of_row _ _ 1 _ _ hx
    have z2 := frozen_of_row _ _ 2 _ _ hx
    have z3 := frozen_of_row _ _ 3 _ _ hx
    have HX : Hid _ := hx
    clear hx hb1 hb2 HBX HB0 hlt0
    go_wp2
    have e0 := heap_setCell_same W1 w.heap.size 0 _ _ (.int .i64 0) HX.out
    have e1 := heap_setCell_same _ w.heap.size 1 _ _ (.slice none 0 0) e0
    have e2 := heap_setCell_same _ w.heap.size 2 _ _ (.slice none 0 0) e1
    have e3 := heap_setCell_same _ w.heap.size 3 _ _ (.bool false) e2
    refine bodyPost_ret (Wb.results_row3 rfl _ _ w.heap.size _ _ _ _ rfl e3 Tryz.underlying27 rfl (by kernel_rfl)) rfl ?_
    obtain ⟨ha, hp, hf⟩ := HA.out
    refine ⟨⟨none, 0, none, 0, ?_, ?_, ?_, ?_⟩, ?_⟩
    · rw [ha, hp, hf]; rfl
    · rw [ha]; exact ⟨⟨none, 0, rfl, .inl rfl⟩, .inl rfl⟩
    · rw [ha]; exact ⟨none, 0, rfl, Nat.le_refl _, fun _ => rfl, .inl rfl⟩
    · intro k e; cases e
    · exact (((HB1.out.setCell (p := ⟨w.heap.size, 0, none⟩) (Nat.le_refl _) _).setCell (p := ⟨w.heap.size, 1, none⟩) (Nat.le_refl _) _).setCell (p := ⟨w.heap.size, 2, none⟩) (Nat.le_refl _) _).setCell (p := ⟨w.heap.size, 3, none⟩) (Nat.le_refl _) _
  | false =>
    obtain ⟨z, r, k, hz⟩ : ∃ z r k, resD s = .ok z r k := by
      cases h : resD s with
      | bad a e => rw [h] at hd; cases hd
      | more => rw [h] at hd; cases hd
      | ok z r k => exact ⟨z, r, k, rfl⟩
    obtain ⟨stt, e1⟩ : ∃ x, z.1.2.1 = x := ⟨_, rfl⟩
    obtain ⟨ver, e2⟩ : ∃ x, z.1.1 = x := ⟨_, rfl⟩
    obtain ⟨H, e3⟩ : ∃ x, z.1.2.2.map hdOf = x := ⟨_, rfl⟩
    obtain ⟨bo, e4⟩ : ∃ x, z.2.2.1 = x := ⟨_, rfl⟩
    obtain ⟨la, e5⟩ : ∃ x, endsD (z.1.2.2.map hdOf) (decide (z.1.1 = 11)) = x := ⟨_, rfl⟩
    have kr : ∀ W, Calls Tryz.prog 47 #[.string ⟨s.toArray⟩, .int .i64 0, .bool true] W fun e w' => ∃ ad cap, e = .returned (.tuple #[.agg (mCells [] [] stt ver (.slice ad H.length cap) bo la), .int .i64 k, .int .i64 0, .int .i64 0, .bool true]) ∧ Below W.heap.size W w' ∧ Hid (w'.ownsRow W.heap.size 57 2 (.slice ad H.length cap) H.length (hdCells H)) ∧ Hid (ansP s = (stt, H, bo, la, k) ∧ Wb.plc (rd newRes s).1 = 0 ∧ (rd newRes s).1.fErr = 0) := fun W => by
      refine (Tryz.readResp_any hs47).mono ?_
      rintro e w1 ⟨C, en, at_, er', wh, rfl, hr⟩
      obtain ⟨rfl, rfl, rfl, rfl, ⟨ad, cap, rfl, hrow⟩, hk⟩ := hr.live _ _ _ hz
      refine ⟨ad, cap, ?_, hr.bel, ?_, ?_⟩
      · rw [e1, e2, e3, e4, ← e5, e3, e2]; rfl
      · rw [← e3]; exact hrow
      · have := ans_live hz hk
        rw [e1, e5, e3, e4] at this
        exact this
    clear hd hz e1 e2 e3 e4 e5
    go_enter Tryz.func23, Tryz.ntmps23
    go_upto_region 1 with (fail)
    generalize hW : w.alloc _ = W0
    have HBX : Hid (W0.heap[w.heap.size]? = some (.cells #[.int .i64 0, .slice none 0 0, .slice none 0 0, .bool false] 27 (0, 0))) := (by show W0.heap[w.heap.size]? = _; rw [← hW]; exact heap_alloc_new w _)
    have HB0 : Hid (Below w.heap.size w W0) := (by show Below _ _ _; rw [← hW]; exact (Below.refl _ w).alloc (Nat.le_refl _) _)
    clear hW
    have k1 := kr W0
    clear kr
    go_upto_region 2 with (first
      | (go_at_call 47; refine k1.mono ?_; clear k1; rintro e w1 ⟨ad, cap, rfl, hb1, HR, HA⟩)
      | fail)
    obtain ⟨gm, hgm⟩ : ∃ g, w1.heap.size = g := ⟨_, rfl⟩
    generalize hW1 : w1.alloc _ = W1
    have hb2 : Below w1.heap.size w1 W1 := (by rw [← hW1]; exact (Below.refl _ w1).alloc (Nat.le_refl _) _)
    have hm : W1.heap[gm]? = some (.cells (mCells [] [] stt ver (.slice ad H.length cap) bo la) 99 (0, 0)) := (by rw [← hW1, ← hgm]; exact heap_alloc_new w1 _)
    rw [hgm]
    clear hW1
    have m2 : W1.cell? ⟨gm, 2, none⟩ = some (.int .i64 stt) := cell_of_row _ _ 2 _ _ _ hm
    have m4 : W1.cell? ⟨gm, 4, none⟩ = some (.slice ad H.length cap) := cell_of_row _ _ 4 _ _ _ hm
    have m5 : W1.cell? ⟨gm, 5, none⟩ = some (.string ⟨bo.toArray⟩) := cell_of_row _ _ 5 _ _ _ hm
    have hb3 := bytesW_below W1 5 ⟨bo.toArray⟩
    have m6 : (Lib.bytesWorld W1 5 ⟨bo.toArray⟩).cell? ⟨gm, 6, none⟩ = some (.bool la) := (hb3.cell (p := ⟨gm, 6, none⟩) (block_lt hm)).trans (cell_of_row _ _ 6 _ _ _ hm)
    have hcv := Tryz.conv_textR bo W1
    have hlt0 := block_lt HBX.out
    have hb13 := (hb1.trans (hb2.mono hb1.size)).trans (hb3.mono (Nat.le_trans hb1.size hb2.size))
    have hx := (hb13.block _ hlt0).trans HBX.out
    have HB1 : Hid (Below w.heap.size w (Lib.bytesWorld W1 5 ⟨bo.toArray⟩)) := HB0.out.trans (hb13.mono HB0.out.size)
    have hO := Og.start W1 5 ⟨bo.toArray⟩ (Nat.le_refl _)
    rw [text_size bo] at hO
    have HO : Hid (Og (Lib.bytesWorld W1 5 ⟨bo.toArray⟩) W1.heap.size (.slice (some ⟨W1.heap.size, 0, none⟩) bo.length (grownCap W1 bo.length 0 5)) bo) := hO
    have HR2 : Hid ((Lib.bytesWorld W1 5 ⟨bo.toArray⟩).ownsRow W0.heap.size 57 2 (.slice ad H.length cap) H.length (hdCells H)) := row_keep HR.out fun k e => ((hb2.trans (hb3.mono hb2.size)).block k (HR.out.lt k e).2)
    have HLT : Hid (w.heap.size < W0.heap.size ∧ W0.heap.size ≤ W1.heap.size) := ⟨hlt0, Nat.le_trans hb1.size hb2.size⟩
    obtain ⟨g3, hg3⟩ : ∃ g, W1.heap.size = g := ⟨_, rfl⟩
    obtain ⟨W2, hW2⟩ : ∃ W2, Lib.bytesWorld W1 5 ⟨bo.toArray⟩ = W2 := ⟨_, rfl⟩
    obtain ⟨cb, hcb⟩ : ∃ c, grownCap W1 bo.length 0 5 = c := ⟨_, rfl⟩
    rw [hg3, hW2, hcb] at hcv HO
    rw [hW2] at m6 hx HB1 HR2
    rw [hg3] at HLT
    have b0 : W2.cell? ⟨w.heap.size, 0, none⟩ = some (.int .i64 0) := cell_of_row _ _ 0 _ _ _ hx
    have b1 : W2.cell? ⟨w.heap.size, 1, none⟩ = some (.slice none 0 0) := cell_of_row _ _ 1 _ _ _ hx
    have b2 : W2.cell? ⟨w.heap.size, 2, none⟩ = some (.slice none 0 0) := cell_of_row _ _ 2 _ _ _ hx
    have b3 : W2.cell? ⟨w.heap.size, 3, none⟩ = some (.bool false) := cell_of_row _ _ 3 _ _ _ hx
    have z0 := frozen_of_row _ _ 0 _ _ hx
    have z1 := frozen_of_row _ _ 1 _ _ hx
    have z2 := frozen_of_row _ _ 2 _ _ hx
    have z3 := frozen_of_row _ _ 3 _ _ hx
    have HX : Hid _ := hx
    clear hx hb1 hb2 hb3 hb13 HBX HB0 hlt0 hO hm hg3 hW2 hcb HR hgm
    go_wp2
    have e0 := heap_setCell_same W2 w.heap.size 0 _ _ (.int .i64 stt) HX.out
    have e1 := heap_setCell_same _ w.heap.size 1 _ _ (.slice ad H.length cap) e0
    have e2 := heap_setCell_same _ w.heap.size 2 _ _ (.slice (some ⟨g3, 0, none⟩) bo.length cb) e1
    have e3 := heap_setCell_same _ w.heap.size 3 _ _ (.bool la) e2
    refine bodyPost_ret (Wb.results_row3 rfl _ _ w.heap.size _ _ _ _ rfl e3 Tryz.underlying27 rfl (by kernel_rfl)) rfl ?_
    obtain ⟨ha, hp, hf⟩ := HA.out
    have hl := HLT.out
    have hw : Wo (fun k => k = w.heap.size) W2 ((((W2.setCell ⟨w.heap.size, 0, none⟩ (.int .i64 stt)).setCell ⟨w.heap.size, 1, none⟩ (.slice ad H.length cap)).setCell ⟨w.heap.size, 2, none⟩ (.slice (some ⟨g3, 0, none⟩) bo.length cb)).setCell ⟨w.heap.size, 3, none⟩ (.bool la)) := ((((Wo.refl (fun k => k = w.heap.size) W2).setCell w.heap.size 0 _ (.inl rfl)).setCell w.heap.size 1 _ (.inl rfl)).setCell w.heap.size 2 _ (.inl rfl)).setCell w.heap.size 3 _ (.inl rfl)
    have hO2 := HO.out.keep (w' := ((((W2.setCell ⟨w.heap.size, 0, none⟩ (.int .i64 stt)).setCell ⟨w.heap.size, 1, none⟩ (.slice ad H.length cap)).setCell ⟨w.heap.size, 2, none⟩ (.slice (some ⟨g3, 0, none⟩) bo.length cb)).setCell ⟨w.heap.size, 3, none⟩ (.bool la))) fun k e => hw.block k (HO.out.lt k e).2 (by have := (HO.out.lt k e).1; omega)
    have hR2 := row_keep HR2.out (w' := ((((W2.setCell ⟨w.heap.size, 0, none⟩ (.int .i64 stt)).setCell ⟨w.heap.size, 1, none⟩ (.slice ad H.length cap)).setCell ⟨w.heap.size, 2, none⟩ (.slice (some ⟨g3, 0, none⟩) bo.length cb)).setCell ⟨w.heap.size, 3, none⟩ (.bool la))) fun k e => hw.block k (HR2.out.lt k e).2 (by have := (HR2.out.lt k e).1; omega)
    refine ⟨⟨ad, cap, some ⟨g3, 0, none⟩, cb, ?_, ?_, ?_, ?_⟩, ?_⟩
    · rw [ha, hp, hf]; rfl
    · rw [ha]; exact Hs.ofRow hR2
    · rw [ha]; exact hO2.bs
    · rw [ha]; exact fun k e => (hO2.lt k e).2
    · exact Wo.toBelow HB1.out hw (fun k e => by omega) HB1.out.size
end Go.Proofs
namespace Go.Proofs
open Go.RowKit Go.Wi Go.Wb
set_option maxRecDepth 20000 in
set_option maxHeartbeats 4000000 in
theorem Tryz.read_law {w : World} {lo hi : Nat} {s : List UInt8} (hs47 : s.length ≤ 140737488355328) {r nv ev : Value} (h : Tryz.An w lo hi s r nv ev) (hhi : hi ≤ w.heap.size) :
    Calls Tryz.prog 9 #[.string ⟨s.toArray⟩, r, nv, ev] w fun e w' => e = .returned (.bool true) ∧ Below w.heap.size w w' := by
  have HE : Hid (∀ W, Below w.heap.size w W → Tryz.Ev W (rd newRes s).1 ev) := fun W hW => Tryz.An.err (Tryz.An.keep h fun k _ e => hW.block k (by omega))
  obtain ⟨ah, ch, ab, cb, rfl, rfl, h3, h4, h5, h6⟩ := h.ex
  have hsm := ans_small (s := s)
  have k1 : ∀ W, Calls Tryz.prog 23 #[.string ⟨s.toArray⟩] W fun e w' => Tryz.RefPar W w' s e := fun W => Tryz.refParse_any hs47
  obtain ⟨A, hA⟩ : ∃ A, ansP s = A := ⟨_, rfl⟩
  obtain ⟨stt, H, bo, la, n⟩ := A
  obtain ⟨m, hm⟩ : ∃ m, (rd newRes s).1 = m := ⟨_, rfl⟩
  have kr : ∀ W, Calls Tryz.prog 23 #[.string ⟨s.toArray⟩] W fun e w' => ∃ ah' ch' ab' cb', e = .returned (.tuple #[.agg #[.int .i64 (stt : Nat), .slice ah' H.length ch', .slice ab' bo.length cb', .bool la], .int .i64 (n : Nat), .int .i64 (Wb.plc m : Nat), .int .i64 (m.fErr : Nat)]) ∧ Hid (Hs w' (.slice ah' H.length ch') H ∧ Bs w' (.slice ab' bo.length cb') bo ∧ ∀ k, (Value.slice ab' bo.length cb').ownBlock = some k → k < w'.heap.size) ∧ Hid (Below W.heap.size W w') := fun W => by
    refine (k1 W).mono ?_
    rintro e w' ⟨⟨ah', ch', ab', cb', h1, h2, h3, h4⟩, hb⟩
    rw [hm] at h1
    simp only [hA] at h1 h2 h3 h4
    exact ⟨ah', ch', ab', cb', h1, ⟨h2, h3, h4⟩, hb⟩
  rw [hm] at HE
  simp only [hA] at h3 h4 h5 h6 hsm ⊢
  have HHs : Hid (∀ W, Below w.heap.size w W → Hs W (.slice ah H.length ch) H) := fun W hW => (Hs.ofRow h3).below hW
  have HBs : Hid (∀ W, Below w.heap.size w W → Bs W (.slice ab bo.length cb) bo) := fun W hW => (Bs.ofRow h4).below hW fun k e => (h4.lt k e).2
  have hHl : H.length ≤ 9223372036854775807 := by omega
  obtain ⟨pl, hpl⟩ : ∃ p, Wb.plc m = p := ⟨_, rfl⟩
  obtain ⟨fe, hfe⟩ : ∃ p, m.fErr = p := ⟨_, rfl⟩
  have KF : Hid (∀ W, Below w.heap.size w W → Calls Tryz.prog 24 #[ev] W fun e w' => e = .returned (.tuple #[.int .i64 (pl : Nat), .int .i64 (fe : Nat), .bool true]) ∧ Hid (Below W.heap.size W w')) := fun W hW => (by
    have := Tryz.fault_any (HE.out W hW)
    rw [hpl, hfe] at this
    refine this.mono ?_
    rintro e w' ⟨rfl, k, rfl⟩
    exact ⟨rfl, belowN (Below.refl _ W) k⟩)
  rw [hpl, hfe] at kr
  clear k1 h h3 h4 h5 h6 hsm hA hm hpl hfe HE hhi
  go_enter Tryz.func9, Tryz.ntmps9
  go_upto_region 1 with (fail)
  obtain ⟨g5, hg5⟩ : ∃ g, w.heap.size = g := ⟨_, rfl⟩
  generalize hW : w.alloc _ = W0
  have hb0 : Below w.heap.size w W0 := by rw [← hW]; exact (Below.refl _ w).alloc (Nat.le_refl _) _
  have hx0 : W0.heap[g5]? = some (.cells #[.int .i64 (stt : Nat), .slice ah H.length ch, .slice ab bo.length cb, .bool la] 27 (0, 0)) := by rw [← hW, ← hg5]; exact heap_alloc_new w _
  rw [hg5]
  have HB0 : Hid (Below w.heap.size w W0) := hb0
  have HX0 : Hid (W0.heap[g5]? = some (.cells #[.int .i64 (stt : Nat), .slice ah H.length ch, .slice ab bo.length cb, .bool la] 27 (0, 0))) := hx0
  have k1 := kr W0
  clear hW hb0 hx0 kr hg5
  go_upto_region 2 with (first
    | (go_at_call 23; refine k1.mono ?_; clear k1; rintro e w1 ⟨ah', ch', ab', cb', rfl, HR, HB1⟩)
    | fail)
  obtain ⟨g9, hg9⟩ : ∃ g, w1.heap.size = g := ⟨_, rfl⟩
  generalize hW : w1.alloc _ = W1
  have hb2 : Below w1.heap.size w1 W1 := by rw [← hW]; exact (Below.refl _ w1).alloc (Nat.le_refl _) _
  have hx9 : W1.heap[g9]? = some (.cells #[.int .i64 (stt : Nat), .slice ah' H.length ch', .slice ab' bo.length cb', .bool la] 27 (0, 0)) := by rw [← hW, ← hg9]; exact heap_alloc_new w1 _
  rw [hg9]
  have hx5 := ((HB1.out.trans (hb2.mono HB1.out.size)).block _ (block_lt HX0.out)).trans HX0.out
  have hbw : Below w.heap.size w W1 := HB0.out.trans ((HB1.out.trans (hb2.mono HB1.out.size)).mono HB0.out.size)
  have HBW : Hid (∀ W, Below W1.heap.size W1 W → Below w.heap.size w W) := fun W hW => hbw.trans (hW.mono hbw.size)
  have HC : Hid (∀ W, Below W1.heap.size W1 W → (W.cell? ⟨g5, 0, none⟩ = some (.int .i64 (stt : Nat)) ∧ W.cell? ⟨g5, 1, none⟩ = some (.slice ah H.length ch) ∧ W.cell? ⟨g5, 2, none⟩ = some (.slice ab bo.length cb) ∧ W.cell? ⟨g5, 3, none⟩ = some (.bool la)) ∧ W.cell? ⟨g9, 0, none⟩ = some (.int .i64 (stt : Nat)) ∧ W.cell? ⟨g9, 1, none⟩ = some (.slice ah' H.length ch') ∧ W.cell? ⟨g9, 2, none⟩ = some (.slice ab' bo.length cb') ∧ W.cell? ⟨g9, 3, none⟩ = some (.bool la)) := fun W hW => (by
    have e5 := (hW.block g5 (block_lt hx5)).trans hx5
    have e9 := (hW.block g9 (block_lt hx9)).trans hx9
    exact ⟨⟨cell_of_row _ _ 0 _ _ _ e5, cell_of_row _ _ 1 _ _ _ e5, cell_of_row _ _ 2 _ _ _ e5, cell_of_row _ _ 3 _ _ _ e5⟩, cell_of_row _ _ 0 _ _ _ e9, cell_of_row _ _ 1 _ _ _ e9, cell_of_row _ _ 2 _ _ _ e9, cell_of_row _ _ 3 _ _ _ e9⟩)
  have KH : Hid (∀ W, Below W1.heap.size W1 W → Calls Tryz.prog 25 #[.slice ah H.length ch, .slice ah' H.length ch'] W fun e w' => e = .returned (.bool true) ∧ Hid (Below W.heap.size W w')) := fun W hW => (by
    refine (Tryz.headers_same (HHs.out W (HBW.out W hW)) (HR.out.1.below (hb2.trans (hW.mono hb2.size))) hHl).mono ?_
    rintro e w' ⟨rfl, k, rfl⟩
    exact ⟨rfl, belowN (Below.refl _ W) k⟩)
  have KV : Hid (∀ W, Below W1.heap.size W1 W → (convert 23 9 (.slice ab bo.length cb)).run Tryz.prog W = .ok (.string ⟨bo.toArray⟩) W ∧ (convert 23 9 (.slice ab' bo.length cb')).run Tryz.prog W = .ok (.string ⟨bo.toArray⟩) W) := fun W hW => ⟨Tryz.conv_bs (HBs.out W (HBW.out W hW)), Tryz.conv_bs (HR.out.2.1.below (hb2.trans (hW.mono hb2.size)) HR.out.2.2)⟩
  have k2 := KF.out W1 (HBW.out W1 (Below.refl _ _))
  clear hW hb2 hx9 hx5 hbw HHs HBs HR HB0 HB1 HX0 hg9 KF
  go_wp2_with (first
    | (go_at_call 24; refine k2.mono ?_; clear k2; rintro e w2 ⟨rfl, HB2⟩; obtain ⟨⟨p0, p1, p2, p3⟩, q0, q1, q2, q3⟩ := HC.out w2 HB2.out; have k3 := KH.out w2 HB2.out; clear KH)
    | (go_at_call 25; refine k3.mono ?_; clear k3 p0 p1 p2 p3 q0 q1 q2 q3; rintro e w3 ⟨rfl, HB3⟩; have HB4 : Hid (Below W1.heap.size W1 w3) := HB2.out.trans (HB3.out.mono HB2.out.size); obtain ⟨⟨p0, p1, p2, p3⟩, q0, q1, q2, q3⟩ := HC.out w3 HB4.out; obtain ⟨v1, v2⟩ := KV.out w3 HB4.out; clear HC KV HB2 HB3)
    | fail)
  go_ret
  exact ⟨rfl, HBW.out _ HB4.out⟩
end Go.Proofs
