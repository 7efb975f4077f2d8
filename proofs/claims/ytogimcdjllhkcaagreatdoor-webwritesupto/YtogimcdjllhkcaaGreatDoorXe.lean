/-
  fail, refuse, part, keep.
-/
import Derived.Test.YtogimcdjllhkcaaGreatDoorXd
import Derived.Laws.EntriesVeiled
import Derived.Deep.MidRow
import Derived.Deep.DeepCutAuto
namespace Go.Proofs
open Go.RowKit Go.Wi Go.Wb
/-- What a state function answers. -/
def Tryz.stV (s : St) : Value := .agg #[Tryz.tkV s.1, Tryz.thV s.2]
theorem Tryz.ret_st {fn : Func} {p : Tmp} (h : fn.results = #[.cell p 69]) {tmps : Array Value} {W : World} {g : Nat} {x y : Value} (hp : tmps.getD p undef = .pointer (some ⟨g, 0, none⟩)) (hg : W.heap[g]? = some (.cells #[x, y] 69 (0, 0))) : (results fn tmps).run Tryz.prog W = .ok (.agg #[x, y]) W :=
  results_cell_row h _ _ g _ _ _ _ hp hg Tryz.underlying69 rfl (by kernel_rfl)
/-- In the midst of a state function that was called at w: the world is W, the box for its answer lies at g. -/
structure Tryz.Bx (T : TypeId) (own : Nat → Prop) (w W : World) (b g : Nat) (m : Msg) : Prop where
  ms : ∃ own', Tryz.Ms T W own' b m ∧ (∀ k, own' k → own k ∨ w.heap.size ≤ k) ∧ ¬ own' g
  box : W.heap[g]? = some (.cells #[.nilFunc, .nilFunc] 69 (0, 0))
  wo : Wo own w W
  gl : w.heap.size ≤ g
theorem Tryz.Bx.start {T : TypeId} {own : Nat → Prop} {w : World} {b : Nat} {m : Msg} (h : Tryz.Ms T w own b m) : Tryz.Bx T own w (w.alloc (.cells #[.nilFunc, .nilFunc] 69)) b w.heap.size m := by
  have hb : Below w.heap.size w (w.alloc (.cells #[.nilFunc, .nilFunc] 69)) := (Below.refl _ w).alloc (Nat.le_refl _) _
  refine ⟨⟨own, h.below hb, fun _ e => .inl e, fun e => ?_⟩, heap_alloc_new w _, Wo.ofBelow hb, Nat.le_refl _⟩
  obtain ⟨aw, cw, ah, ch, ab, cb, h1⟩ := h.ex
  exact absurd (h1.lt _ e) (Nat.lt_irrefl _)
theorem Tryz.Bx.ne {T : TypeId} {own : Nat → Prop} {w W : World} {b g : Nat} {m : Msg} (h : Tryz.Bx T own w W b g m) : b ≠ g := by
  obtain ⟨own', ⟨aw, cw, ah, ch, ab, cb, h1⟩, h2, h3⟩ := h.ms
  exact fun e => h3 (e ▸ h1.ob)
theorem Tryz.Bx.cell {T : TypeId} {own : Nat → Prop} {w W : World} {b g : Nat} {m : Msg} (h : Tryz.Bx T own w W b g m) (i : Nat) (v : Value) (hv : ∀ Vw Vh Vb, (Tryz.mc m Vw Vh Vb)[i]? = some v) : W.cell? ⟨b, i, none⟩ = some v := by
  obtain ⟨own', ⟨aw, cw, ah, ch, ab, cb, h1⟩, h2, h3⟩ := h.ms
  rw [cell_of_row _ _ i _ _ _ h1.blk, hv]
theorem Tryz.Bx.frozen {T : TypeId} {own : Nat → Prop} {w W : World} {b g : Nat} {m : Msg} (h : Tryz.Bx T own w W b g m) (i : Nat) : W.frozen? ⟨b, i, none⟩ = false := by
  obtain ⟨own', ⟨aw, cw, ah, ch, ab, cb, h1⟩, h2, h3⟩ := h.ms
  exact frozen_of_row _ _ i _ _ h1.blk
theorem Tryz.Bx.boxc {T : TypeId} {own : Nat → Prop} {w W : World} {b g : Nat} {m : Msg} (h : Tryz.Bx T own w W b g m) : W.cell? ⟨g, 0, none⟩ = some .nilFunc ∧ W.cell? ⟨g, 1, none⟩ = some .nilFunc ∧ W.frozen? ⟨g, 0, none⟩ = false ∧ W.frozen? ⟨g, 1, none⟩ = false :=
  ⟨cell_of_row _ _ 0 _ _ _ h.box, cell_of_row _ _ 1 _ _ _ h.box, frozen_of_row _ _ 0 _ _ h.box, frozen_of_row _ _ 1 _ _ h.box⟩
theorem Tryz.Bx.set {T : TypeId} {own : Nat → Prop} {w W : World} {b g : Nat} {m : Msg} (h : Tryz.Bx T own w W b g m) (i : Nat) (v : Value) (m' : Msg)
    (hc : ∀ Vw Vh Vb, (Tryz.mc m Vw Vh Vb).setIfInBounds i v = Tryz.mc m' Vw Vh Vb) (hw : m'.word = m.word) (hh : m'.headers = m.headers) (hb : m'.body = m.body) : Tryz.Bx T own w (W.setCell ⟨b, i, none⟩ v) b g m' := by
  obtain ⟨own', h1, h2, h3⟩ := h.ms
  have hob : own' b := by obtain ⟨aw, cw, ah, ch, ab, cb, h4⟩ := h1.ex; exact h4.ob
  refine ⟨⟨own', h1.set i v m' hc hw hh hb, h2, h3⟩, (Below.heap_setCell W ⟨b, i, none⟩ _ g (fun e => h.ne (by simpa using e.symm))).trans h.box, h.wo.setCell b i v (h2 b hob), h.gl⟩
/-- A call on the message, or one that leaves it as it is. -/
theorem Tryz.Bx.chg {T : TypeId} {own own' : Nat → Prop} {w W W' : World} {b g : Nat} {m m' : Msg} (h : Tryz.Bx T own w W b g m) (ho : ∀ k, own' k → own k ∨ w.heap.size ≤ k) (hg : ¬ own' g) (hc : Tryz.MChg T own' W W' b m') : Tryz.Bx T own w W' b g m' := by
  obtain ⟨own2, h1, h2⟩ := hc.ex
  have hgl : g < W.heap.size := block_lt h.box
  have hs := h.wo.size
  refine ⟨⟨own2, h1, fun k e => ?_, fun e => ?_⟩, (hc.wo.block g hgl hg).trans h.box, h.wo.step ho hc.wo, h.gl⟩
  · rcases h2 k e with e1 | e1
    · exact ho k e1
    · exact .inr (by omega)
  · rcases h2 g e with e1 | e1
    · exact hg e1
    · omega
theorem Tryz.Bx.below {T : TypeId} {own : Nat → Prop} {w W W' : World} {b g : Nat} {m : Msg} (h : Tryz.Bx T own w W b g m) (hb : Below W.heap.size W W') : Tryz.Bx T own w W' b g m := by
  obtain ⟨own', h1, h2, h3⟩ := h.ms
  exact ⟨⟨own', h1.below hb, h2, h3⟩, (hb.block g (block_lt h.box)).trans h.box, h.wo.below hb h.wo.size, h.gl⟩
/-- The end: the answer lies in its box. -/
theorem Tryz.Bx.ret {T : TypeId} {own : Nat → Prop} {w W : World} {b g : Nat} {m : Msg} (h : Tryz.Bx T own w W b g m) (x y : Value) :
    ((W.setCell ⟨g, 0, none⟩ x).setCell ⟨g, 1, none⟩ y).heap[g]? = some (.cells #[x, y] 69 (0, 0)) ∧ Tryz.MChg T own w ((W.setCell ⟨g, 0, none⟩ x).setCell ⟨g, 1, none⟩ y) b m := by
  obtain ⟨own', h1, h2, h3⟩ := h.ms
  have e1 := heap_setCell_same W g 0 _ _ x h.box
  have e2 := heap_setCell_same _ g 1 _ _ y e1
  refine ⟨e2, ⟨⟨own', h1.keep (fun k e => ?_) (by simp), h2⟩, (h.wo.setCell g 0 x (.inr h.gl)).setCell g 1 y (.inr h.gl)⟩⟩
  have hk : k ≠ g := fun e' => h3 (e' ▸ e)
  exact (Below.heap_setCell _ ⟨g, 1, none⟩ y k (fun e => hk (by simpa using e))).trans (Below.heap_setCell W ⟨g, 0, none⟩ x k (fun e => hk (by simpa using e)))
set_option maxHeartbeats 1000000 in
theorem Tryz.statusFollows_any {T : TypeId} {w : World} {own : Nat → Prop} {b : Nat} {m : Msg} (h : Tryz.Ms T w own b m) :
    Calls Tryz.prog 57 #[.pointer (some ⟨b, 0, none⟩)] w fun e w' => e = .returned (Tryz.stV (statusFollows m).1) ∧ Tryz.MChg T own w w' b (statusFollows m).2 := by
  have hB := Tryz.Bx.start h
  obtain ⟨bc0, bc1, bf0, bf1⟩ := hB.boxc
  have HB : Hid _ := hB
  go_enter Tryz.func57, Tryz.ntmps57
  go_upto_region 1 with (fail)
  generalize w.heap.size = g at *
  generalize w.alloc _ = W at *
  go_wp2
  obtain ⟨r1, r2⟩ := HB.out.ret (Tryz.tkV .blankA) (Tryz.thV .no)
  exact bodyPost_ret (Tryz.ret_st rfl rfl r1) rfl ⟨rfl, r2⟩
section
variable {P : Program} {ops : Array Oper} {Q : Exit → Act → World → Prop} {a : Act} {w w' : World} {rest : List Oper} {o : Oper}
/-- An operation that gives a value. -/
theorem Wb.step_value (hg : o.guard = none) {v : Value} (he : (execOp a.eval o).run P w = .ok (.value v) w') (h : wpList P ops Q rest (a.put o.dst v) w') : wpList P ops Q (o :: rest) a w :=
  wpList_plain hg fun K hK => by
    unfold Oper.wp
    rw [he]
    exact hK _ _ h
end
/-- A message, as the cells of a row. -/
theorem Tryz.Ms.there {T : TypeId} {w : World} {own : Nat → Prop} {b : Nat} {m : Msg} (h : Tryz.Ms T w own b m) : w.there b 0 22 := by
  obtain ⟨aw, cw, ah, ch, ab, cb, h1⟩ := h.ex
  intro j hj
  rw [Nat.zero_add]
  have hsz : (Tryz.mc m (.slice aw m.word.length cw) (.slice ah m.headers.length ch) (.slice ab m.body.length cb)).size = 22 := rfl
  exact ⟨by rw [cell_of_row _ _ j _ _ _ h1.blk, Array.getElem?_eq_getElem (by rw [hsz]; exact hj)]; simp, frozen_of_row _ _ j _ _ h1.blk⟩
theorem Wb.setCells_row (b : Nat) (T : TypeId) : ∀ (vs : List Value) (o : Nat) (w : World) (cs : Array Value), w.heap[b]? = some (.cells cs T (0, 0)) → o + vs.length ≤ cs.size → (w.setCells b o vs).heap[b]? = some (.cells (cs.toList.take o ++ vs ++ cs.toList.drop (o + vs.length)).toArray T (0, 0))
  | [], o, w, cs, h, _ => by
    show w.heap[b]? = _
    rw [h]; simp
  | v :: r, o, w, cs, h, hl => by
    rw [List.length_cons] at hl
    have h1 := heap_setCell_same w b o cs T v h
    have h2 := setCells_row b T r (o + 1) _ _ h1 (by rw [Array.size_setIfInBounds]; omega)
    show ((w.setCell ⟨b, o, none⟩ v).setCells b (o + 1) r).heap[b]? = _
    rw [h2]
    congr 1
    congr 1
    rw [Array.toList_setIfInBounds, List.length_cons]
    have ho : o < cs.toList.length := by rw [Array.length_toList]; omega
    rw [List.take_set, List.drop_set_of_lt (by omega), List.take_add_one, List.getElem?_eq_getElem ho]
    simp only [Option.toList_some]
    rw [List.set_append_right _ _ (by rw [List.length_take]; omega), show o - (cs.toList.take o).length = 0 by rw [List.length_take]; omega]
    simp [show o + 1 + r.length = o + (r.length + 1) by omega]
theorem Wb.setCells_wo {own : Nat → Prop} (b : Nat) (hb : own b) : ∀ (vs : List Value) (o : Nat) (w w1 : World), Wo own w w1 → Wo own w (w1.setCells b o vs)
  | [], _, _, _, h => h
  | v :: r, o, w, _w1, h => setCells_wo b hb r (o + 1) w _ (h.setCell b o v (.inl hb))
theorem Wb.setCells_other (b : Nat) {k : Nat} (hk : k ≠ b) : ∀ (vs : List Value) (o : Nat) (w : World), (w.setCells b o vs).heap[k]? = w.heap[k]?
  | [], _, _ => rfl
  | v :: r, o, w => (setCells_other b hk r (o + 1) _).trans (Below.heap_setCell w ⟨b, o, none⟩ v k (fun e => hk (by simpa using e)))
/-- All cells of a message are laid anew. -/
theorem Tryz.Ms.renew {T : TypeId} {w : World} {own : Nat → Prop} {b : Nat} {m : Msg} (h : Tryz.Ms T w own b m) (m' : Msg) (hw : m'.word = []) (hh : m'.headers = []) (hb : m'.body = []) : Tryz.Ms T (w.setCells b 0 (Tryz.mc m' (.slice none 0 0) (.slice none 0 0) (.slice none 0 0)).toList) own b m' ∧ Wo own w (w.setCells b 0 (Tryz.mc m' (.slice none 0 0) (.slice none 0 0) (.slice none 0 0)).toList) := by
  obtain ⟨aw, cw, ah, ch, ab, cb, h1⟩ := h.ex
  have hwo := Wb.setCells_wo b h1.ob (Tryz.mc m' (.slice none 0 0) (.slice none 0 0) (.slice none 0 0)).toList 0 w w (Wo.refl own w)
  have hr := Wb.setCells_row b T (Tryz.mc m' (.slice none 0 0) (.slice none 0 0) (.slice none 0 0)).toList 0 w _ h1.blk (Nat.le_of_eq rfl)
  refine ⟨⟨none, 0, none, 0, none, 0, ?_, ?_, ?_, ?_, (fun k e => by cases e), (fun k e => by cases e), (fun k e => by cases e), h1.ob, fun k e => Nat.lt_of_lt_of_le (h1.lt k e) hwo.size⟩, hwo⟩
  · rw [hr, hw, hh, hb]; rfl
  · rw [hw]; exact World.ownsRow_nil _ _ _ _
  · rw [hh]; exact World.ownsRow_nil _ _ _ _
  · rw [hb]; exact World.ownsRow_nil _ _ _ _
theorem Tryz.Bx.renew {T : TypeId} {own : Nat → Prop} {w W : World} {b g : Nat} {m : Msg} (h : Tryz.Bx T own w W b g m) (m' : Msg) (hw : m'.word = []) (hh : m'.headers = []) (hb : m'.body = []) : Tryz.Bx T own w (W.setCells b 0 (Tryz.mc m' (.slice none 0 0) (.slice none 0 0) (.slice none 0 0)).toList) b g m' := by
  obtain ⟨own', h1, h2, h3⟩ := h.ms
  obtain ⟨h4, h5⟩ := h1.renew m' hw hh hb
  exact ⟨⟨own', h4, h2, h3⟩, (Wb.setCells_other b h.ne.symm _ _ _).trans h.box, h.wo.step h2 h5, h.gl⟩
theorem Tryz.Bx.there {T : TypeId} {own : Nat → Prop} {w W : World} {b g : Nat} {m : Msg} (h : Tryz.Bx T own w W b g m) : W.there b 0 22 := by
  obtain ⟨own', h1, h2, h3⟩ := h.ms
  exact h1.there
set_option maxHeartbeats 1000000 in
theorem Tryz.fail_any {T : TypeId} {w : World} {own : Nat → Prop} {b : Nat} {m : Msg} (h : Tryz.Ms T w own b m) (a e : Nat) :
    Calls Tryz.prog 71 #[.pointer (some ⟨b, 0, none⟩), .int .i64 a, .int .i64 e] w fun e1 w' => e1 = .returned (Tryz.stV (fail m a e).1) ∧ Tryz.MChg T own w w' b (fail m a e).2 := by
  have hB := Tryz.Bx.start h
  have HB : Hid _ := hB
  clear hB
  go_enter Tryz.func71, Tryz.ntmps71
  go_upto_region 1 with (fail)
  generalize w.heap.size = g at *
  generalize w.alloc _ = W at *
  refine wp_region_lit ?_
  refine Wb.step_value rfl (v := .pointer (some ⟨b, 0, none⟩)) (w' := W) (by kernel_rfl) ?_
  refine Wb.step_value rfl (v := .int .i64 a) (w' := W) (by kernel_rfl) ?_
  refine Wb.step_value rfl (v := .int .i64 e) (w' := W) (by kernel_rfl) ?_
  refine Wb.step_value rfl (v := .agg #[.int .i64 a, .int .i64 e]) (w' := W) (by kernel_rfl) ?_
  refine Wb.step_value rfl (v := .agg (Tryz.mc (faulty a e) (.slice none 0 0) (.slice none 0 0) (.slice none 0 0))) (w' := W) (by kernel_rfl) ?_
  refine Wb.step_value rfl (v := .pointer (some ⟨b, 0, none⟩)) (w' := W) (by kernel_rfl) ?_
  refine wpList_store_mid rfl 73 _ _ rfl b 0 _ rfl rfl HB.out.there (by kernel_rfl) (by kernel_rfl) ?_
  have hR := HB.out.renew (faulty a e) rfl rfl rfl
  generalize World.setCells _ _ _ _ = W1 at *
  obtain ⟨bc0, bc1, bf0, bf1⟩ := hR.boxc
  go_wp2
  obtain ⟨r1, r2⟩ := hR.ret (Tryz.tkV .no) (Tryz.thV .no)
  exact bodyPost_ret (Tryz.ret_st rfl rfl r1) rfl ⟨rfl, r2⟩
end Go.Proofs
