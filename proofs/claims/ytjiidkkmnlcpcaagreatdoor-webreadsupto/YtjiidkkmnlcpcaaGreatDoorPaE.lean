/-
  Laid together by packg.py of Xe Xf Xg Xh.
-/
import Derived.Test.YtjiidkkmnlcpcaaGreatDoorPXd
import Derived.Laws.EntriesVeiled
import Derived.Deep.MidRow
import Derived.Deep.DeepCutAuto
import Derived.Deep.RegionWith
namespace Go.Proofs
open Go.RowKit Go.Wi Go.Wb
/-- What a state function answers. -/
def Tryz.stV (s : St) : Value := .agg #[Tryz.tkV s.1, Tryz.thV s.2]
theorem Tryz.ret_st {fn : Func} {p : Tmp} (h : fn.results = #[.cell p 61]) {tmps : Array Value} {W : World} {g : Nat} {x y : Value} (hp : tmps.getD p undef = .pointer (some ⟨g, 0, none⟩)) (hg : W.heap[g]? = some (.cells #[x, y] 61 (0, 0))) : (results fn tmps).run Tryz.prog W = .ok (.agg #[x, y]) W :=
  results_cell_row h _ _ g _ _ _ _ hp hg Tryz.underlying61 rfl (by kernel_rfl)
/-- In the midst of a state function that was called at w: the world is W, the box for its answer lies at g. -/
structure Tryz.Bx (T : TypeId) (own : Nat → Prop) (w W : World) (b g : Nat) (m : Msg) : Prop where
  ms : ∃ own', Tryz.Ms T W own' b m ∧ (∀ k, own' k → own k ∨ w.heap.size ≤ k) ∧ ¬ own' g
  box : W.heap[g]? = some (.cells #[.nilFunc, .nilFunc] 61 (0, 0))
  wo : Wo own w W
  gl : w.heap.size ≤ g
theorem Tryz.Bx.start {T : TypeId} {own : Nat → Prop} {w : World} {b : Nat} {m : Msg} (h : Tryz.Ms T w own b m) : Tryz.Bx T own w (w.alloc (.cells #[.nilFunc, .nilFunc] 61)) b w.heap.size m := by
  have hb : Below w.heap.size w (w.alloc (.cells #[.nilFunc, .nilFunc] 61)) := (Below.refl _ w).alloc (Nat.le_refl _) _
  refine ⟨⟨own, h.below hb, fun _ e => .inl e, fun e => ?_⟩, heap_alloc_new w _, Wo.ofBelow hb, Nat.le_refl _⟩
  obtain ⟨aw, cw, ah, ch, ab, cb, h1⟩ := h.ex
  exact absurd (h1.lt _ e) (Nat.lt_irrefl _)
theorem Tryz.Bx.ne {T : TypeId} {own : Nat → Prop} {w W : World} {b g : Nat} {m : Msg} (h : Tryz.Bx T own w W b g m) : b ≠ g := by
  obtain ⟨own', ⟨aw, cw, ah, ch, ab, cb, h1⟩, h2, h3⟩ := h.ms
  exact fun e => h3 (e ▸ h1.ob)
theorem Tryz.Bx.cell {T : TypeId} {own : Nat → Prop} {w W : World} {b g : Nat} {m : Msg} (h : Tryz.Bx T own w W b g m) (i : Nat) (v : Value) (hv : ∀ Vw Vh Vb, (Tryz.mc m Vw Vh Vb)[i]? = some v) : W.cell? ⟨b, i, none⟩ = some v := by
  obtain ⟨own', ⟨aw, cw, ah, ch, ab, cb, h1⟩, h2, h3⟩ := h.ms
  rw [cell_of_row _ _ i _ _ _ h1.blk, hv]
theorem Tryz.Bx.frozen {T : TypeId} {own : Nat → Prop} {w W : World} {b g : Nat} {m : Msg} (h : Tryz.Bx T own w W b g m) (i : Nat) : W.frozen? ⟨b, i, none⟩ = false := by
  obtain ⟨own', ⟨aw, cw, ah, ch, ab, cb, h1⟩, h2, h3⟩ := h.ms
  exact frozen_of_row _ _ i _ _ h1.blk
theorem Tryz.Bx.boxc {T : TypeId} {own : Nat → Prop} {w W : World} {b g : Nat} {m : Msg} (h : Tryz.Bx T own w W b g m) : W.cell? ⟨g, 0, none⟩ = some .nilFunc ∧ W.cell? ⟨g, 1, none⟩ = some .nilFunc ∧ W.frozen? ⟨g, 0, none⟩ = false ∧ W.frozen? ⟨g, 1, none⟩ = false :=
  ⟨cell_of_row _ _ 0 _ _ _ h.box, cell_of_row _ _ 1 _ _ _ h.box, frozen_of_row _ _ 0 _ _ h.box, frozen_of_row _ _ 1 _ _ h.box⟩
theorem Tryz.Bx.set {T : TypeId} {own : Nat → Prop} {w W : World} {b g : Nat} {m : Msg} (h : Tryz.Bx T own w W b g m) (i : Nat) (v : Value) (m' : Msg)
    (hc : ∀ Vw Vh Vb, (Tryz.mc m Vw Vh Vb).setIfInBounds i v = Tryz.mc m' Vw Vh Vb) (hw : m'.word = m.word) (hh : m'.headers = m.headers) (hb : m'.body = m.body) : Tryz.Bx T own w (W.setCell ⟨b, i, none⟩ v) b g m' := by
  obtain ⟨own', h1, h2, h3⟩ := h.ms
  have hob : own' b := by obtain ⟨aw, cw, ah, ch, ab, cb, h4⟩ := h1.ex; exact h4.ob
  refine ⟨⟨own', h1.set i v m' hc hw hh hb, h2, h3⟩, (Below.heap_setCell W ⟨b, i, none⟩ _ g (fun e => h.ne (by simpa using e.symm))).trans h.box, h.wo.setCell b i v (h2 b hob), h.gl⟩
/-- A call on the message, or one that leaves it as it is. -/
theorem Tryz.Bx.chg {T : TypeId} {own own' : Nat → Prop} {w W W' : World} {b g : Nat} {m m' : Msg} (h : Tryz.Bx T own w W b g m) (ho : ∀ k, own' k → own k ∨ w.heap.size ≤ k) (hg : ¬ own' g) (hc : Tryz.MChg T own' W W' b m') : Tryz.Bx T own w W' b g m' := by
  obtain ⟨own2, h1, h2⟩ := hc.ex
  have hgl : g < W.heap.size := block_lt h.box
  have hs := h.wo.size
  refine ⟨⟨own2, h1, fun k e => ?_, fun e => ?_⟩, (hc.wo.block g hgl hg).trans h.box, h.wo.step ho hc.wo, h.gl⟩
  · rcases h2 k e with e1 | e1
    · exact ho k e1
    · exact .inr (by omega)
  · rcases h2 g e with e1 | e1
    · exact hg e1
    · omega
theorem Tryz.Bx.below {T : TypeId} {own : Nat → Prop} {w W W' : World} {b g : Nat} {m : Msg} (h : Tryz.Bx T own w W b g m) (hb : Below W.heap.size W W') : Tryz.Bx T own w W' b g m := by
  obtain ⟨own', h1, h2, h3⟩ := h.ms
  exact ⟨⟨own', h1.below hb, h2, h3⟩, (hb.block g (block_lt h.box)).trans h.box, h.wo.below hb h.wo.size, h.gl⟩
/-- The end: the answer lies in its box. -/
theorem Tryz.Bx.ret {T : TypeId} {own : Nat → Prop} {w W : World} {b g : Nat} {m : Msg} (h : Tryz.Bx T own w W b g m) (x y : Value) :
    ((W.setCell ⟨g, 0, none⟩ x).setCell ⟨g, 1, none⟩ y).heap[g]? = some (.cells #[x, y] 61 (0, 0)) ∧ Tryz.MChg T own w ((W.setCell ⟨g, 0, none⟩ x).setCell ⟨g, 1, none⟩ y) b m := by
  obtain ⟨own', h1, h2, h3⟩ := h.ms
  have e1 := heap_setCell_same W g 0 _ _ x h.box
  have e2 := heap_setCell_same _ g 1 _ _ y e1
  refine ⟨e2, ⟨⟨own', h1.keep (fun k e => ?_) (by simp), h2⟩, (h.wo.setCell g 0 x (.inr h.gl)).setCell g 1 y (.inr h.gl)⟩⟩
  have hk : k ≠ g := fun e' => h3 (e' ▸ e)
  exact (Below.heap_setCell _ ⟨g, 1, none⟩ y k (fun e => hk (by simpa using e))).trans (Below.heap_setCell W ⟨g, 0, none⟩ x k (fun e => hk (by simpa using e)))
set_option maxHeartbeats 1000000 in
theorem Tryz.statusFollows_any {T : TypeId} {w : World} {own : Nat → Prop} {b : Nat} {m : Msg} (h : Tryz.Ms T w own b m) :
    Calls Tryz.prog 44 #[.pointer (some ⟨b, 0, none⟩)] w fun e w' => e = .returned (Tryz.stV (statusFollows m).1) ∧ Tryz.MChg T own w w' b (statusFollows m).2 := by
  have hB := Tryz.Bx.start h
  obtain ⟨bc0, bc1, bf0, bf1⟩ := hB.boxc
  have HB : Hid _ := hB
  go_enter Tryz.func44, Tryz.ntmps44
  go_upto_region 1 with (fail)
  generalize w.heap.size = g at *
  generalize w.alloc _ = W at *
  go_wp2
  obtain ⟨r1, r2⟩ := HB.out.ret (Tryz.tkV .blankA) (Tryz.thV .no)
  exact bodyPost_ret (Tryz.ret_st rfl rfl r1) rfl ⟨rfl, r2⟩
section
variable {P : Program} {ops : Array Oper} {Q : Exit → Act → World → Prop} {a : Act} {w w' : World} {rest : List Oper} {o : Oper}
/-- An operation that gives a value. -/
theorem Wb.step_value (hg : o.guard = none) {v : Value} (he : (execOp a.eval o).run P w = .ok (.value v) w') (h : wpList P ops Q rest (a.put o.dst v) w') : wpList P ops Q (o :: rest) a w :=
  wpList_plain hg fun K hK => by
    unfold Oper.wp
    rw [he]
    exact hK _ _ h
end
/-- A message, as the cells of a row. -/
theorem Tryz.Ms.there {T : TypeId} {w : World} {own : Nat → Prop} {b : Nat} {m : Msg} (h : Tryz.Ms T w own b m) : w.there b 0 22 := by
  obtain ⟨aw, cw, ah, ch, ab, cb, h1⟩ := h.ex
  intro j hj
  rw [Nat.zero_add]
  have hsz : (Tryz.mc m (.slice aw m.word.length cw) (.slice ah m.headers.length ch) (.slice ab m.body.length cb)).size = 22 := rfl
  exact ⟨by rw [cell_of_row _ _ j _ _ _ h1.blk, Array.getElem?_eq_getElem (by rw [hsz]; exact hj)]; simp, frozen_of_row _ _ j _ _ h1.blk⟩
theorem Wb.setCells_row (b : Nat) (T : TypeId) : ∀ (vs : List Value) (o : Nat) (w : World) (cs : Array Value), w.heap[b]? = some (.cells cs T (0, 0)) → o + vs.length ≤ cs.size → (w.setCells b o vs).heap[b]? = some (.cells (cs.toList.take o ++ vs ++ cs.toList.drop (o + vs.length)).toArray T (0, 0))
  | [], o, w, cs, h, _ => by
    show w.heap[b]? = _
    rw [h]; simp
  | v :: r, o, w, cs, h, hl => by
    rw [List.length_cons] at hl
    have h1 := heap_setCell_same w b o cs T v h
    have h2 := setCells_row b T r (o + 1) _ _ h1 (by rw [Array.size_setIfInBounds]; omega)
    show ((w.setCell ⟨b, o, none⟩ v).setCells b (o + 1) r).heap[b]? = _
    rw [h2]
    congr 1
    congr 1
    rw [Array.toList_setIfInBounds, List.length_cons]
    have ho : o < cs.toList.length := by rw [Array.length_toList]; omega
    rw [List.take_set, List.drop_set_of_lt (by omega), List.take_add_one, List.getElem?_eq_getElem ho]
    simp only [Option.toList_some]
    rw [List.set_append_right _ _ (by rw [List.length_take]; omega), show o - (cs.toList.take o).length = 0 by rw [List.length_take]; omega]
    simp [show o + 1 + r.length = o + (r.length + 1) by omega]
theorem Wb.setCells_wo {own : Nat → Prop} (b : Nat) (hb : own b) : ∀ (vs : List Value) (o : Nat) (w w1 : World), Wo own w w1 → Wo own w (w1.setCells b o vs)
  | [], _, _, _, h => h
  | v :: r, o, w, _w1, h => setCells_wo b hb r (o + 1) w _ (h.setCell b o v (.inl hb))
theorem Wb.setCells_other (b : Nat) {k : Nat} (hk : k ≠ b) : ∀ (vs : List Value) (o : Nat) (w : World), (w.setCells b o vs).heap[k]? = w.heap[k]?
  | [], _, _ => rfl
  | v :: r, o, w => (setCells_other b hk r (o + 1) _).trans (Below.heap_setCell w ⟨b, o, none⟩ v k (fun e => hk (by simpa using e)))
/-- All cells of a message are laid anew. -/
theorem Tryz.Ms.renew {T : TypeId} {w : World} {own : Nat → Prop} {b : Nat} {m : Msg} (h : Tryz.Ms T w own b m) (m' : Msg) (hw : m'.word = []) (hh : m'.headers = []) (hb : m'.body = []) : Tryz.Ms T (w.setCells b 0 (Tryz.mc m' (.slice none 0 0) (.slice none 0 0) (.slice none 0 0)).toList) own b m' ∧ Wo own w (w.setCells b 0 (Tryz.mc m' (.slice none 0 0) (.slice none 0 0) (.slice none 0 0)).toList) := by
  obtain ⟨aw, cw, ah, ch, ab, cb, h1⟩ := h.ex
  have hwo := Wb.setCells_wo b h1.ob (Tryz.mc m' (.slice none 0 0) (.slice none 0 0) (.slice none 0 0)).toList 0 w w (Wo.refl own w)
  have hr := Wb.setCells_row b T (Tryz.mc m' (.slice none 0 0) (.slice none 0 0) (.slice none 0 0)).toList 0 w _ h1.blk (Nat.le_of_eq rfl)
  refine ⟨⟨none, 0, none, 0, none, 0, ?_, ?_, ?_, ?_, (fun k e => by cases e), (fun k e => by cases e), (fun k e => by cases e), h1.ob, fun k e => Nat.lt_of_lt_of_le (h1.lt k e) hwo.size⟩, hwo⟩
  · rw [hr, hw, hh, hb]; rfl
  · rw [hw]; exact World.ownsRow_nil _ _ _ _
  · rw [hh]; exact World.ownsRow_nil _ _ _ _
  · rw [hb]; exact World.ownsRow_nil _ _ _ _
theorem Tryz.Bx.renew {T : TypeId} {own : Nat → Prop} {w W : World} {b g : Nat} {m : Msg} (h : Tryz.Bx T own w W b g m) (m' : Msg) (hw : m'.word = []) (hh : m'.headers = []) (hb : m'.body = []) : Tryz.Bx T own w (W.setCells b 0 (Tryz.mc m' (.slice none 0 0) (.slice none 0 0) (.slice none 0 0)).toList) b g m' := by
  obtain ⟨own', h1, h2, h3⟩ := h.ms
  obtain ⟨h4, h5⟩ := h1.renew m' hw hh hb
  exact ⟨⟨own', h4, h2, h3⟩, (Wb.setCells_other b h.ne.symm _ _ _).trans h.box, h.wo.step h2 h5, h.gl⟩
theorem Tryz.Bx.there {T : TypeId} {own : Nat → Prop} {w W : World} {b g : Nat} {m : Msg} (h : Tryz.Bx T own w W b g m) : W.there b 0 22 := by
  obtain ⟨own', h1, h2, h3⟩ := h.ms
  exact h1.there
set_option maxHeartbeats 1000000 in
theorem Tryz.fail_any {T : TypeId} {w : World} {own : Nat → Prop} {b : Nat} {m : Msg} (h : Tryz.Ms T w own b m) (a e : Nat) :
    Calls Tryz.prog 60 #[.pointer (some ⟨b, 0, none⟩), .int .i64 a, .int .i64 e] w fun e1 w' => e1 = .returned (Tryz.stV (fail m a e).1) ∧ Tryz.MChg T own w w' b (fail m a e).2 := by
  have hB := Tryz.Bx.start h
  have HB : Hid _ := hB
  clear hB
  go_enter Tryz.func60, Tryz.ntmps60
  go_upto_region 1 with (fail)
  generalize w.heap.size = g at *
  generalize w.alloc _ = W at *
  refine wp_region_lit ?_
  refine Wb.step_value rfl (v := .pointer (some ⟨b, 0, none⟩)) (w' := W) (by kernel_rfl) ?_
  refine Wb.step_value rfl (v := .int .i64 a) (w' := W) (by kernel_rfl) ?_
  refine Wb.step_value rfl (v := .int .i64 e) (w' := W) (by kernel_rfl) ?_
  refine Wb.step_value rfl (v := .agg #[.int .i64 a, .int .i64 e]) (w' := W) (by kernel_rfl) ?_
  refine Wb.step_value rfl (v := .agg (Tryz.mc (faulty a e) (.slice none 0 0) (.slice none 0 0) (.slice none 0 0))) (w' := W) (by kernel_rfl) ?_
  refine Wb.step_value rfl (v := .pointer (some ⟨b, 0, none⟩)) (w' := W) (by kernel_rfl) ?_
  refine wpList_store_mid rfl 65 _ _ rfl b 0 _ rfl rfl HB.out.there (by kernel_rfl) (by kernel_rfl) ?_
  have hR := HB.out.renew (faulty a e) rfl rfl rfl
  generalize World.setCells _ _ _ _ = W1 at *
  obtain ⟨bc0, bc1, bf0, bf1⟩ := hR.boxc
  go_wp2
  obtain ⟨r1, r2⟩ := hR.ret (Tryz.tkV .no) (Tryz.thV .no)
  exact bodyPost_ret (Tryz.ret_st rfl rfl r1) rfl ⟨rfl, r2⟩
end Go.Proofs
namespace Go.Proofs
open Go.RowKit Go.Wi Go.Wb
set_option maxHeartbeats 1000000 in
theorem Tryz.refuse_any {T : TypeId} {w : World} {own : Nat → Prop} {b : Nat} {m : Msg} (h : Tryz.Ms T w own b m) :
    Calls Tryz.prog 58 #[.pointer (some ⟨b, 0, none⟩)] w fun e1 w' => e1 = .returned (.agg #[.nilFunc, .nilFunc]) ∧ Tryz.MChg T own w w' b (refuse m).2 := by
  have hB := Tryz.Bx.start h
  have HB : Hid _ := hB
  clear hB
  go_enter Tryz.func58, Tryz.ntmps58
  go_upto_region 1 with (fail)
  generalize w.heap.size = g at *
  generalize w.alloc _ = W at *
  have c3 := HB.out.cell 3 _ fun _ _ _ => rfl
  obtain ⟨own', hm, ho, hg⟩ := HB.out.ms
  have hf := Tryz.fail_any hm m.at_ 180
  have hne := HB.out.ne
  go_wp2_with (first
    | (go_at_call 60; refine hf.mono ?_; clear hf; rintro e w1 ⟨rfl, hC⟩; have hB1 := HB.out.chg ho hg hC; obtain ⟨bc0, bc1, bf0, bf1⟩ := hB1.boxc; simp only [Tryz.stV, Wb.fail, Tryz.tkV, Tryz.thV])
    | fail)
  obtain ⟨r1, r2⟩ := hB1.ret (Tryz.tkV .no) (Tryz.thV .no)
  exact bodyPost_ret (Tryz.ret_st rfl rfl r1) rfl ⟨rfl, r2⟩
theorem Tryz.Bx.cut {T : TypeId} {own : Nat → Prop} {w W : World} {b g : Nat} {m : Msg} (h : Tryz.Bx T own w W b g m) {aw : Option Addr} {n cw : Nat} (hc : W.cell? ⟨b, 6, none⟩ = some (.slice aw n cw)) : Tryz.Bx T own w (W.setCell ⟨b, 6, none⟩ (.slice aw 0 cw)) b g { m with word := [] } := by
  obtain ⟨own', ⟨aw', cw', ah, ch, ab, cb, h1⟩, h2, h3⟩ := h.ms
  have e := (cell_of_row _ _ 6 _ _ _ h1.blk).symm.trans hc
  simp only [Tryz.mc, List.getElem?_toArray, List.getElem?_cons_succ, List.getElem?_cons_zero, Option.some.injEq, Value.slice.injEq] at e
  obtain ⟨rfl, -, rfl⟩ := e
  exact ⟨⟨own', h1.word0, h2, h3⟩, (Below.heap_setCell W ⟨b, 6, none⟩ _ g (fun e => h.ne (by simpa using e.symm))).trans h.box, h.wo.setCell b 6 _ (h2 b h1.ob), h.gl⟩
theorem Tryz.Bx.drew {T : TypeId} {own : Nat → Prop} {w W : World} {b g : Nat} {m : Msg} (h : Tryz.Bx T own w W b g m) : Tryz.Bx T own w W.drew b g m := h.below ((Below.refl _ W).drew)
theorem Tryz.Bx.drewN {T : TypeId} {own : Nat → Prop} {w W : World} {b g : Nat} {m : Msg} (h : Tryz.Bx T own w W b g m) (n : Nat) : Tryz.Bx T own w (W.drewN n) b g m := h.below (belowN (Below.refl _ W) n)
set_option maxHeartbeats 1000000 in
theorem Tryz.part_any {T : TypeId} {w : World} {own : Nat → Prop} {b : Nat} {m : Msg} (h : Tryz.Ms T w own b m) (hat : m.at_ ≤ 4611686018427387904) (t : Tk) (f : FuncId) :
    Calls Tryz.prog 87 #[.pointer (some ⟨b, 0, none⟩), .func (.func f) #[] #[]] w fun e1 w' => e1 = .returned (.agg #[.func (.func f) #[] #[], .nilFunc]) ∧ Tryz.MChg T own w w' b (Wb.part m t).2 := by
  have hB := Tryz.Bx.start h
  have HB : Hid _ := hB
  clear hB
  have hwr : IntKind.i64.wrap ((m.at_ : Int) + 1) = ((m.at_ + 1 : Nat) : Int) := by rw [IntKind.wrap_i64]; omega
  go_enter Tryz.func87, Tryz.ntmps87
  go_upto_region 1 with (fail)
  generalize w.heap.size = g at *
  generalize w.alloc _ = W at *
  have c3 := HB.out.cell 3 _ fun _ _ _ => rfl
  have c5 := HB.out.cell 5 _ fun _ _ _ => rfl
  have f5 := HB.out.frozen 5
  have f6 := HB.out.frozen 6
  obtain ⟨own', ⟨aw, cw, ah, ch, ab, cb, hmw⟩, ho, hg⟩ := HB.out.ms
  have c6 := cell_of_row _ _ 6 _ _ _ hmw.blk
  simp only [Tryz.mc, List.getElem?_toArray, List.getElem?_cons_succ, List.getElem?_cons_zero] at c6
  have HA : Hid (Tryz.Bx T own w ((W.setCell ⟨b, 5, none⟩ (.int .i64 (IntKind.i64.wrap ((m.at_ : Int) + 1)))).setCell ⟨b, 6, none⟩ (.slice aw 0 cw)).drew b g (Wb.part m t).2) := (Tryz.Bx.cut (n := m.word.length) (HB.out.set 5 _ { m with frm := m.at_ + 1 } (fun _ _ _ => by rw [hwr]; rfl) rfl rfl rfl) ((World.cell?_setCell_other _ _ _ _ (fun e => by injection e with _ e; cases e)).trans c6)).drew
  have HA2 : Hid (Tryz.Bx T own w ((W.setCell ⟨b, 6, none⟩ (.slice aw 0 cw)).setCell ⟨b, 5, none⟩ (.int .i64 (IntKind.i64.wrap ((m.at_ : Int) + 1)))).drew b g (Wb.part m t).2) := (Tryz.Bx.set (HB.out.cut c6) 5 _ (Wb.part m t).2 (fun _ _ _ => by rw [hwr]; rfl) rfl rfl rfl).drew
  clear HB hmw hwr
  go_region_with (fail)
  all_goals
    first
      | (have hB1 := HA.out; clear HA2; clear HA; generalize ((World.setCell _ ⟨b, 5, none⟩ _).setCell _ _).drew = W1 at *)
      | (have hB1 := HA2.out; clear HA2; clear HA; generalize ((World.setCell _ ⟨b, 6, none⟩ _).setCell _ _).drew = W1 at *)
    obtain ⟨bc0, bc1, bf0, bf1⟩ := hB1.boxc
    go_wp2
    obtain ⟨r1, r2⟩ := hB1.ret (.func (.func f) #[] #[]) .nilFunc
    exact bodyPost_ret (Tryz.ret_st rfl rfl r1) rfl ⟨rfl, r2⟩
theorem Tryz.info_u8 : (Tryz.prog.info? 5).map (fun i => (i.zero, i.size, i.bytes)) = some (some (.int .u8 0), 1, 1) := by kernel_rfl
/-- 'append' of one byte to a message's word. -/
theorem Tryz.appWord {ops : Array Oper} {rest : List Oper} {o : Oper} {a : Act} {Q : Exit → Act → World → Prop} (hgd : o.guard = none) (s y : Operand)
    (ho : o.op = .call { callee := .builtin .append, args := #[s, y], argTypes := #[23, 23] })
    {T : TypeId} {w : World} {own : Nat → Prop} {b : Nat} {m : Msg} {aw ah ab : Option Addr} {cw ch cb : Nat} (h : Tryz.Mw T w own b m aw cw ah ch ab cb)
    (hs : a.eval s = .slice aw m.word.length cw) (hy : a.eval y = .slice (some ⟨w.heap.size, 0, none⟩) 1 1) (c : UInt8) (hlen : m.word.length + 1 ≤ 140737488355328)
    (hK : ∀ g n cap w1, w1.cell? ⟨b, 6, none⟩ = some (.slice aw m.word.length cw) → w1.frozen? ⟨b, 6, none⟩ = false → Tryz.MChg T own w (w1.setCell ⟨b, 6, none⟩ (.slice (some ⟨g, 0, none⟩) n cap)) b { m with word := m.word ++ [c] } → wpList Tryz.prog ops Q rest (a.put o.dst (.slice (some ⟨g, 0, none⟩) n cap)) w1) : wpList Tryz.prog ops Q (o :: rest) a (w.alloc (.cells #[.int .u8 (c.toNat : Nat)] 5)) := by
  obtain ⟨i0, hi0, hz0, hz1, hz2⟩ := info_parts Tryz.info_u8
  have hn : (w.alloc (.cells #[.int .u8 (c.toNat : Nat)] 5)).heap[w.heap.size]? = some (.cells #[.int .u8 (c.toNat : Nat)] 5 (0, 0)) := heap_alloc_new w _
  have hb : Below w.heap.size w (w.alloc (.cells #[.int .u8 (c.toNat : Nat)] 5)) := (Below.refl w.heap.size w).alloc (Nat.le_refl _) _
  have hrow1 := row_keep h.word fun k e => hb.block k (h.lt k (h.dw k e).1)
  refine wpList_append_lies _ hgd s y 23 ho 0 5 i0 _ 1 1 Tryz.underlying23 hi0 hz0 hz1 hz2 rfl (by omega) _ m.word.length (Lib.byteCells m.word) hs hrow1 ⟨w.heap.size, 0, none⟩ 1 1 [.int .u8 (c.toNat : Nat)] hy rfl (World.news_of_block hn) (by simp [Value.oneCell']) (by omega) (by unfold maxLen; omega) (by omega) (by omega) _ rfl ?_
  intro g cap w' hown hg hat hlt
  have hsz : (w.alloc (.cells #[.int .u8 (c.toNat : Nat)] 5)).heap.size = w.heap.size + 1 := by simp
  have hw : Wo (fun k => (Value.slice aw m.word.length cw).ownBlock = some k) w w' := (Wo.ofBelow hb).grown hg fun k e => .inl e
  have e : Lib.byteCells m.word ++ [Value.int .u8 (c.toNat : Nat)] = Lib.byteCells (m.word ++ [c]) := by simp [Lib.byteCells]
  rw [e] at hown
  have hl : (Value.slice aw m.word.length cw).ownBlock = some g ∨ w.heap.size ≤ g := by
    rcases hat with e1 | e1
    · exact .inl e1
    · exact .inr (by show w.heap.size ≤ g; rw [e1, hsz]; omega)
  have hbl : w'.heap[b]? = w.heap[b]? := hw.block b (h.lt b h.ob) fun e => (h.dw b e).2.1 rfl
  have hx1 := hbl.trans h.blk
  have hx2 := heap_setCell_same w' b 6 _ _ (.slice (some ⟨g, 0, none⟩) (m.word.length + 1) cap) hx1
  have hgb : g ≠ b := fun e => by
    subst e
    rcases hl with e1 | e1
    · exact (h.dw _ e1).2.1 rfl
    · exact absurd (h.lt _ h.ob) (by omega)
  have hot : ∀ k, k ≠ b → (w'.setCell ⟨b, 6, none⟩ (.slice (some ⟨g, 0, none⟩) (m.word.length + 1) cap)).heap[k]? = w'.heap[k]? := fun k hk => Below.heap_setCell w' ⟨b, 6, none⟩ _ k (fun e => hk (by simpa using e))
  have hss : (w'.setCell ⟨b, 6, none⟩ (.slice (some ⟨g, 0, none⟩) (m.word.length + 1) cap)).heap.size = w'.heap.size := by simp
  have hgl : g < w'.heap.size := (hown.lt g rfl).2
  refine hK g _ cap w' ((cell_of_row _ _ 6 _ _ _ hx1).trans rfl) (frozen_of_row _ _ 6 _ _ hx1) ⟨⟨fun k => own k ∨ (w.heap.size ≤ k ∧ k < w'.heap.size), ⟨some ⟨g, 0, none⟩, cap, ah, ch, ab, cb, ?_, ?_, ?_, ?_, ?_, ?_, ?_, .inl h.ob, ?_⟩, fun k e => e.imp id (·.1)⟩, (hw.mono fun k e => (h.dw k e).1).setCell b 6 _ (.inl h.ob)⟩
  · rw [hx2, show (m.word ++ [c]).length = m.word.length + 1 by simp]; rfl
  · rw [show (m.word ++ [c]).length = m.word.length + 1 by simp]
    exact row_keep hown fun k e => hot k (by cases e; exact hgb)
  · exact row_keep h.heads fun k e => (hot k (h.dh k e).2.1).trans (hw.block k (h.lt k (h.dh k e).1) fun e' => (h.dw k e').2.2.1 e)
  · exact row_keep h.body fun k e => (hot k (h.db k e).2).trans (hw.block k (h.lt k (h.db k e).1) fun e' => (h.dw k e').2.2.2 e)
  · intro k e
    cases e
    rcases hl with e1 | e1
    · exact ⟨.inl (h.dw _ e1).1, hgb, (h.dw _ e1).2.2⟩
    · exact ⟨.inr ⟨e1, hgl⟩, hgb, fun e => absurd (h.lt _ (h.dh _ e).1) (by show ¬ g < _; omega), fun e => absurd (h.lt _ (h.db _ e).1) (by show ¬ g < _; omega)⟩
  · intro k e
    exact ⟨.inl (h.dh k e).1, (h.dh k e).2⟩
  · intro k e
    exact ⟨.inl (h.db k e).1, (h.db k e).2⟩
  · rw [hss]
    rintro k (e | e)
    · exact Nat.lt_of_lt_of_le (h.lt k e) hw.size
    · exact e.2
set_option maxHeartbeats 1000000 in
theorem Tryz.keep_any {T : TypeId} {w : World} {own : Nat → Prop} {b : Nat} {m : Msg} (h : Tryz.Ms T w own b m) (c : UInt8) (hl : m.word.length ≤ 70368744177664) :
    Calls Tryz.prog 59 #[.pointer (some ⟨b, 0, none⟩), .int .u8 c.toNat] w fun e1 w' => (∃ v, e1 = .returned v) ∧ Tryz.MChg T own w w' b (Wb.keep m c) := by
  obtain ⟨aw, cw, ah, ch, ab, cb, hmw⟩ := h.ex
  have c6 := cell_of_row _ _ 6 _ _ _ hmw.blk
  have c14 := cell_of_row _ _ 14 _ _ _ hmw.blk
  simp only [Tryz.mc, List.getElem?_toArray, List.getElem?_cons_succ, List.getElem?_cons_zero] at c6 c14
  have hlen : m.word.length + 1 ≤ 140737488355328 := by omega
  have HM : Hid _ := hmw
  have HL : Hid (m.word.length + 1 ≤ 140737488355328) := hlen
  clear hmw hl hlen
  have HH : Hid _ := h
  clear h
  unfold Wb.keep
  by_cases ht : m.trailers = true
  · rw [if_pos ht]
    rw [ht] at c14
    clear ht
    go_enter Tryz.func59, Tryz.ntmps59
    go_wp2
    go_end0
    exact ⟨⟨_, rfl⟩, Tryz.MChg.refl HH.out⟩
  · rw [if_neg ht]
    rw [Bool.eq_false_iff.2 ht] at c14
    clear ht
    go_enter Tryz.func59, Tryz.ntmps59
    go_wp2_with (first | (at_builtin; refine Tryz.appWord rfl _ _ rfl HM.out rfl rfl c HL.out ?_; intro g1 n1 cap1 w1 hc2 hf2 hC2) | fail)
    go_end0
    exact ⟨⟨_, rfl⟩, hC2⟩
end Go.Proofs
namespace Go.Wb
theorem toNat_lt (c : UInt8) : c.toNat < 256 := c.toNat_lt
theorem sm_nat (c : UInt8) : (sm c).toNat = if great c then c.toNat + 32 else c.toNat := by
  unfold sm
  by_cases h : great c = true
  · rw [if_pos h, if_pos h, UInt8.toNat_ofNat']
    simp only [great, Bool.and_eq_true, decide_eq_true_eq] at h
    omega
  · rw [if_neg h, if_neg h]
end Go.Wb
namespace Go.Proofs
open Go.RowKit Go.Wi Go.Wb
set_option maxHeartbeats 1000000 in
theorem Tryz.isDigit_any (c : UInt8) (w : World) : Calls Tryz.prog 57 #[.int .u8 c.toNat] w fun e w' => e = .returned (.bool (dig c)) ∧ w' = w := by
  have hd : dig c = (decide (48 ≤ c.toNat) && decide (c.toNat ≤ 57)) := rfl
  rw [hd]
  generalize c.toNat = n at *
  clear hd
  by_cases h : 48 ≤ n
  · have q : (48 : Int) ≤ (n : Int) := by omega
    go_enter Tryz.func57, Tryz.ntmps57
    go_wp2
    go_ret
    exact ⟨by rw [decide_eq_true h]; simp; omega, rfl⟩
  · have q : ¬ (48 : Int) ≤ (n : Int) := by omega
    go_enter Tryz.func57, Tryz.ntmps57
    go_wp2
    go_ret
    exact ⟨rfl, rfl⟩
set_option maxHeartbeats 1000000 in
theorem Tryz.isGreat_any (c : UInt8) (w : World) : Calls Tryz.prog 98 #[.int .u8 c.toNat] w fun e w' => e = .returned (.bool (great c)) ∧ w' = w := by
  have hd : great c = (decide (65 ≤ c.toNat) && decide (c.toNat ≤ 90)) := rfl
  rw [hd]
  generalize c.toNat = n at *
  clear hd
  by_cases h : 65 ≤ n
  · have q : (65 : Int) ≤ (n : Int) := by omega
    go_enter Tryz.func98, Tryz.ntmps98
    go_wp2
    go_ret
    exact ⟨by rw [decide_eq_true h]; simp; omega, rfl⟩
  · have q : ¬ (65 : Int) ≤ (n : Int) := by omega
    go_enter Tryz.func98, Tryz.ntmps98
    go_wp2
    go_ret
    exact ⟨rfl, rfl⟩
set_option maxHeartbeats 1000000 in
theorem Tryz.isTargetByte_any (c : UInt8) (w : World) : Calls Tryz.prog 115 #[.int .u8 c.toNat] w fun e w' => e = .returned (.bool (tgt c)) ∧ w' = w := by
  have hd : tgt c = (decide (33 ≤ c.toNat) && decide (c.toNat ≤ 126)) := rfl
  rw [hd]
  generalize c.toNat = n at *
  clear hd
  by_cases h : 33 ≤ n
  · have q : (33 : Int) ≤ (n : Int) := by omega
    go_enter Tryz.func115, Tryz.ntmps115
    go_wp2
    go_ret
    exact ⟨by rw [decide_eq_true h]; simp; omega, rfl⟩
  · have q : ¬ (33 : Int) ≤ (n : Int) := by omega
    go_enter Tryz.func115, Tryz.ntmps115
    go_wp2
    go_ret
    exact ⟨rfl, rfl⟩
set_option maxHeartbeats 1000000 in
theorem Tryz.isBlank_any (c : UInt8) (w : World) : Calls Tryz.prog 147 #[.int .u8 c.toNat] w fun e w' => e = .returned (.bool (Wb.blank c)) ∧ w' = w := by
  have hd : Wb.blank c = (c.toNat == 32 || c.toNat == 9) := rfl
  rw [hd]
  generalize c.toNat = n at *
  clear hd
  by_cases h : n = 32
  · have q : ((n : Int) == 32) = true := by simp; omega
    go_enter Tryz.func147, Tryz.ntmps147
    go_wp2
    go_ret
    exact ⟨by rw [h]; rfl, rfl⟩
  · have q : ((n : Int) == 32) = false := by simp; omega
    go_enter Tryz.func147, Tryz.ntmps147
    go_wp2
    go_ret
    refine ⟨?_, rfl⟩
    have h1 : (n == 32) = false := by simpa using h
    rw [h1, Bool.false_or]
    by_cases h2 : n = 9
    · rw [h2]; rfl
    · have e1 : (n == 9) = false := by simpa using h2
      have e2 : ((n : Int) == 9) = false := by simp; omega
      rw [e1, e2]
      rfl
set_option maxHeartbeats 1000000 in
theorem Tryz.isTextByte_any (c : UInt8) (w : World) : Calls Tryz.prog 84 #[.int .u8 c.toNat] w fun e w' => e = .returned (.bool (txt c)) ∧ w' = w := by
  have hd : txt c = (c.toNat == 9 || (decide (32 ≤ c.toNat) && decide (c.toNat ≤ 126)) || decide (128 ≤ c.toNat)) := rfl
  rw [hd]
  generalize c.toNat = n at *
  clear hd
  by_cases h : n = 9
  · have q : ((n : Int) == 9) = true := by simp; omega
    go_enter Tryz.func84, Tryz.ntmps84
    go_wp2
    go_ret
    exact ⟨by rw [h]; rfl, rfl⟩
  · have q : ((n : Int) == 9) = false := by simp; omega
    have h1 : (n == 9) = false := by simpa using h
    rw [h1, Bool.false_or]
    by_cases h2 : 32 ≤ n
    · have q2 : (32 : Int) ≤ (n : Int) := by omega
      rw [decide_eq_true h2, Bool.true_and]
      by_cases h3 : n ≤ 126
      · have q3 : (n : Int) ≤ 126 := by omega
        rw [decide_eq_true h3, Bool.true_or]
        go_enter Tryz.func84, Tryz.ntmps84
        go_wp2
        go_ret
        exact ⟨rfl, rfl⟩
      · have q3 : ¬ (n : Int) ≤ 126 := by omega
        rw [decide_eq_false h3, Bool.false_or]
        go_enter Tryz.func84, Tryz.ntmps84
        go_wp2
        go_ret
        exact ⟨by simp; omega, rfl⟩
    · have q2 : ¬ (32 : Int) ≤ (n : Int) := by omega
      rw [decide_eq_false h2, Bool.false_and, Bool.false_or]
      go_enter Tryz.func84, Tryz.ntmps84
      go_wp2
      go_ret
      exact ⟨by simp; omega, rfl⟩
set_option maxHeartbeats 1000000 in
theorem Tryz.small_any (c : UInt8) (w : World) : Calls Tryz.prog 83 #[.int .u8 c.toNat] w fun e w' => e = .returned (.int .u8 (sm c).toNat) ∧ w' = w := by
  have h1 := Tryz.isGreat_any c w
  have hs := sm_nat c
  have hc := toNat_lt c
  rw [hs]
  by_cases h : great c = true
  · rw [if_pos h]
    have hg : c.toNat ≤ 90 := by simp only [great, Bool.and_eq_true, decide_eq_true_eq] at h; omega
    rw [h] at h1
    clear hs h
    generalize c.toNat = n at *
    go_enter Tryz.func83, Tryz.ntmps83
    go_wp2_with (first | (go_at_call 98; refine h1.mono ?_; clear h1; rintro e w1 ⟨rfl, rfl⟩) | fail)
    go_ret
    exact ⟨by congr 2, rfl⟩
  · rw [if_neg h]
    rw [Bool.eq_false_iff.2 h] at h1
    clear hs h
    generalize c.toNat = n at *
    go_enter Tryz.func83, Tryz.ntmps83
    go_wp2_with (first | (go_at_call 98; refine h1.mono ?_; clear h1; rintro e w1 ⟨rfl, rfl⟩) | fail)
    go_ret
    exact ⟨rfl, rfl⟩
set_option maxHeartbeats 1000000 in
theorem Tryz.isStatus_any (n : Int) (w : World) : Calls Tryz.prog 35 #[.int .i64 n] w fun e w' => e = .returned (.bool (decide (200 ≤ n) && decide (n ≤ 599))) ∧ w' = w := by
  by_cases h : 200 ≤ n
  · rw [decide_eq_true h]
    go_enter Tryz.func35, Tryz.ntmps35
    go_wp2
    go_ret
    exact ⟨by simp, rfl⟩
  · rw [decide_eq_false h]
    go_enter Tryz.func35, Tryz.ntmps35
    go_wp2
    go_ret
    exact ⟨rfl, rfl⟩
set_option maxHeartbeats 1000000 in
theorem Tryz.hasNoBody_any (n : Int) (w : World) : Calls Tryz.prog 34 #[.int .i64 n] w fun e w' => e = .returned (.bool (n == 204 || n == 304)) ∧ w' = w := by
  by_cases h : n = 204
  · have q : (n == 204) = true := by simpa using h
    rw [q]
    go_enter Tryz.func34, Tryz.ntmps34
    go_wp2
    go_ret
    exact ⟨rfl, rfl⟩
  · have q : (n == 204) = false := by simpa using h
    rw [q]
    go_enter Tryz.func34, Tryz.ntmps34
    go_wp2
    go_ret
    exact ⟨rfl, rfl⟩
/-- A hex digit as a number. -/
def Wb.hexI (c : UInt8) : Int := match hexd c with | some d => (d : Int) | none => -1
set_option maxHeartbeats 1000000 in
theorem Tryz.hexDigit_any (c : UInt8) (w : World) : Calls Tryz.prog 156 #[.int .u8 c.toNat] w fun e w' => e = .returned (.int .i64 (Wb.hexI c)) ∧ w' = w := by
  have h1 := Tryz.isDigit_any c w
  have h2 := Tryz.small_any c w
  have hc := toNat_lt c
  have hsl := toNat_lt (sm c)
  by_cases h : dig c = true
  · have hg : 48 ≤ c.toNat ∧ c.toNat ≤ 57 := by simpa only [dig, Bool.and_eq_true, decide_eq_true_eq] using h
    have e1 : Wb.hexI c = (c.toNat : Int) - 48 := by unfold Wb.hexI hexd; rw [if_pos h]; show ((c.toNat - 48 : Nat) : Int) = _; omega
    rw [e1]
    rw [h] at h1
    obtain ⟨hg1, hg2⟩ := hg
    clear h e1 h2
    generalize c.toNat = n at *
    go_enter Tryz.func156, Tryz.ntmps156
    go_wp2_with (first | (go_at_call 57; refine h1.mono ?_; clear h1; rintro e w1 ⟨rfl, rfl⟩) | fail)
    go_ret
    exact ⟨by congr 2, rfl⟩
  · rw [Bool.eq_false_iff.2 h] at h1
    by_cases h3 : 97 ≤ (sm c).toNat
    · by_cases h4 : (sm c).toNat ≤ 102
      · have e1 : Wb.hexI c = ((sm c).toNat : Int) - 87 := by unfold Wb.hexI hexd; rw [if_neg h, if_pos ⟨h3, h4⟩]; show (((sm c).toNat - 87 : Nat) : Int) = _; omega
        rw [e1]
        have q3 : (97 : Int) ≤ ((sm c).toNat : Int) := by omega
        have q4 : ((sm c).toNat : Int) ≤ 102 := by omega
        clear h e1
        generalize (sm c).toNat = s at *
        generalize c.toNat = n at *
        go_enter Tryz.func156, Tryz.ntmps156
        go_wp2_with (first | (go_at_call 57; refine h1.mono ?_; clear h1; rintro e w1 ⟨rfl, rfl⟩) | (go_at_call 83; refine h2.mono ?_; rintro e w1 ⟨rfl, rfl⟩) | fail)
        go_ret
        exact ⟨by rw [show (s : Int) - 87 = (s : Int) - 97 + 10 by omega]; rfl, rfl⟩
      · have e1 : Wb.hexI c = -1 := by unfold Wb.hexI hexd; rw [if_neg h, if_neg (fun e => h4 e.2)]
        rw [e1]
        have q3 : (97 : Int) ≤ ((sm c).toNat : Int) := by omega
        have q4 : ¬ ((sm c).toNat : Int) ≤ 102 := by omega
        clear h e1
        generalize (sm c).toNat = s at *
        generalize c.toNat = n at *
        go_enter Tryz.func156, Tryz.ntmps156
        go_wp2_with (first | (go_at_call 57; refine h1.mono ?_; clear h1; rintro e w1 ⟨rfl, rfl⟩) | (go_at_call 83; refine h2.mono ?_; rintro e w1 ⟨rfl, rfl⟩) | fail)
        go_ret
        exact ⟨rfl, rfl⟩
    · have e1 : Wb.hexI c = -1 := by unfold Wb.hexI hexd; rw [if_neg h, if_neg (fun e => h3 e.1)]
      rw [e1]
      have q3 : ¬ (97 : Int) ≤ ((sm c).toNat : Int) := by omega
      clear h e1
      generalize (sm c).toNat = s at *
      generalize c.toNat = n at *
      go_enter Tryz.func156, Tryz.ntmps156
      go_wp2_with (first | (go_at_call 57; refine h1.mono ?_; clear h1; rintro e w1 ⟨rfl, rfl⟩) | (go_at_call 83; refine h2.mono ?_; rintro e w1 ⟨rfl, rfl⟩) | fail)
      go_ret
      exact ⟨rfl, rfl⟩
end Go.Proofs
namespace Go.Proofs
open Go.RowKit Go.Wi Go.Wb
theorem Tryz.stTk (t : Tk) (P : Program) (w : World) (a : Addr) (m : Mode) : (store a (Tryz.tkV t) m).run P w = stored P w a (Tryz.tkV t) m := run_store P w a _ m (by cases t <;> rfl)
theorem Tryz.stTh (t : Th) (P : Program) (w : World) (a : Addr) (m : Mode) : (store a (Tryz.thV t) m).run P w = stored P w a (Tryz.thV t) m := run_store P w a _ m (by cases t <;> rfl)
theorem Tryz.thV_func {t : Th} (h : t ≠ .no) : ∃ f, Tryz.thV t = .func (.func f) #[] #[] := by
  cases t <;> first | exact absurd rfl h | exact ⟨_, rfl⟩
set_option maxHeartbeats 1000000 in
theorem Tryz.lineEnd_any {T : TypeId} {w : World} {own : Nat → Prop} {b : Nat} {m : Msg} (h : Tryz.Ms T w own b m) (c : UInt8) (hth : m.th ≠ .no) :
    Calls Tryz.prog 127 #[.pointer (some ⟨b, 0, none⟩), .int .u8 c.toNat] w fun e w' => e = .returned (Tryz.stV (Wb.lineEnd m c).1) ∧ Tryz.MChg T own w w' b (Wb.lineEnd m c).2 := by
  have HB : Hid _ := Tryz.Bx.start h
  obtain ⟨f, hf⟩ := Tryz.thV_func hth
  by_cases hc : c.toNat = 13
  · have q : ((c.toNat : Int) != 13) = false := by simp; omega
    simp only [Wb.lineEnd, if_pos hc]
    clear hc
    generalize c.toNat = n at *
    go_enter Tryz.func127, Tryz.ntmps127
    go_upto_region 1 with (fail)
    generalize w.heap.size = g at *
    generalize w.alloc _ = W at *
    have c1 := HB.out.cell 1 (Tryz.thV m.th) fun _ _ _ => rfl
    rw [hf] at c1
    obtain ⟨bc0, bc1, bf0, bf1⟩ := HB.out.boxc
    have hne := HB.out.ne
    go_wp2
    obtain ⟨r1, r2⟩ := HB.out.ret (Tryz.tkV .lineFeed) (Tryz.thV m.th)
    rw [hf] at r1 r2
    exact bodyPost_ret (Tryz.ret_st rfl rfl r1) rfl ⟨by simp only [Tryz.stV, hf], r2⟩
  · have q : ((c.toNat : Int) != 13) = true := by simp; omega
    simp only [Wb.lineEnd, if_neg hc]
    clear hc
    generalize c.toNat = n at *
    go_enter Tryz.func127, Tryz.ntmps127
    go_upto_region 1 with (fail)
    generalize w.heap.size = g at *
    generalize w.alloc _ = W at *
    obtain ⟨own', hm, ho, hg⟩ := HB.out.ms
    have k1 := Tryz.refuse_any hm
    have hne := HB.out.ne
    go_wp2_with (first
      | (go_at_call 58; refine k1.mono ?_; clear k1; rintro e w1 ⟨rfl, hC⟩; have hB1 := HB.out.chg ho hg hC; obtain ⟨bc0, bc1, bf0, bf1⟩ := hB1.boxc)
      | fail)
    obtain ⟨r1, r2⟩ := hB1.ret .nilFunc .nilFunc
    exact bodyPost_ret (Tryz.ret_st rfl rfl r1) rfl ⟨rfl, r2⟩
set_option maxHeartbeats 1000000 in
theorem Tryz.inReason_any {T : TypeId} {w : World} {own : Nat → Prop} {b : Nat} {m : Msg} (h : Tryz.Ms T w own b m) (c : UInt8) :
    Calls Tryz.prog 126 #[.pointer (some ⟨b, 0, none⟩), .int .u8 c.toNat] w fun e w' => e = .returned (Tryz.stV (Wb.inReason m c).1) ∧ Tryz.MChg T own w w' b (Wb.inReason m c).2 := by
  have HB : Hid _ := Tryz.Bx.start h
  by_cases hc : c.toNat = 13
  · have q : ((c.toNat : Int) == 13) = true := by simp; omega
    simp only [Wb.inReason, if_pos hc]
    clear hc
    generalize c.toNat = n at *
    go_enter Tryz.func126, Tryz.ntmps126
    go_upto_region 1 with (fail)
    generalize w.heap.size = g at *
    generalize w.alloc _ = W at *
    obtain ⟨bc0, bc1, bf0, bf1⟩ := HB.out.boxc
    have hne := HB.out.ne
    go_wp2
    obtain ⟨r1, r2⟩ := HB.out.ret (Tryz.tkV .lineFeed) (Tryz.thV .headerLine)
    exact bodyPost_ret (Tryz.ret_st rfl rfl r1) rfl ⟨rfl, r2⟩
  · have q : ((c.toNat : Int) == 13) = false := by simp; omega
    simp only [Wb.inReason, if_neg hc]
    clear hc
    have kt := Tryz.isTextByte_any c
    by_cases ht : txt c = true
    · rw [ht] at kt
      simp only [if_pos ht]
      clear ht
      generalize c.toNat = n at *
      have s1 := Tryz.stTk m.tk Tryz.prog
      have s2 := Tryz.stTh m.th Tryz.prog
      go_enter Tryz.func126, Tryz.ntmps126
      go_upto_region 1 with (fail)
      generalize w.heap.size = g at *
      generalize w.alloc _ = W at *
      obtain ⟨bc0, bc1, bf0, bf1⟩ := HB.out.boxc
      have c0 := HB.out.cell 0 (Tryz.tkV m.tk) fun _ _ _ => rfl
      have c1 := HB.out.cell 1 (Tryz.thV m.th) fun _ _ _ => rfl
      have hne := HB.out.ne
      go_wp2_with (first
        | (go_at_call 84; refine (kt _).mono ?_; rintro e w1 ⟨rfl, rfl⟩)
        | fail)
      obtain ⟨r1, r2⟩ := HB.out.ret (Tryz.tkV m.tk) (Tryz.thV m.th)
      exact bodyPost_ret (Tryz.ret_st rfl rfl r1) rfl ⟨rfl, r2⟩
    · rw [Bool.eq_false_iff.2 ht] at kt
      simp only [if_neg ht]
      clear ht
      generalize c.toNat = n at *
      go_enter Tryz.func126, Tryz.ntmps126
      go_upto_region 1 with (fail)
      generalize w.heap.size = g at *
      generalize w.alloc _ = W at *
      obtain ⟨own', hm, ho, hg⟩ := HB.out.ms
      have k1 := Tryz.refuse_any hm
      have hne := HB.out.ne
      go_wp2_with (first
        | (go_at_call 84; refine (kt _).mono ?_; rintro e w1 ⟨rfl, rfl⟩)
        | (go_at_call 58; refine k1.mono ?_; clear k1; rintro e w1 ⟨rfl, hC⟩; have hB1 := HB.out.chg ho hg hC; obtain ⟨bc0, bc1, bf0, bf1⟩ := hB1.boxc)
        | fail)
      obtain ⟨r1, r2⟩ := hB1.ret .nilFunc .nilFunc
      exact bodyPost_ret (Tryz.ret_st rfl rfl r1) rfl ⟨rfl, r2⟩
end Go.Proofs
