/-
  refuse, part, keep.
-/
import Derived.Test.YtogimcdjllhkcaaGreatDoorXe
import Derived.Deep.RegionWith
namespace Go.Proofs
open Go.RowKit Go.Wi Go.Wb
set_option maxHeartbeats 1000000 in
theorem Tryz.refuse_any {T : TypeId} {w : World} {own : Nat → Prop} {b : Nat} {m : Msg} (h : Tryz.Ms T w own b m) :
    Calls Tryz.prog 72 #[.pointer (some ⟨b, 0, none⟩)] w fun e1 w' => e1 = .returned (.agg #[.nilFunc, .nilFunc]) ∧ Tryz.MChg T own w w' b (refuse m).2 := by
  have hB := Tryz.Bx.start h
  have HB : Hid _ := hB
  clear hB
  go_enter Tryz.func72, Tryz.ntmps72
  go_upto_region 1 with (fail)
  generalize w.heap.size = g at *
  generalize w.alloc _ = W at *
  have c3 := HB.out.cell 3 _ fun _ _ _ => rfl
  obtain ⟨own', hm, ho, hg⟩ := HB.out.ms
  have hf := Tryz.fail_any hm m.at_ 180
  have hne := HB.out.ne
  go_wp2_with (first
    | (go_at_call 71; refine hf.mono ?_; clear hf; rintro e w1 ⟨rfl, hC⟩; have hB1 := HB.out.chg ho hg hC; obtain ⟨bc0, bc1, bf0, bf1⟩ := hB1.boxc; simp only [Tryz.stV, Wb.fail, Tryz.tkV, Tryz.thV])
    | fail)
  obtain ⟨r1, r2⟩ := hB1.ret (Tryz.tkV .no) (Tryz.thV .no)
  exact bodyPost_ret (Tryz.ret_st rfl rfl r1) rfl ⟨rfl, r2⟩
theorem Tryz.Bx.cut {T : TypeId} {own : Nat → Prop} {w W : World} {b g : Nat} {m : Msg} (h : Tryz.Bx T own w W b g m) {aw : Option Addr} {n cw : Nat} (hc : W.cell? ⟨b, 6, none⟩ = some (.slice aw n cw)) : Tryz.Bx T own w (W.setCell ⟨b, 6, none⟩ (.slice aw 0 cw)) b g { m with word := [] } := by
  obtain ⟨own', ⟨aw', cw', ah, ch, ab, cb, h1⟩, h2, h3⟩ := h.ms
  have e := (cell_of_row _ _ 6 _ _ _ h1.blk).symm.trans hc
  simp only [Tryz.mc, List.getElem?_toArray, List.getElem?_cons_succ, List.getElem?_cons_zero, Option.some.injEq, Value.slice.injEq] at e
  obtain ⟨rfl, -, rfl⟩ := e
  exact ⟨⟨own', h1.word0, h2, h3⟩, (Below.heap_setCell W ⟨b, 6, none⟩ _ g (fun e => h.ne (by simpa using e.symm))).trans h.box, h.wo.setCell b 6 _ (h2 b h1.ob), h.gl⟩
theorem Tryz.Bx.drew {T : TypeId} {own : Nat → Prop} {w W : World} {b g : Nat} {m : Msg} (h : Tryz.Bx T own w W b g m) : Tryz.Bx T own w W.drew b g m := h.below ((Below.refl _ W).drew)
theorem Tryz.Bx.drewN {T : TypeId} {own : Nat → Prop} {w W : World} {b g : Nat} {m : Msg} (h : Tryz.Bx T own w W b g m) (n : Nat) : Tryz.Bx T own w (W.drewN n) b g m := h.below (belowN (Below.refl _ W) n)
set_option maxHeartbeats 1000000 in
theorem Tryz.part_any {T : TypeId} {w : World} {own : Nat → Prop} {b : Nat} {m : Msg} (h : Tryz.Ms T w own b m) (hat : m.at_ ≤ 4611686018427387904) (t : Tk) (f : FuncId) :
    Calls Tryz.prog 87 #[.pointer (some ⟨b, 0, none⟩), .func (.func f) #[] #[]] w fun e1 w' => e1 = .returned (.agg #[.func (.func f) #[] #[], .nilFunc]) ∧ Tryz.MChg T own w w' b (Wb.part m t).2 := by
  have hB := Tryz.Bx.start h
  have HB : Hid _ := hB
  clear hB
  have hwr : IntKind.i64.wrap ((m.at_ : Int) + 1) = ((m.at_ + 1 : Nat) : Int) := by rw [IntKind.wrap_i64]; omega
  go_enter Tryz.func87, Tryz.ntmps87
  go_upto_region 1 with (fail)
  generalize w.heap.size = g at *
  generalize w.alloc _ = W at *
  have c3 := HB.out.cell 3 _ fun _ _ _ => rfl
  have c5 := HB.out.cell 5 _ fun _ _ _ => rfl
  have f5 := HB.out.frozen 5
  have f6 := HB.out.frozen 6
  obtain ⟨own', ⟨aw, cw, ah, ch, ab, cb, hmw⟩, ho, hg⟩ := HB.out.ms
  have c6 := cell_of_row _ _ 6 _ _ _ hmw.blk
  simp only [Tryz.mc, List.getElem?_toArray, List.getElem?_cons_succ, List.getElem?_cons_zero] at c6
  have HA : Hid (Tryz.Bx T own w ((W.setCell ⟨b, 5, none⟩ (.int .i64 (IntKind.i64.wrap ((m.at_ : Int) + 1)))).setCell ⟨b, 6, none⟩ (.slice aw 0 cw)).drew b g (Wb.part m t).2) := (Tryz.Bx.cut (n := m.word.length) (HB.out.set 5 _ { m with frm := m.at_ + 1 } (fun _ _ _ => by rw [hwr]; rfl) rfl rfl rfl) ((World.cell?_setCell_other _ _ _ _ (fun e => by injection e with _ e; cases e)).trans c6)).drew
  have HA2 : Hid (Tryz.Bx T own w ((W.setCell ⟨b, 6, none⟩ (.slice aw 0 cw)).setCell ⟨b, 5, none⟩ (.int .i64 (IntKind.i64.wrap ((m.at_ : Int) + 1)))).drew b g (Wb.part m t).2) := (Tryz.Bx.set (HB.out.cut c6) 5 _ (Wb.part m t).2 (fun _ _ _ => by rw [hwr]; rfl) rfl rfl rfl).drew
  clear HB hmw hwr
  go_region_with (fail)
  all_goals
    first
      | (have hB1 := HA.out; clear HA2; clear HA; generalize ((World.setCell _ ⟨b, 5, none⟩ _).setCell _ _).drew = W1 at *)
      | (have hB1 := HA2.out; clear HA2; clear HA; generalize ((World.setCell _ ⟨b, 6, none⟩ _).setCell _ _).drew = W1 at *)
    obtain ⟨bc0, bc1, bf0, bf1⟩ := hB1.boxc
    go_wp2
    obtain ⟨r1, r2⟩ := hB1.ret (.func (.func f) #[] #[]) .nilFunc
    exact bodyPost_ret (Tryz.ret_st rfl rfl r1) rfl ⟨rfl, r2⟩
theorem Tryz.info_u8 : (Tryz.prog.info? 5).map (fun i => (i.zero, i.size, i.bytes)) = some (some (.int .u8 0), 1, 1) := by kernel_rfl
/-- 'append' of one byte to a message's word. -/
theorem Tryz.appWord {ops : Array Oper} {rest : List Oper} {o : Oper} {a : Act} {Q : Exit → Act → World → Prop} (hgd : o.guard = none) (s y : Operand)
    (ho : o.op = .call { callee := .builtin .append, args := #[s, y], argTypes := #[26, 26] })
    {T : TypeId} {w : World} {own : Nat → Prop} {b : Nat} {m : Msg} {aw ah ab : Option Addr} {cw ch cb : Nat} (h : Tryz.Mw T w own b m aw cw ah ch ab cb)
    (hs : a.eval s = .slice aw m.word.length cw) (hy : a.eval y = .slice (some ⟨w.heap.size, 0, none⟩) 1 1) (c : UInt8) (hlen : m.word.length + 1 ≤ 140737488355328)
    (hK : ∀ g n cap w1, w1.cell? ⟨b, 6, none⟩ = some (.slice aw m.word.length cw) → w1.frozen? ⟨b, 6, none⟩ = false → Tryz.MChg T own w (w1.setCell ⟨b, 6, none⟩ (.slice (some ⟨g, 0, none⟩) n cap)) b { m with word := m.word ++ [c] } → wpList Tryz.prog ops Q rest (a.put o.dst (.slice (some ⟨g, 0, none⟩) n cap)) w1) : wpList Tryz.prog ops Q (o :: rest) a (w.alloc (.cells #[.int .u8 (c.toNat : Nat)] 5)) := by
  obtain ⟨i0, hi0, hz0, hz1, hz2⟩ := info_parts Tryz.info_u8
  have hn : (w.alloc (.cells #[.int .u8 (c.toNat : Nat)] 5)).heap[w.heap.size]? = some (.cells #[.int .u8 (c.toNat : Nat)] 5 (0, 0)) := heap_alloc_new w _
  have hb : Below w.heap.size w (w.alloc (.cells #[.int .u8 (c.toNat : Nat)] 5)) := (Below.refl w.heap.size w).alloc (Nat.le_refl _) _
  have hrow1 := row_keep h.word fun k e => hb.block k (h.lt k (h.dw k e).1)
  refine wpList_append_lies _ hgd s y 26 ho 0 5 i0 _ 1 1 Tryz.underlying26 hi0 hz0 hz1 hz2 rfl (by omega) _ m.word.length (Lib.byteCells m.word) hs hrow1 ⟨w.heap.size, 0, none⟩ 1 1 [.int .u8 (c.toNat : Nat)] hy rfl (World.news_of_block hn) (by simp [Value.oneCell']) (by omega) (by unfold maxLen; omega) (by omega) (by omega) _ rfl ?_
  intro g cap w' hown hg hat hlt
  have hsz : (w.alloc (.cells #[.int .u8 (c.toNat : Nat)] 5)).heap.size = w.heap.size + 1 := by simp
  have hw : Wo (fun k => (Value.slice aw m.word.length cw).ownBlock = some k) w w' := (Wo.ofBelow hb).grown hg fun k e => .inl e
  have e : Lib.byteCells m.word ++ [Value.int .u8 (c.toNat : Nat)] = Lib.byteCells (m.word ++ [c]) := by simp [Lib.byteCells]
  rw [e] at hown
  have hl : (Value.slice aw m.word.length cw).ownBlock = some g ∨ w.heap.size ≤ g := by
    rcases hat with e1 | e1
    · exact .inl e1
    · exact .inr (by show w.heap.size ≤ g; rw [e1, hsz]; omega)
  have hbl : w'.heap[b]? = w.heap[b]? := hw.block b (h.lt b h.ob) fun e => (h.dw b e).2.1 rfl
  have hx1 := hbl.trans h.blk
  have hx2 := heap_setCell_same w' b 6 _ _ (.slice (some ⟨g, 0, none⟩) (m.word.length + 1) cap) hx1
  have hgb : g ≠ b := fun e => by
    subst e
    rcases hl with e1 | e1
    · exact (h.dw _ e1).2.1 rfl
    · exact absurd (h.lt _ h.ob) (by omega)
  have hot : ∀ k, k ≠ b → (w'.setCell ⟨b, 6, none⟩ (.slice (some ⟨g, 0, none⟩) (m.word.length + 1) cap)).heap[k]? = w'.heap[k]? := fun k hk => Below.heap_setCell w' ⟨b, 6, none⟩ _ k (fun e => hk (by simpa using e))
  have hss : (w'.setCell ⟨b, 6, none⟩ (.slice (some ⟨g, 0, none⟩) (m.word.length + 1) cap)).heap.size = w'.heap.size := by simp
  have hgl : g < w'.heap.size := (hown.lt g rfl).2
  refine hK g _ cap w' ((cell_of_row _ _ 6 _ _ _ hx1).trans rfl) (frozen_of_row _ _ 6 _ _ hx1) ⟨⟨fun k => own k ∨ (w.heap.size ≤ k ∧ k < w'.heap.size), ⟨some ⟨g, 0, none⟩, cap, ah, ch, ab, cb, ?_, ?_, ?_, ?_, ?_, ?_, ?_, .inl h.ob, ?_⟩, fun k e => e.imp id (·.1)⟩, (hw.mono fun k e => (h.dw k e).1).setCell b 6 _ (.inl h.ob)⟩
  · rw [hx2, show (m.word ++ [c]).length = m.word.length + 1 by simp]; rfl
  · rw [show (m.word ++ [c]).length = m.word.length + 1 by simp]
    exact row_keep hown fun k e => hot k (by cases e; exact hgb)
  · exact row_keep h.heads fun k e => (hot k (h.dh k e).2.1).trans (hw.block k (h.lt k (h.dh k e).1) fun e' => (h.dw k e').2.2.1 e)
  · exact row_keep h.body fun k e => (hot k (h.db k e).2).trans (hw.block k (h.lt k (h.db k e).1) fun e' => (h.dw k e').2.2.2 e)
  · intro k e
    cases e
    rcases hl with e1 | e1
    · exact ⟨.inl (h.dw _ e1).1, hgb, (h.dw _ e1).2.2⟩
    · exact ⟨.inr ⟨e1, hgl⟩, hgb, fun e => absurd (h.lt _ (h.dh _ e).1) (by show ¬ g < _; omega), fun e => absurd (h.lt _ (h.db _ e).1) (by show ¬ g < _; omega)⟩
  · intro k e
    exact ⟨.inl (h.dh k e).1, (h.dh k e).2⟩
  · intro k e
    exact ⟨.inl (h.db k e).1, (h.db k e).2⟩
  · rw [hss]
    rintro k (e | e)
    · exact Nat.lt_of_lt_of_le (h.lt k e) hw.size
    · exact e.2
set_option maxHeartbeats 1000000 in
theorem Tryz.keep_any {T : TypeId} {w : World} {own : Nat → Prop} {b : Nat} {m : Msg} (h : Tryz.Ms T w own b m) (c : UInt8) (hl : m.word.length ≤ 70368744177664) :
    Calls Tryz.prog 73 #[.pointer (some ⟨b, 0, none⟩), .int .u8 c.toNat] w fun e1 w' => (∃ v, e1 = .returned v) ∧ Tryz.MChg T own w w' b (Wb.keep m c) := by
  obtain ⟨aw, cw, ah, ch, ab, cb, hmw⟩ := h.ex
  have c6 := cell_of_row _ _ 6 _ _ _ hmw.blk
  have c14 := cell_of_row _ _ 14 _ _ _ hmw.blk
  simp only [Tryz.mc, List.getElem?_toArray, List.getElem?_cons_succ, List.getElem?_cons_zero] at c6 c14
  have hlen : m.word.length + 1 ≤ 140737488355328 := by omega
  have HM : Hid _ := hmw
  have HL : Hid (m.word.length + 1 ≤ 140737488355328) := hlen
  clear hmw hl hlen
  have HH : Hid _ := h
  clear h
  unfold Wb.keep
  by_cases ht : m.trailers = true
  · rw [if_pos ht]
    rw [ht] at c14
    clear ht
    go_enter Tryz.func73, Tryz.ntmps73
    go_wp2
    go_end0
    exact ⟨⟨_, rfl⟩, Tryz.MChg.refl HH.out⟩
  · rw [if_neg ht]
    rw [Bool.eq_false_iff.2 ht] at c14
    clear ht
    go_enter Tryz.func73, Tryz.ntmps73
    go_wp2_with (first | (at_builtin; refine Tryz.appWord rfl _ _ rfl HM.out rfl rfl c HL.out ?_; intro g1 n1 cap1 w1 hc2 hf2 hC2) | fail)
    go_end0
    exact ⟨⟨_, rfl⟩, hC2⟩
end Go.Proofs
