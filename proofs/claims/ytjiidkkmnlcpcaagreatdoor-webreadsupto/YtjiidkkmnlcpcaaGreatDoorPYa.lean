/-
  Laid together by packg.py of Ya.
-/
import Derived.Test.YtjiidkkmnlcpcaaGreatDoorPXz
namespace Go.Proofs
open Go.RowKit Go.Wi Go.Wb
/-- 'append' of bytes to a body, in a region that draws. -/
theorem Tryz.stepBody {ops : Array Oper} {o : Oper} {a : Act} {K : Act → World → Prop} {Q : Exit → Act → World → Prop} {E : Prop} (hgd : o.guard = none) (s y : Operand)
    (ho : o.op = .call { callee := .builtin .append, args := #[s, y], argTypes := #[23, 23] })
    {T : TypeId} {w : World} {own : Nat → Prop} {b : Nat} {m : Msg} {aw ah ab : Option Addr} {cw ch cb : Nat} (h : Tryz.Mw T w own b m aw cw ah ch ab cb)
    (hs : a.eval s = .slice ab m.body.length cb) {gv ov n c : Nat} (hy : a.eval y = .slice (some ⟨gv, ov, none⟩) n c) (xs : List UInt8) (hn : n = xs.length) (h0 : 0 < n) (hx : ∀ (j : Nat) (u : Value), (Lib.byteCells xs)[j]? = some u → w.cell? ⟨gv, ov + j, none⟩ = some u) (hlen : m.body.length + n ≤ 140737488355328)
    (hK : ∀ g k cap w1, w1.cell? ⟨b, 19, none⟩ = some (.slice ab m.body.length cb) → w1.frozen? ⟨b, 19, none⟩ = false → Tryz.MChg T own w (w1.setCell ⟨b, 19, none⟩ (.slice (some ⟨g, 0, none⟩) k cap)) b { m with body := m.body ++ xs } → K (a.put o.dst (.slice (some ⟨g, 0, none⟩) k cap)) w1) :
    if Region.wanted o (yielded ops a.tmps) = true then Oper.wp Tryz.prog o a w K Q else E := by
  subst hn
  obtain ⟨i0, hi0, hz0, hz1, hz2⟩ := info_parts Tryz.info_u8
  refine step_append_lies _ hgd s y 23 ho 0 5 i0 _ 1 1 Tryz.underlying23 hi0 hz0 hz1 hz2 rfl (by omega) _ m.body.length (Lib.byteCells m.body) hs h.body ⟨gv, ov, none⟩ xs.length c (Lib.byteCells xs) hy (by rw [byteCells_len]; omega) (fun j u hu => by rw [Addr.add_mid]; exact hx j u hu) (by
    intro u hu
    simp only [Lib.byteCells, List.mem_map] at hu
    obtain ⟨b, _, rfl⟩ := hu
    rfl) h0 (by unfold maxLen; omega) (by omega) (Nat.zero_le _) _ rfl ?_
  intro g cap w' hown hg hat hlt
  have hw : Wo (fun k => (Value.slice ab m.body.length cb).ownBlock = some k) w w' := (Wo.refl _ w).grown hg fun k e => .inl e
  rw [← byteCells_app] at hown
  have hl : (Value.slice ab m.body.length cb).ownBlock = some g ∨ w.heap.size ≤ g := by
    rcases hat with e1 | e1
    · exact .inl e1
    · exact .inr (Nat.le_of_eq e1.symm)
  have hbl : w'.heap[b]? = w.heap[b]? := hw.block b (h.lt b h.ob) fun e => (h.db b e).2 rfl
  have hx1 := hbl.trans h.blk
  have hx2 := heap_setCell_same w' b 19 _ _ (.slice (some ⟨g, 0, none⟩) (m.body.length + xs.length) cap) hx1
  have hgb : g ≠ b := fun e => by
    subst e
    rcases hl with e1 | e1
    · exact (h.db _ e1).2 rfl
    · exact absurd (h.lt _ h.ob) (by omega)
  have hot : ∀ k, k ≠ b → (w'.setCell ⟨b, 19, none⟩ (.slice (some ⟨g, 0, none⟩) (m.body.length + xs.length) cap)).heap[k]? = w'.heap[k]? := fun k hk => Below.heap_setCell w' ⟨b, 19, none⟩ _ k (fun e => hk (by simpa using e))
  have hss : (w'.setCell ⟨b, 19, none⟩ (.slice (some ⟨g, 0, none⟩) (m.body.length + xs.length) cap)).heap.size = w'.heap.size := by simp
  have hgl : g < w'.heap.size := (hown.lt g rfl).2
  refine hK g _ cap w' ((cell_of_row _ _ 19 _ _ _ hx1).trans rfl) (frozen_of_row _ _ 19 _ _ hx1) ⟨⟨fun k => own k ∨ (w.heap.size ≤ k ∧ k < w'.heap.size), ⟨aw, cw, ah, ch, some ⟨g, 0, none⟩, cap, ?_, ?_, ?_, ?_, ?_, ?_, ?_, .inl h.ob, ?_⟩, fun k e => e.imp id (·.1)⟩, (hw.mono fun k e => (h.db k e).1).setCell b 19 _ (.inl h.ob)⟩
  · rw [hx2, show (m.body ++ xs).length = m.body.length + xs.length by simp]; rfl
  · exact row_keep h.word fun k e => (hot k (h.dw k e).2.1).trans (hw.block k (h.lt k (h.dw k e).1) fun e' => (h.dw k e).2.2.2 e')
  · exact row_keep h.heads fun k e => (hot k (h.dh k e).2.1).trans (hw.block k (h.lt k (h.dh k e).1) fun e' => (h.dh k e).2.2 e')
  · rw [show (m.body ++ xs).length = m.body.length + xs.length by simp]
    exact row_keep hown fun k e => hot k (by cases e; exact hgb)
  · intro k e
    refine ⟨.inl (h.dw k e).1, (h.dw k e).2.1, (h.dw k e).2.2.1, fun e' => ?_⟩
    cases e'
    rcases hl with e1 | e1
    · exact (h.dw _ e).2.2.2 e1
    · exact absurd (h.lt _ (h.dw _ e).1) (by show ¬ g < _; omega)
  · intro k e
    refine ⟨.inl (h.dh k e).1, (h.dh k e).2.1, fun e' => ?_⟩
    cases e'
    rcases hl with e1 | e1
    · exact (h.dh _ e).2.2 e1
    · exact absurd (h.lt _ (h.dh _ e).1) (by show ¬ g < _; omega)
  · intro k e
    cases e
    rcases hl with e1 | e1
    · exact ⟨.inl (h.db _ e1).1, hgb⟩
    · exact ⟨.inr ⟨e1, hgl⟩, hgb⟩
  · rw [hss]
    rintro k (e | e)
    · exact Nat.lt_of_lt_of_le (h.lt k e) hw.size
    · exact e.2
/-- The numbers of a message behind bytes of its body. -/
theorem Tryz.MChg.filled {T : TypeId} {own : Nat → Prop} {w w' : World} {b : Nat} {m : Msg} {xs : List UInt8} (h : Tryz.MChg T own w w' b { m with body := m.body ++ xs }) (_hl : xs.length ≤ m.left) (x y : Int) (hx : x = ((m.left - xs.length : Nat) : Int)) (hy : y = ((m.at_ + xs.length : Nat) : Int)) : Tryz.MChg T own w ((w'.setCell ⟨b, 18, none⟩ (.int .i64 x)).setCell ⟨b, 3, none⟩ (.int .i64 y)) b { m with body := m.body ++ xs, left := m.left - xs.length, at_ := m.at_ + xs.length } := by
  subst hx hy
  obtain ⟨own', h1, h2⟩ := h.ex
  have hob : own' b := by obtain ⟨aw, cw, ah, ch, ab, cb, h4⟩ := h1.ex; exact h4.ob
  have h3 := (h1.set 18 (.int .i64 ((m.left - xs.length : Nat) : Int)) { m with body := m.body ++ xs, left := m.left - xs.length } (fun _ _ _ => rfl) rfl rfl rfl).set 3 (.int .i64 ((m.at_ + xs.length : Nat) : Int)) { m with body := m.body ++ xs, left := m.left - xs.length, at_ := m.at_ + xs.length } (fun _ _ _ => rfl) rfl rfl rfl
  exact ⟨⟨own', h3, h2⟩, (h.wo.setCell b 18 _ (h2 b hob)).setCell b 3 _ (h2 b hob)⟩
set_option maxRecDepth 20000 in
set_option maxHeartbeats 1000000 in
theorem Tryz.fill_any {T : TypeId} {w : World} {own : Nat → Prop} {b : Nat} {m : Msg} (h : Tryz.Ms T w own b m) {gv ov n cap k : Nat} (hn : n ≤ cap) (xs : List UInt8) (hk : min m.left n = k) (hxs : xs.length = k) (h0 : 0 < k) (hx : ∀ (j : Nat) (u : Value), (Lib.byteCells xs)[j]? = some u → w.cell? ⟨gv, ov + j, none⟩ = some u) (hb : m.body.length + k ≤ 140737488355328) (hat : m.at_ + k ≤ 4611686018427387904) (hll : m.left ≤ 999999999) (_hn63 : n ≤ 9223372036854775807) :
    Calls Tryz.prog 45 #[.pointer (some ⟨b, 0, none⟩), .slice (some ⟨gv, ov, none⟩) n cap] w fun e w' => e = .returned (.int .i64 k) ∧ Tryz.MChg T own w w' b { m with body := m.body ++ xs, left := m.left - xs.length, at_ := m.at_ + xs.length } := by
  have hd := h.below ((Below.refl _ w).drew)
  obtain ⟨aw, cw, ah, ch, ab, cb, hmw⟩ := hd.ex
  have HM : Hid (Tryz.Mw T w.drew own b m aw cw ah ch ab cb) := hmw
  have c18 : w.cell? ⟨b, 18, none⟩ = some (.int .i64 m.left) := (cell_of_row _ _ 18 _ _ _ hmw.blk).trans rfl
  have c19 : w.drew.cell? ⟨b, 19, none⟩ = some (.slice ab m.body.length cb) := (cell_of_row _ _ 19 _ _ _ hmw.blk).trans rfl
  have HX : Hid (∀ (j : Nat) (u : Value), (Lib.byteCells xs)[j]? = some u → w.drew.cell? ⟨gv, ov + j, none⟩ = some u) := hx
  have HXL : Hid (k = xs.length) := hxs.symm
  have HB : Hid (m.body.length + k ≤ 140737488355328) := hb
  have hkl : k ≤ m.left ∧ k ≤ n := by omega
  have hmin : min (m.left : Int) (n : Int) = (k : Int) := by omega
  have HLK : Hid (xs.length ≤ m.left) := (by show xs.length ≤ m.left; omega)
  have e1 : (m.left : Int) - (k : Int) = ((m.left - xs.length : Nat) : Int) := by omega
  have e2 : (m.at_ : Int) + (k : Int) = ((m.at_ + xs.length : Nat) : Int) := by omega
  have HE1 : Hid ((m.left : Int) - (k : Int) = ((m.left - xs.length : Nat) : Int)) := e1
  have HE2 : Hid ((m.at_ : Int) + (k : Int) = ((m.at_ + xs.length : Nat) : Int)) := e2
  have hwo : Wo own w w.drew := (Wo.refl own w).drew
  have HWO : Hid (Wo own w w.drew) := hwo
  obtain ⟨hkl1, hkl2⟩ := hkl
  have hq0 : (0 : Int) ≤ (k : Int) := by omega
  have hq1 : (k : Int) ≤ (cap : Int) := by omega
  clear hmw hd h hx hxs hb e1 e2 hk hwo
  go_enter Tryz.func45, Tryz.ntmps45
  go_wp2
  go_region_law (first
    | (refine Tryz.stepBody (by rfl) _ _ (by rfl) HM.out (by rfl) (by rfl) xs HXL.out h0 HX.out HB.out ?_; intro g5 n5 cap5 w5 hc5 hf5 hC5)
    | fail)
  all_goals
    have hC : Tryz.MChg T own w (w5.setCell ⟨b, 19, none⟩ (.slice (some ⟨g5, 0, none⟩) n5 cap5)) b { m with body := m.body ++ xs } := Tryz.MChg.trans HWO.out (fun k e => .inl e) hC5
    generalize w5.setCell ⟨b, 19, none⟩ _ = W5 at *
    obtain ⟨own1, ⟨aw1, cw1, ah1, ch1, ab1, cb1, hm1⟩, ho1⟩ := hC.ex
    have d18 : W5.cell? ⟨b, 18, none⟩ = some (.int .i64 m.left) := (cell_of_row _ _ 18 _ _ _ hm1.blk).trans rfl
    have d3 : W5.cell? ⟨b, 3, none⟩ = some (.int .i64 m.at_) := (cell_of_row _ _ 3 _ _ _ hm1.blk).trans rfl
    have f18 : W5.frozen? ⟨b, 18, none⟩ = false := frozen_of_row _ _ 18 _ _ hm1.blk
    have f3 : W5.frozen? ⟨b, 3, none⟩ = false := frozen_of_row _ _ 3 _ _ hm1.blk
    have HC : Hid _ := hC
    clear hC hC5 hm1 hc5 hf5 ho1 c18 c19
    go_wp2
    go_ret
    exact ⟨rfl, HC.out.filled HLK.out _ _ HE1.out HE2.out⟩
end Go.Proofs
