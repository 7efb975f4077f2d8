/-
  Laid together by packg.py of Xp.
-/
import Derived.Test.YtjiidkkmnlcpcaaGreatDoorPaI
import Derived.Test.YtjiidkkmnlcpcaaGreatDoorShelf
import Derived.Shelf.Strings.SlTrimAscii
import Derived.Deep.AppendLies
namespace Go.Proofs
open Go.RowKit Go.Wi Go.Wb
theorem Tryz.info256 : (Tryz.prog.info? (Tryz.lays162_ren.t 116)).map (fun i => (i.zero, i.size)) = some (some (.agg (Array.replicate 256 (.bool false))), 256) := by kernel_rfl
theorem Tryz.trimRight_any (l : List UInt8) (hl : l.length ≤ 9223372036854775807) (w : World) : Calls Tryz.prog 153 #[.string ⟨l.toArray⟩, .string ⟨#[32, 9]⟩] w fun e w' => e = .returned (.string ⟨(trimR l).toArray⟩) ∧ Below w.heap.size w w' := by
  have h := Any.strings_TrimRight_laid Tryz.lays162 Tryz.info256 ⟨l.toArray⟩ ⟨#[32, 9]⟩ w (by show l.toArray.size ≤ _; simpa using hl) (by decide) (ascii_of_all (by decide))
  exact h
theorem Tryz.infoPair : (Tryz.prog.info? 57).map (fun i => (i.zero, i.size, i.bytes)) = some (some (.agg #[.string ByteArray.empty, .string ByteArray.empty]), 2, 32) := by kernel_rfl
/-- 'append' of one header, in a region that draws. -/
theorem Tryz.stepHead {ops : Array Oper} {o : Oper} {a : Act} {K : Act → World → Prop} {Q : Exit → Act → World → Prop} {E : Prop} (hgd : o.guard = none) (s y : Operand)
    (ho : o.op = .call { callee := .builtin .append, args := #[s, y], argTypes := #[25, 25] })
    {T : TypeId} {w : World} {own : Nat → Prop} {b : Nat} {m : Msg} {aw ah ab : Option Addr} {cw ch cb : Nat} (h : Tryz.Mw T w own b m aw cw ah ch ab cb)
    (hs : a.eval s = .slice ah m.headers.length ch) (hy : a.eval y = .slice (some ⟨w.heap.size, 0, none⟩) 1 1) (nm vl : List UInt8) (hlen : m.headers.length + 1 ≤ 4398046511104)
    (hK : ∀ g n cap w1, w1.cell? ⟨b, 13, none⟩ = some (.slice ah m.headers.length ch) → w1.frozen? ⟨b, 13, none⟩ = false → Tryz.MChg T own w (w1.setCell ⟨b, 13, none⟩ (.slice (some ⟨g, 0, none⟩) n cap)) b { m with headers := m.headers ++ [(nm, vl)] } → K (a.put o.dst (.slice (some ⟨g, 0, none⟩) n cap)) w1) :
    if Region.wanted o (yielded ops a.tmps) = true then Oper.wp Tryz.prog o a (w.alloc (.cells #[.string ⟨nm.toArray⟩, .string ⟨vl.toArray⟩] 57)) K Q else E := by
  obtain ⟨i0, hi0, hz0, hz1, hz2⟩ := info_parts Tryz.infoPair
  have hn : (w.alloc (.cells #[.string ⟨nm.toArray⟩, .string ⟨vl.toArray⟩] 57)).heap[w.heap.size]? = some (.cells #[.string ⟨nm.toArray⟩, .string ⟨vl.toArray⟩] 57 (0, 0)) := heap_alloc_new w _
  have hb : Below w.heap.size w (w.alloc (.cells #[.string ⟨nm.toArray⟩, .string ⟨vl.toArray⟩] 57)) := (Below.refl w.heap.size w).alloc (Nat.le_refl _) _
  have hrow1 := row_keep h.heads fun k e => hb.block k (h.lt k (h.dh k e).1)
  refine step_append_lies _ hgd s y 25 ho 0 57 i0 _ 2 32 Tryz.underlying25 hi0 hz0 hz1 hz2 rfl (by omega) _ m.headers.length (hdCells m.headers) hs hrow1 ⟨w.heap.size, 0, none⟩ 1 1 [.string ⟨nm.toArray⟩, .string ⟨vl.toArray⟩] hy rfl (World.news_of_block (cs := #[.string ⟨nm.toArray⟩, .string ⟨vl.toArray⟩]) hn) (fun u hu => by simp at hu; rcases hu with rfl | rfl <;> rfl) (by omega) (by unfold maxLen; omega) (by omega) (by omega) _ rfl ?_
  intro g cap w' hown hg hat hlt
  have hsz : (w.alloc (.cells #[.string ⟨nm.toArray⟩, .string ⟨vl.toArray⟩] 57)).heap.size = w.heap.size + 1 := by simp
  have hw : Wo (fun k => (Value.slice ah m.headers.length ch).ownBlock = some k) w w' := (Wo.ofBelow hb).grown hg fun k e => .inl e
  have e : hdCells m.headers ++ [.string ⟨nm.toArray⟩, .string ⟨vl.toArray⟩] = hdCells (m.headers ++ [(nm, vl)]) := by rw [hdCells_app]; rfl
  rw [e] at hown
  have hl : (Value.slice ah m.headers.length ch).ownBlock = some g ∨ w.heap.size ≤ g := by
    rcases hat with e1 | e1
    · exact .inl e1
    · exact .inr (by show w.heap.size ≤ g; rw [e1, hsz]; omega)
  have hbl : w'.heap[b]? = w.heap[b]? := hw.block b (h.lt b h.ob) fun e => (h.dh b e).2.1 rfl
  have hx1 := hbl.trans h.blk
  have hx2 := heap_setCell_same w' b 13 _ _ (.slice (some ⟨g, 0, none⟩) (m.headers.length + 1) cap) hx1
  have hgb : g ≠ b := fun e => by
    subst e
    rcases hl with e1 | e1
    · exact (h.dh _ e1).2.1 rfl
    · exact absurd (h.lt _ h.ob) (by omega)
  have hot : ∀ k, k ≠ b → (w'.setCell ⟨b, 13, none⟩ (.slice (some ⟨g, 0, none⟩) (m.headers.length + 1) cap)).heap[k]? = w'.heap[k]? := fun k hk => Below.heap_setCell w' ⟨b, 13, none⟩ _ k (fun e => hk (by simpa using e))
  have hss : (w'.setCell ⟨b, 13, none⟩ (.slice (some ⟨g, 0, none⟩) (m.headers.length + 1) cap)).heap.size = w'.heap.size := by simp
  have hgl : g < w'.heap.size := (hown.lt g rfl).2
  refine hK g _ cap w' ((cell_of_row _ _ 13 _ _ _ hx1).trans rfl) (frozen_of_row _ _ 13 _ _ hx1) ⟨⟨fun k => own k ∨ (w.heap.size ≤ k ∧ k < w'.heap.size), ⟨aw, cw, some ⟨g, 0, none⟩, cap, ab, cb, ?_, ?_, ?_, ?_, ?_, ?_, ?_, .inl h.ob, ?_⟩, fun k e => e.imp id (·.1)⟩, (hw.mono fun k e => (h.dh k e).1).setCell b 13 _ (.inl h.ob)⟩
  · rw [hx2, show (m.headers ++ [(nm, vl)]).length = m.headers.length + 1 by simp]; rfl
  · exact row_keep h.word fun k e => (hot k (h.dw k e).2.1).trans (hw.block k (h.lt k (h.dw k e).1) fun e' => (h.dw k e).2.2.1 e')
  · rw [show (m.headers ++ [(nm, vl)]).length = m.headers.length + 1 by simp]
    exact row_keep hown fun k e => hot k (by cases e; exact hgb)
  · exact row_keep h.body fun k e => (hot k (h.db k e).2).trans (hw.block k (h.lt k (h.db k e).1) fun e' => (h.dh k e').2.2 e)
  · intro k e
    refine ⟨.inl (h.dw k e).1, (h.dw k e).2.1, fun e' => ?_, (h.dw k e).2.2.2⟩
    cases e'
    rcases hl with e1 | e1
    · exact (h.dw _ e).2.2.1 e1
    · exact absurd (h.lt _ (h.dw _ e).1) (by show ¬ g < _; omega)
  · intro k e
    cases e
    rcases hl with e1 | e1
    · exact ⟨.inl (h.dh _ e1).1, hgb, (h.dh _ e1).2.2⟩
    · exact ⟨.inr ⟨e1, hgl⟩, hgb, fun e => absurd (h.lt _ (h.db _ e).1) (by show ¬ g < _; omega)⟩
  · intro k e
    exact ⟨.inl (h.db k e).1, (h.db k e).2⟩
  · rw [hss]
    rintro k (e | e)
    · exact Nat.lt_of_lt_of_le (h.lt k e) hw.size
    · exact e.2
set_option maxRecDepth 20000 in
set_option maxHeartbeats 8000000 in
theorem Tryz.headerEnds_any {T : TypeId} {w : World} {own : Nat → Prop} {b : Nat} {m : Msg} (h : Tryz.Ms T w own b m) (hat : m.at_ ≤ 4611686018427387904) (hl : m.word.length ≤ 70368744177664) (hh : m.headers.length ≤ 4398046511000) :
    Calls Tryz.prog 146 #[.pointer (some ⟨b, 0, none⟩)] w fun e w' => e = .returned (Tryz.stV (Wb.headerEnds m).1) ∧ Tryz.MChg T own w w' b (Wb.headerEnds m).2 := by
  have HB : Hid _ := Tryz.Bx.start h
  by_cases ht : m.trailers = true
  · simp only [Wb.headerEnds, if_pos ht]
    go_enter Tryz.func146, Tryz.ntmps146
    go_upto_region 1 with (fail)
    generalize w.heap.size = g at *
    generalize w.alloc _ = W at *
    have hne := HB.out.ne
    have c14 := HB.out.cell 14 (.bool m.trailers) fun _ _ _ => rfl
    rw [ht] at c14
    obtain ⟨own', hm, ho, hg⟩ := HB.out.ms
    have k1 := Tryz.headerLine_any hm hat
    simp only [Tryz.stV, Wb.headerLine, Wb.part, Tryz.tkV, Tryz.thV] at k1
    go_wp2_with (first
      | (go_at_call 128; refine k1.mono ?_; clear k1; rintro e w1 ⟨rfl, hC⟩; have hB1 := HB.out.chg ho hg hC; obtain ⟨bc0, bc1, bf0, bf1⟩ := hB1.boxc)
      | fail)
    obtain ⟨r1, r2⟩ := hB1.ret (Tryz.tkV .atLine) (Tryz.thV .no)
    exact bodyPost_ret (Tryz.ret_st rfl rfl r1) rfl ⟨rfl, r2⟩
  · simp only [Wb.headerEnds, if_neg ht]
    have kT := Tryz.trimRight_any m.word (by omega)
    have HH : Hid (m.headers.length + 1 ≤ 4398046511104) := (by show m.headers.length + 1 ≤ _; omega)
    have HAT : Hid (m.at_ ≤ 4611686018427387904) := hat
    clear hat hl hh
    go_enter Tryz.func146, Tryz.ntmps146
    go_upto_region 1 with (fail)
    generalize w.heap.size = g at *
    generalize w.alloc _ = W at *
    have hne := HB.out.ne
    have c14 := HB.out.cell 14 (.bool m.trailers) fun _ _ _ => rfl
    rw [Bool.eq_false_iff.2 ht] at c14
    clear ht
    have HBd : Hid (Tryz.Bx T own w W.drew b g m) := HB.out.drew
    obtain ⟨own6, ⟨aw, cw, ah, ch, ab, cb, hmw⟩, ho6, hg6⟩ := HBd.out.ms
    have c6 := cell_of_row _ _ 6 _ _ _ hmw.blk
    have c13 := cell_of_row _ _ 13 _ _ _ hmw.blk
    have c12 := HBd.out.cell 12 (.string ⟨m.name.toArray⟩) fun _ _ _ => rfl
    simp only [Tryz.mc, List.getElem?_toArray, List.getElem?_cons_succ, List.getElem?_cons_zero] at c6 c13
    have hcv : ∀ W1, Below W.drew.heap.size W.drew W1 → (convert 23 9 (.slice aw m.word.length cw)).run Tryz.prog W1 = .ok (.string ⟨m.word.toArray⟩) W1 := fun W1 hb => Tryz.conv_bs ((Bs.ofRow hmw.word).below hb fun k e => hmw.lt k (hmw.dw k e).1)
    have hcv0 := hcv _ (Below.refl _ _)
    have HM : Hid (Tryz.Mw T W.drew own6 b m aw cw ah ch ab cb) := hmw
    clear hmw
    go_wp2
    clear c14 HB hne h
    go_region_law (first
      | (go_simp; refine (kT _).mono ?_; rintro e4 w4 ⟨rfl, hb4⟩; have hm4 : Tryz.Mw T w4 own6 b m aw cw ah ch ab cb := HM.out.keep (fun k e => hb4.block k (HM.out.lt k e)) hb4.size; have d6 := cell_of_row _ _ 6 _ _ _ hm4.blk; have d13 := cell_of_row _ _ 13 _ _ _ hm4.blk; have d12 := cell_of_row _ _ 12 _ _ _ hm4.blk; simp only [Tryz.mc, List.getElem?_toArray, List.getElem?_cons_succ, List.getElem?_cons_zero] at d6 d13 d12; clear c6 c13 c12 hcv0; have hcv4 := hcv _ hb4; have e13 := (((Below.refl w4.heap.size w4).alloc (Nat.le_refl _) (.cells #[.string ⟨m.name.toArray⟩, .string ⟨(trimR m.word).toArray⟩] 57)).cell (p := ⟨b, 13, none⟩) (hm4.lt b hm4.ob)).trans d13)
      | (refine Tryz.stepHead (by rfl) _ _ (by rfl) hm4 (by rfl) (by rfl) m.name (trimR m.word) HH.out ?_; intro g5 n5 cap5 w5 hc5 hf5 hC5)
      | fail)
    all_goals
      have hB4 := HBd.out.below hb4
      have hB5 := hB4.chg ho6 hg6 hC5
      generalize w5.setCell _ _ = W5 at *
      obtain ⟨own', hm, ho, hg⟩ := hB5.ms
      have k1 := Tryz.headerLine_any hm HAT.out
      simp only [Tryz.stV, Wb.headerLine, Wb.part, Tryz.tkV, Tryz.thV] at k1
      go_wp2_with (first
        | (go_at_call 128; refine k1.mono ?_; clear k1; rintro e w1 ⟨rfl, hC⟩; have hB1 := hB5.chg ho hg hC; obtain ⟨bc0, bc1, bf0, bf1⟩ := hB1.boxc)
        | fail)
      obtain ⟨r1, r2⟩ := hB1.ret (Tryz.tkV .atLine) (Tryz.thV .no)
      exact bodyPost_ret (Tryz.ret_st rfl rfl r1) rfl ⟨rfl, r2⟩
end Go.Proofs
