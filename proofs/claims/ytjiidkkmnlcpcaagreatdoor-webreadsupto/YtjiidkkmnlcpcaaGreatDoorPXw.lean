/-
  Laid together by packg.py of Xw.
-/
import Derived.Test.YtjiidkkmnlcpcaaGreatDoorPXv
namespace Go.Proofs
open Go.RowKit Go.Wi Go.Wb
theorem Wb.bare_is (n : Nat) : ((n : Int) == 204 || (n : Int) == 304) = bare n := by
  unfold bare
  by_cases e : n = 204
  · rw [e]; rfl
  · by_cases e2 : n = 304
    · rw [e2]; rfl
    · have a1 : ((n : Int) == 204) = false := by simp; omega
      have a2 : ((n : Int) == 304) = false := by simp; omega
      have b1 : (n == 204) = false := by simpa using e
      have b2 : (n == 304) = false := by simpa using e2
      rw [a1, a2, b1, b2]
theorem Tryz.Bx.wordNil {T : TypeId} {own : Nat → Prop} {w W : World} {b g : Nat} {m : Msg} (h : Tryz.Bx T own w W b g m) : Tryz.Bx T own w (W.setCell ⟨b, 6, none⟩ (.slice none 0 0)) b g { m with word := [] } := by
  obtain ⟨own', ⟨aw, cw, ah, ch, ab, cb, h1⟩, h2, h3⟩ := h.ms
  have ho : ∀ k, k ≠ b → (W.setCell ⟨b, 6, none⟩ (.slice none 0 0)).heap[k]? = W.heap[k]? := fun k hk => Below.heap_setCell W ⟨b, 6, none⟩ _ k (fun e => hk (by simpa using e))
  have hx := heap_setCell_same W b 6 _ _ (.slice none 0 0) h1.blk
  refine ⟨⟨own', ⟨none, 0, ah, ch, ab, cb, hx, World.ownsRow_nil _ _ _ _, row_keep h1.heads fun k e => ho k (h1.dh k e).2.1, row_keep h1.body fun k e => ho k (h1.db k e).2, (fun k e => by cases e), h1.dh, h1.db, h1.ob, fun k e => by simpa using h1.lt k e⟩, h2, h3⟩, (ho g h.ne.symm).trans h.box, h.wo.setCell b 6 _ (h2 b h1.ob), h.gl⟩
set_option maxRecDepth 20000 in
set_option maxHeartbeats 1000000 in
theorem Tryz.headEnds_any {T : TypeId} {w : World} {own : Nat → Prop} {b : Nat} {m : Msg} (h : Tryz.Ms T w own b m) (hat : m.at_ ≤ 4611686018427387904) (hh : m.headers.length ≤ 4398046511000) (hs : ∀ p ∈ m.headers, p.2.length ≤ 4000000000) (hmo : m.most ≤ 999999999) :
    Calls Tryz.prog 141 #[.pointer (some ⟨b, 0, none⟩)] w fun e w' => e = .returned (Tryz.stV (Wb.headEnds m).1) ∧ Tryz.MChg T own w w' b (Wb.headEnds m).2 := by
  have HB : Hid _ := Tryz.Bx.start h
  have kf := fun (W : World) (own : Nat → Prop) (hm : Tryz.Ms T W own b m) => Tryz.frame_any hm hh hs hmo
  have kl := fun (W : World) (own : Nat → Prop) (hm : Tryz.Ms T W own b m) => Tryz.isLast_any hm hh hs
  have kb := Tryz.hasNoBody_any (m.status : Int)
  rw [Wb.bare_is] at kb
  clear hh hs hmo
  have hdef : Wb.headEnds m = if (frame m).2.2 ≠ 0 then fail m (m.at_ + 1) (frame m).2.2 else if bare m.status then ((.no, .no), { m with last := Wb.isLast m }) else if (frame m).2.1 then sizeLine { m with last := Wb.isLast m } else ((.no, .no), { m with last := Wb.isLast m, left := (frame m).1 }) := rfl
  rw [hdef]
  clear hdef
  generalize (frame m).1 = A at *
  generalize (frame m).2.1 = C at *
  generalize (frame m).2.2 = E at *
  generalize Wb.isLast m = LL at *
  generalize bare m.status = BB at *
  by_cases hE : E = 0
  · have qE : ((E : Int) != 0) = false := by rw [hE]; rfl
    simp only [if_neg (show ¬ E ≠ 0 from fun e => e hE)]
    clear hE
    cases BB with
    | true =>
      simp only [if_true]
      go_enter Tryz.func141, Tryz.ntmps141
      go_upto_region 1 with (fail)
      generalize w.heap.size = g at *
      generalize w.alloc _ = W at *
      have hne := HB.out.ne
      obtain ⟨own', hm, ho, hg⟩ := HB.out.ms
      have kF := kf W _ hm
      clear kf hm
      go_wp2_with (first
        | (go_at_call 143; refine kF.mono ?_; clear kF; rintro e w0 ⟨rfl, hb0⟩; have hB0 := HB.out.below hb0; clear hb0; obtain ⟨own1, hm1, -, -⟩ := hB0.ms; have kL := kl w0 _ hm1; clear hm1)
        | (go_at_call 144; refine kL.mono ?_; clear kL; rintro e w1 ⟨rfl, hb1⟩; have hB1 := hB0.below hb1; clear hb1; have f15 := hB1.frozen 15; have c15 := hB1.cell 15 (.bool m.last) (fun _ _ _ => rfl); have hB2 := hB1.set 15 (.bool LL) { m with last := LL } (fun _ _ _ => rfl) rfl rfl rfl; have c9 := hB1.cell 9 (.int .i64 m.status) (fun _ _ _ => rfl); obtain ⟨bc0, bc1, bf0, bf1⟩ := hB1.boxc)
        | (go_at_call 34; refine (kb _).mono ?_; rintro e w1 ⟨rfl, rfl⟩)
        | fail)
      obtain ⟨r1, r2⟩ := hB2.ret .nilFunc .nilFunc
      exact bodyPost_ret (Tryz.ret_st rfl rfl r1) rfl ⟨rfl, r2⟩
    | false =>
      simp only [Bool.false_eq_true, if_false]
      cases C with
      | true =>
        simp only [if_true]
        go_enter Tryz.func141, Tryz.ntmps141
        go_upto_region 1 with (fail)
        generalize w.heap.size = g at *
        generalize w.alloc _ = W at *
        have hne := HB.out.ne
        obtain ⟨own', hm, ho, hg⟩ := HB.out.ms
        have kF := kf W _ hm
        clear kf hm
        go_wp2_with (first
          | (go_at_call 143; refine kF.mono ?_; clear kF; rintro e w0 ⟨rfl, hb0⟩; have hB0 := HB.out.below hb0; clear hb0; obtain ⟨own1, hm1, -, -⟩ := hB0.ms; have kL := kl w0 _ hm1; clear hm1)
          | (go_at_call 144; refine kL.mono ?_; clear kL; rintro e w1 ⟨rfl, hb1⟩; have hB1 := hB0.below hb1; clear hb1; have f15 := hB1.frozen 15; have c15 := hB1.cell 15 (.bool m.last) (fun _ _ _ => rfl); have hB2 := hB1.set 15 (.bool LL) { m with last := LL } (fun _ _ _ => rfl) rfl rfl rfl; have c9 := hB1.cell 9 (.int .i64 m.status) (fun _ _ _ => rfl); obtain ⟨own2, hm2, ho2, hg2⟩ := hB2.ms; have k2 := Tryz.sizeLine_any hm2 hat; simp only [Tryz.stV, Wb.sizeLine, Wb.part, Tryz.tkV, Tryz.thV] at k2)
          | (go_at_call 34; refine (kb _).mono ?_; rintro e w1 ⟨rfl, rfl⟩)
          | (go_at_call 145; refine k2.mono ?_; clear k2; rintro e w2 ⟨rfl, hC⟩; have hB3 := hB2.chg ho2 hg2 hC; obtain ⟨bc0, bc1, bf0, bf1⟩ := hB3.boxc)
          | fail)
        obtain ⟨r1, r2⟩ := hB3.ret (Tryz.tkV .inSize) (Tryz.thV .no)
        exact bodyPost_ret (Tryz.ret_st rfl rfl r1) rfl ⟨rfl, r2⟩
      | false =>
        simp only [Bool.false_eq_true, if_false]
        go_enter Tryz.func141, Tryz.ntmps141
        go_upto_region 1 with (fail)
        generalize w.heap.size = g at *
        generalize w.alloc _ = W at *
        have hne := HB.out.ne
        obtain ⟨own', hm, ho, hg⟩ := HB.out.ms
        have kF := kf W _ hm
        clear kf hm
        go_wp2_with (first
          | (go_at_call 143; refine kF.mono ?_; clear kF; rintro e w0 ⟨rfl, hb0⟩; have hB0 := HB.out.below hb0; clear hb0; obtain ⟨own1, hm1, -, -⟩ := hB0.ms; have kL := kl w0 _ hm1; clear hm1)
          | (go_at_call 144; refine kL.mono ?_; clear kL; rintro e w1 ⟨rfl, hb1⟩; have hB1 := hB0.below hb1; clear hb1; have f15 := hB1.frozen 15; have c15 := hB1.cell 15 (.bool m.last) (fun _ _ _ => rfl); have hB2 := hB1.set 15 (.bool LL) { m with last := LL } (fun _ _ _ => rfl) rfl rfl rfl; have c9 := hB1.cell 9 (.int .i64 m.status) (fun _ _ _ => rfl); have c18 := hB1.cell 18 (.int .i64 m.left) (fun _ _ _ => rfl); have f18 := hB1.frozen 18; obtain ⟨bc0, bc1, bf0, bf1⟩ := hB1.boxc)
          | (go_at_call 34; refine (kb _).mono ?_; rintro e w1 ⟨rfl, rfl⟩)
          | fail)
        obtain ⟨r1, r2⟩ := (hB2.set 18 (.int .i64 A) { m with last := LL, left := A } (fun _ _ _ => rfl) rfl rfl rfl).ret .nilFunc .nilFunc
        exact bodyPost_ret (Tryz.ret_st rfl rfl r1) rfl ⟨rfl, r2⟩
  · have qE : ((E : Int) != 0) = true := by simp; omega
    have hwr : IntKind.i64.wrap ((m.at_ : Int) + 1) = ((m.at_ + 1 : Nat) : Int) := by rw [IntKind.wrap_i64]; omega
    simp only [if_pos (show E ≠ 0 from hE)]
    clear hE kl kb
    go_enter Tryz.func141, Tryz.ntmps141
    go_upto_region 1 with (fail)
    generalize w.heap.size = g at *
    generalize w.alloc _ = W at *
    have hne := HB.out.ne
    obtain ⟨own', hm, ho, hg⟩ := HB.out.ms
    have kF := kf W _ hm
    clear kf hm
    go_wp2_with (first
      | (go_at_call 143; refine kF.mono ?_; clear kF; rintro e w0 ⟨rfl, hb0⟩; have hB0 := HB.out.below hb0; clear hb0; obtain ⟨own', hm, ho, hg⟩ := hB0.ms; have c3 := hB0.cell 3 _ fun _ _ _ => rfl; have k1 := Tryz.fail_any hm (m.at_ + 1) E; simp only [Tryz.stV, Wb.fail, Tryz.tkV, Tryz.thV] at k1)
      | (go_at_call 60; refine k1.mono ?_; clear k1; rintro e w1 ⟨rfl, hC⟩; have hB1 := hB0.chg ho hg hC; obtain ⟨bc0, bc1, bf0, bf1⟩ := hB1.boxc)
      | fail)
    obtain ⟨r1, r2⟩ := hB1.ret .nilFunc .nilFunc
    exact bodyPost_ret (Tryz.ret_st rfl rfl r1) rfl ⟨rfl, r2⟩
set_option maxRecDepth 20000 in
set_option maxHeartbeats 1000000 in
theorem Tryz.emptyLineEnds_any {T : TypeId} {w : World} {own : Nat → Prop} {b : Nat} {m : Msg} (h : Tryz.Ms T w own b m) (hat : m.at_ ≤ 4611686018427387904) (hh : m.headers.length ≤ 4398046511000) (hs : ∀ p ∈ m.headers, p.2.length ≤ 4000000000) (hmo : m.most ≤ 999999999) :
    Calls Tryz.prog 139 #[.pointer (some ⟨b, 0, none⟩)] w fun e w' => e = .returned (Tryz.stV (Wb.emptyLineEnds m).1) ∧ Tryz.MChg T own w w' b (Wb.emptyLineEnds m).2 := by
  have HB : Hid _ := Tryz.Bx.start h
  by_cases ht : m.trailers = true
  · simp only [Wb.emptyLineEnds, if_pos ht]
    go_enter Tryz.func139, Tryz.ntmps139
    go_upto_region 1 with (fail)
    generalize w.heap.size = g at *
    generalize w.alloc _ = W at *
    have hne := HB.out.ne
    have c14 := HB.out.cell 14 (.bool m.trailers) fun _ _ _ => rfl
    rw [ht] at c14
    obtain ⟨bc0, bc1, bf0, bf1⟩ := HB.out.boxc
    go_wp2
    obtain ⟨r1, r2⟩ := HB.out.ret .nilFunc .nilFunc
    exact bodyPost_ret (Tryz.ret_st rfl rfl r1) rfl ⟨rfl, r2⟩
  · simp only [Wb.emptyLineEnds, if_neg ht]
    generalize hm3 : ({ m with bound := -1, word := [], name := [] } : Msg) = m3
    have hat3 : m3.at_ ≤ 4611686018427387904 := by rw [← hm3]; exact hat
    have hh3 : m3.headers.length ≤ 4398046511000 := by rw [← hm3]; exact hh
    have hs3 : ∀ p ∈ m3.headers, p.2.length ≤ 4000000000 := by rw [← hm3]; exact hs
    have hmo3 : m3.most ≤ 999999999 := by rw [← hm3]; exact hmo
    have HM3 : Hid (({ m with bound := -1, word := [], name := [] } : Msg) = m3) := hm3
    clear hm3 hat hh hs hmo
    have s1 := Tryz.stTk (Wb.headEnds m3).1.1 Tryz.prog
    have s2 := Tryz.stTh (Wb.headEnds m3).1.2 Tryz.prog
    go_enter Tryz.func139, Tryz.ntmps139
    go_upto_region 1 with (fail)
    generalize w.heap.size = g at *
    generalize w.alloc _ = W at *
    have hne := HB.out.ne
    have c14 := HB.out.cell 14 (.bool m.trailers) fun _ _ _ => rfl
    rw [Bool.eq_false_iff.2 ht] at c14
    clear ht
    have c4 := HB.out.cell 4 _ fun _ _ _ => rfl
    have c12 := HB.out.cell 12 _ fun _ _ _ => rfl
    have f4 := HB.out.frozen 4
    have f6 := HB.out.frozen 6
    have f12 := HB.out.frozen 12
    obtain ⟨own6, ⟨aw, cw, ah, ch, ab, cb, hmw⟩, -, -⟩ := HB.out.ms
    have c6 := cell_of_row _ _ 6 _ _ _ hmw.blk
    simp only [Tryz.mc, List.getElem?_toArray, List.getElem?_cons_succ, List.getElem?_cons_zero] at c6
    clear hmw
    have hB3 : Tryz.Bx T own w (((W.setCell ⟨b, 4, none⟩ (.int .i64 (-1))).setCell ⟨b, 6, none⟩ (.slice none 0 0)).setCell ⟨b, 12, none⟩ (.string ⟨#[]⟩)) b g m3 := HM3.out ▸ ((HB.out.set 4 (.int .i64 (-1)) { m with bound := -1 } (fun _ _ _ => rfl) rfl rfl rfl).wordNil.set 12 (.string ⟨#[]⟩) { m with bound := -1, word := [], name := [] } (fun _ _ _ => rfl) rfl rfl rfl)
    obtain ⟨own', hm, ho, hg⟩ := hB3.ms
    have k1 := Tryz.headEnds_any hm hat3 hh3 hs3 hmo3
    simp only [Tryz.stV] at k1
    go_wp2_with (first
      | (go_at_call 141; refine k1.mono ?_; clear k1; rintro e w1 ⟨rfl, hC⟩; have hB1 := hB3.chg ho hg hC; obtain ⟨bc0, bc1, bf0, bf1⟩ := hB1.boxc)
      | fail)
    obtain ⟨r1, r2⟩ := hB1.ret (Tryz.tkV (Wb.headEnds m3).1.1) (Tryz.thV (Wb.headEnds m3).1.2)
    exact bodyPost_ret (Tryz.ret_st rfl rfl r1) rfl ⟨rfl, r2⟩
end Go.Proofs
