/-
  DigestPieces, walked.
-/
import Derived.Test.YtkfmfdnfjeofiaaDoorIx
import Derived.ChangeKeysEq
namespace Go.Proofs
open Go.RowKit Go.Wi Go.Dg
theorem Dg.ob_first3 {w : World} {B g N : Nat} {l r : List UInt8} (h : Ob w B (.slice (some ⟨g, 0, none⟩) N N) (l ++ r)) : Ob w B (.slice (some ⟨g, 0, none⟩) l.length N) l := by
  have h1 := Ob.take h l.length (by rw [List.length_append]; omega)
  rwa [List.take_left] at h1
theorem Dg.step_valueW {P : Program} {ops : Array Oper} {Q : Exit → Act → World → Prop} {a : Act} {w w' : World} {rest : List Oper} {o : Oper} {v : Value} (hg : Region.wanted o (yielded ops a.tmps) = true) (he : (execOp a.eval o).run P w = .ok (.value v) w') (h : wpList P ops Q rest (a.put o.dst v) w') : wpList P ops Q (o :: rest) a w :=
  wpList_step fun K hK => by
    rw [if_pos hg]
    unfold Oper.wp
    rw [he]
    exact hK _ _ h
theorem Dg.bs_none0 (w : World) : Bs w (.slice none 0 0) [] := ⟨none, 0, rfl, Nat.le_refl _, fun _ => rfl, .inl rfl⟩
theorem Tryd.part8 (w : World) (xs : List UInt8) (i : Nat) (hi : i < xs.length) : (part 5 (Lib.byteCells xs).toArray (i * 1)).run Tryd.prog w = .ok (.int .u8 (xs[i].toNat : Nat)) w := by
  obtain ⟨i0, hi0, hz0, hz1, hz2⟩ := info_parts (show (Tryd.prog.info? 5).map (fun i => (i.zero, i.size, i.bytes)) = some (some (.int .u8 0), 1, 1) by kernel_rfl)
  have h1 : (Lib.byteCells xs)[i]? = some (.int .u8 (xs[i].toNat : Nat)) := by simp [Lib.byteCells, hi]
  simp [part, sizeOf, typeInfo, hi0, hz1, h1]
theorem Tryd.items8 (w : World) (d : Nat) (xs : List UInt8) : ∀ (n k : Nat), k + n = xs.length → (Op.eqItems (d + 1) 5 1 (Lib.byteCells xs).toArray (Lib.byteCells xs).toArray (List.range' k n)).run Tryd.prog w = .ok true w
  | 0, k, h => by simp [Op.eqItems]
  | n + 1, k, h => by
    have ih := Tryd.items8 w d xs n (k + 1) (by omega)
    have h8 : (Op.equalIn (d + 1) 5 (.int .u8 (xs[k].toNat : Nat)) (.int .u8 (xs[k].toNat : Nat))).run Tryd.prog w = .ok true w := by
      simp only [Op.equalIn, Sem.run_bind, run_underlying Tryd.underlying5, Result.andThen_ok]
      rw [if_pos trivial]
      simp
    rw [List.range'_succ, Op.eqItems]
    simp only [Sem.run_bind, Tryd.part8 w xs k (by omega), h8, Result.andThen_ok, Bool.not_true, Bool.false_eq_true, if_false, ih]
theorem Tryd.eq32 (w : World) (xs : List UInt8) (hx : xs.length = 32) : (Op.equalIn 10000 32 (.agg (Lib.byteCells xs).toArray) (.agg (Lib.byteCells xs).toArray)).run Tryd.prog w = .ok true w := by
  obtain ⟨i0, hi0, hz0, hz1, hz2⟩ := info_parts (show (Tryd.prog.info? 5).map (fun i => (i.zero, i.size, i.bytes)) = some (some (.int .u8 0), 1, 1) by kernel_rfl)
  rw [run_equalIn_array w 9999 _ _ Tryd.underlying32 hi0, show Tryd.prog.cellsOf 5 = 1 by kernel_rfl, List.range_eq_range', Tryd.items8 w 9998 xs 32 0 (by omega)]
theorem Dg.emptyText : (⟨#[]⟩ : ByteArray).toList = [] := by rw [ByteArray.toList_eq]
/-- Ahead of the first step. -/
structure Tryd.Pz (w0 : World) (gh gs : Nat) (c0 c1 : Value) (w : World) : Prop where
  b : Below w0.heap.size w0 w
  t : Tryd.Tq w
  fl : 2 ≤ w0.heap.size
  h : w.heap[gh]? = some (.cells #[c0, c1] 40 (0, 0))
  s : w.heap[gs]? = some (.cells #[.string ⟨#[]⟩, .string ⟨#[]⟩] 41 (0, 0))
  n : gh ≠ gs
  f : w0.heap.size ≤ gh ∧ w0.heap.size ≤ gs
theorem Tryd.Pz.below {w0 w w' : World} {gh gs : Nat} {c0 c1 : Value} (p : Tryd.Pz w0 gh gs c0 c1 w) (g : Below w.heap.size w w') : Tryd.Pz w0 gh gs c0 c1 w' :=
  ⟨p.b.trans (g.mono p.b.size), p.t.below g p.t.sz, p.fl, (g.block _ (block_lt p.h)).trans p.h, (g.block _ (block_lt p.s)).trans p.s, p.n, p.f⟩
theorem Tryd.Pz.set {w0 w : World} {gh gs : Nat} {c0 c1 : Value} (p : Tryd.Pz w0 gh gs c0 c1 w) {i : Nat} {v d0 d1 : Value} (e : (#[c0, c1] : Array Value).setIfInBounds i v = #[d0, d1]) : Tryd.Pz w0 gh gs d0 d1 (w.setCell ⟨gh, i, none⟩ v) := by
  have hw : Wo (fun k => k = gh) w (w.setCell ⟨gh, i, none⟩ v) := (Wo.refl _ w).setCell gh i v (.inl rfl)
  have h1 := Dg.set_arr p.h i v
  rw [e] at h1
  exact ⟨Wo.toBelow p.b hw (fun k e => by rw [e]; exact p.f.1) p.b.size, p.t.keep hw.size fun k hk => hw.block k (by have := p.t.sz; omega) (by have := p.f.1; have := p.fl; omega), p.fl, h1, (hw.block _ (block_lt p.s) (fun e => p.n e.symm)).trans p.s, p.n, p.f⟩
/-- The steps so far. -/
structure Tryd.Pl (w0 : World) (gh gs : Nat) (l : List Dg.O) (i : Nat) (w : World) : Prop where
  ex : ∃ ga gb ta tb, Tryd.Pc w0 gh gs ga gb ta.toList tb.toList ta tb w ∧ ta.size + tb.size ≤ Dg.tot l i
theorem Dg.tot_le (l : List Dg.O) (i : Nat) (hi : i ≤ l.length) : Dg.tot l i ≤ Dg.tot l l.length := by
  have key : ∀ k, i + k ≤ l.length → Dg.tot l i ≤ Dg.tot l (i + k) := by
    intro k
    induction k with
    | zero => intro _; exact Nat.le_refl _
    | succ k ih =>
      intro h
      have h1 := ih (by omega)
      have h2 := Dg.tot_next l (i + k) (by omega)
      rw [show i + (k + 1) = i + k + 1 by omega, h2]
      omega
  have := key (l.length - i) (by omega)
  rwa [show i + (l.length - i) = l.length by omega] at this
/-- While a step is done: the step itself, too. -/
structure Tryd.Pr (w0 : World) (gh gs ga gb : Nat) (la lb : List UInt8) (ta tb : ByteArray) (gO : Nat) (K M : Int) (t : ByteArray) (w : World) : Prop where
  p : Tryd.Pc w0 gh gs ga gb la lb ta tb w
  o : w.heap[gO]? = some (.cells #[.int .i64 K, .int .i64 M, .string t] 44 (0, 0))
  n1 : gO ≠ gh
  n2 : gO ≠ gs
  n3 : gO ≠ ga
  n4 : gO ≠ gb
  fo : w0.heap.size ≤ gO
section
variable {w0 w w' : World} {gh gs ga gb gO : Nat} {la lb : List UInt8} {ta tb t : ByteArray} {K M : Int}
theorem Tryd.Pr.wo (h : Tryd.Pr w0 gh gs ga gb la lb ta tb gO K M t w) {own : Nat → Prop} (hw : Wo own w w') (h0 : ∀ k, own k → w0.heap.size ≤ k ∧ k ≠ gh ∧ k ≠ gs ∧ k ≠ ga ∧ k ≠ gb ∧ k ≠ gO) : Tryd.Pr w0 gh gs ga gb la lb ta tb gO K M t w' :=
  ⟨h.p.wo hw fun k e => ⟨(h0 k e).1, (h0 k e).2.1, (h0 k e).2.2.1, (h0 k e).2.2.2.1, (h0 k e).2.2.2.2.1⟩, (hw.block _ (block_lt h.o) fun e => (h0 _ e).2.2.2.2.2 rfl).trans h.o, h.n1, h.n2, h.n3, h.n4, h.fo⟩
theorem Tryd.Pr.below (h : Tryd.Pr w0 gh gs ga gb la lb ta tb gO K M t w) (g : Below w.heap.size w w') : Tryd.Pr w0 gh gs ga gb la lb ta tb gO K M t w' := h.wo (own := fun _ => False) (Wo.ofBelow g) fun _ e => e.elim
theorem Tryd.Pr.drewN (h : Tryd.Pr w0 gh gs ga gb la lb ta tb gO K M t w) (n : Nat) : Tryd.Pr w0 gh gs ga gb la lb ta tb gO K M t (w.drewN n) := h.below (belowN (Below.refl _ _) n)
theorem Tryd.Pr.addA (h : Tryd.Pr w0 gh gs ga gb la lb ta tb gO K M t w) {la' : List UInt8} (hw : Wo (fun k => k = ga) w w') (ha : Tryd.Hs w' ga la') : Tryd.Pr w0 gh gs ga gb la' lb ta tb gO K M t w' := ⟨h.p.addA hw ha, (hw.block _ (block_lt h.o) h.n3).trans h.o, h.n1, h.n2, h.n3, h.n4, h.fo⟩
theorem Tryd.Pr.addB (h : Tryd.Pr w0 gh gs ga gb la lb ta tb gO K M t w) {lb' : List UInt8} (hw : Wo (fun k => k = gb) w w') (ha : Tryd.Hs w' gb lb') : Tryd.Pr w0 gh gs ga gb la lb' ta tb gO K M t w' := ⟨h.p.addB hw ha, (hw.block _ (block_lt h.o) h.n4).trans h.o, h.n1, h.n2, h.n3, h.n4, h.fo⟩
theorem Tryd.Pr.c0 (h : Tryd.Pr w0 gh gs ga gb la lb ta tb gO K M t w) : w.cell? ⟨gO, 0, none⟩ = some (.int .i64 K) := by rw [cell_of_row _ _ _ _ _ _ h.o]; rfl
theorem Tryd.Pr.c1 (h : Tryd.Pr w0 gh gs ga gb la lb ta tb gO K M t w) : w.cell? ⟨gO, 1, none⟩ = some (.int .i64 M) := by rw [cell_of_row _ _ _ _ _ _ h.o]; rfl
theorem Tryd.Pr.c2 (h : Tryd.Pr w0 gh gs ga gb la lb ta tb gO K M t w) : w.cell? ⟨gO, 2, none⟩ = some (.string t) := by rw [cell_of_row _ _ _ _ _ _ h.o]; rfl
theorem Tryd.Pr.p0 (h : Tryd.Pr w0 gh gs ga gb la lb ta tb gO K M t w) : w.cell? ⟨gh, 0, none⟩ = some (.pointer (some ⟨ga, 0, none⟩)) := by rw [cell_of_row _ _ _ _ _ _ h.p.h]; rfl
theorem Tryd.Pr.p1 (h : Tryd.Pr w0 gh gs ga gb la lb ta tb gO K M t w) : w.cell? ⟨gh, 1, none⟩ = some (.pointer (some ⟨gb, 0, none⟩)) := by rw [cell_of_row _ _ _ _ _ _ h.p.h]; rfl
theorem Tryd.Pr.y0 (h : Tryd.Pr w0 gh gs ga gb la lb ta tb gO K M t w) : w.frozen? ⟨gh, 0, none⟩ = false := frozen_of_row _ _ _ _ _ h.p.h
theorem Tryd.Pr.y1 (h : Tryd.Pr w0 gh gs ga gb la lb ta tb gO K M t w) : w.frozen? ⟨gh, 1, none⟩ = false := frozen_of_row _ _ _ _ _ h.p.h
theorem Tryd.Pr.s0 (h : Tryd.Pr w0 gh gs ga gb la lb ta tb gO K M t w) : w.cell? ⟨gs, 0, none⟩ = some (.string ta) := by rw [cell_of_row _ _ _ _ _ _ h.p.s]; rfl
theorem Tryd.Pr.s1 (h : Tryd.Pr w0 gh gs ga gb la lb ta tb gO K M t w) : w.cell? ⟨gs, 1, none⟩ = some (.string tb) := by rw [cell_of_row _ _ _ _ _ _ h.p.s]; rfl
theorem Tryd.Pr.z0 (h : Tryd.Pr w0 gh gs ga gb la lb ta tb gO K M t w) : w.frozen? ⟨gs, 0, none⟩ = false := frozen_of_row _ _ _ _ _ h.p.s
theorem Tryd.Pr.z1 (h : Tryd.Pr w0 gh gs ga gb la lb ta tb gO K M t w) : w.frozen? ⟨gs, 1, none⟩ = false := frozen_of_row _ _ _ _ _ h.p.s
theorem Tryd.Pr.lts (h : Tryd.Pr w0 gh gs ga gb la lb ta tb gO K M t w) : w0.heap.size ≤ w.heap.size ∧ gh < w.heap.size ∧ gs < w.heap.size ∧ ga < w.heap.size ∧ gb < w.heap.size ∧ gO < w.heap.size := ⟨h.p.b.size, block_lt h.p.h, block_lt h.p.s, h.p.a.lt, h.p.c.lt, block_lt h.o⟩
end
set_option maxRecDepth 20000 in
set_option maxHeartbeats 2000000 in
theorem Tryd.digestPiecesWalk (w : World) (v : Value) (l : List Dg.O) (hO : Dg.Ops w v l) (hT : Tryd.Tq w) :
    Calls Tryd.prog 7 #[v] w fun e w' => e = .returned (.bool true) ∧ Below w.heap.size w w' := by
  obtain ⟨ad, cap, rfl, hx⟩ := hO.ex
  clear hx
  have HT : Hid _ := hT
  have HO : Hid _ := hO
  have hsh := Tryd.shown_any w hT
  obtain ⟨L, hL⟩ : ∃ L, L = l.length := ⟨_, rfl⟩
  have HL : Hid (L = l.length) := hL
  have hL2 : (L : Int) ≤ 9223372036854775807 := by have := hO.len; omega
  rw [← hL] at HO ⊢
  clear hT hO hL
  go_enter Tryd.func7, Tryd.ntmps7
  go_upto_region 2 with (first
    | (go_at_call 9; refine hsh.mono ?_; clear hsh; rintro z w1 ⟨rfl, hb1⟩; have HB1 : Hid _ := hb1; clear hb1)
    | fail)
  have hbe := Tryd.beyond_any (HO.out.below HB1.out (Nat.le_refl _))
  go_wp2_with (fail)
  refine hbe.mono ?_
  clear hbe
  rintro z w2 hz
  obtain ⟨p, rfl, rfl, hp⟩ := hz.ex
  clear hz
  cases p
  case true =>
    go_wp2_with (fail)
    go_ret
    exact ⟨rfl, HB1.out⟩
  have Htot : Hid (Dg.tot l l.length ≤ 2147483647) := hp rfl
  clear hp
  go_upto_region 7 with (fail)
  obtain ⟨w3, hw3⟩ : ∃ w3, w3 = (w2.alloc (.cells #[.pointer none, .pointer none] 40)).alloc (.cells #[.string ⟨#[]⟩, .string ⟨#[]⟩] 41) := ⟨_, rfl⟩
  have HZ : Hid (Tryd.Pz w w2.heap.size (w2.heap.size + 1) (.pointer none) (.pointer none) w3) := by
    rw [hw3]
    have h1 := heap_alloc_new (w2.alloc (.cells #[.pointer none, .pointer none] 40)) (.cells #[.string ⟨#[]⟩, .string ⟨#[]⟩] 41)
    rw [World.size_alloc] at h1
    have hb : Below w.heap.size w ((w2.alloc (.cells #[.pointer none, .pointer none] 40)).alloc (.cells #[.string ⟨#[]⟩, .string ⟨#[]⟩] 41)) := (HB1.out.alloc HB1.out.size _).alloc (by have := HB1.out.size; simp only [World.size_alloc]; omega) _
    have hs := HB1.out.size
    exact ⟨hb, HT.out.below hb HT.out.sz, HT.out.sz, (Below.heap_alloc _ _ _ (by simp)).trans (heap_alloc_new w2 _), h1, by omega, by omega, by omega⟩
  rw [← hw3]
  clear hw3
  generalize w2.heap.size = gh at *
  generalize gh + 1 = gs at *
  go_wp2
  go_loopw [7] (fun iv wr => (iv = .int .i64 0 ∧ Hid (Tryd.Pz w gh gs (.pointer none) (.pointer none) wr)) ∨ (iv = .int .i64 1 ∧ Hid (∃ ga, Tryd.Pz w gh gs (.pointer (some ⟨ga, 0, none⟩)) (.pointer none) wr ∧ Tryd.Hs wr ga [] ∧ w.heap.size ≤ ga ∧ ga ≠ gh ∧ ga ≠ gs)) ∨ (iv = .int .i64 2 ∧ Hid (Tryd.Pl w gh gs l 0 wr))) (fun iv _ => 2 - (intOf iv).toNat)
  case atStart => exact .inl ⟨rfl, HZ⟩
  case round =>
    clear HZ
    rcases hrel with ⟨rfl, HZ⟩ | ⟨rfl, HZ⟩ | ⟨rfl, HP⟩
    · have hnew := Tryd.new_any wr HZ.out.t
      have Hsz : Hid (gh < wr.heap.size ∧ gs < wr.heap.size) := ⟨block_lt HZ.out.h, block_lt HZ.out.s⟩
      go_upto_region 11 with (first | (go_at_call 21; refine hnew.mono ?_; clear hnew; rintro z w4 ⟨rfl, hh, hbb⟩; have HN : Hid (Tryd.Hs w4 wr.heap.size [] ∧ Tryd.Pz w gh gs (.pointer none) (.pointer none) w4 ∧ w.heap.size ≤ wr.heap.size) := ⟨Tryd.Hs.new hh, HZ.out.below hbb, HZ.out.b.size⟩; clear hh hbb; have c1 : w4.cell? ⟨gh, 0, none⟩ = some (.pointer none) := (by rw [cell_of_row _ _ _ _ _ _ HN.out.2.1.h]; rfl); have c2 : w4.frozen? ⟨gh, 0, none⟩ = false := frozen_of_row _ _ _ _ _ HN.out.2.1.h) | fail)
      have HQ : Hid (Tryd.Pz w gh gs (.pointer (some ⟨wr.heap.size, 0, none⟩)) (.pointer none) (w4.setCell ⟨gh, 0, none⟩ (.pointer (some ⟨wr.heap.size, 0, none⟩))) ∧ Tryd.Hs (w4.setCell ⟨gh, 0, none⟩ (.pointer (some ⟨wr.heap.size, 0, none⟩))) wr.heap.size []) :=
        ⟨HN.out.2.1.set rfl, HN.out.1.keep (Below.heap_setCell _ _ _ _ (by show wr.heap.size ≠ gh; have := Hsz.out.1; omega))⟩
      generalize w4.setCell ⟨gh, 0, none⟩ (.pointer (some ⟨wr.heap.size, 0, none⟩)) = w5 at *
      have c3 : w5.cell? ⟨gh, 0, none⟩ = some (.pointer (some ⟨wr.heap.size, 0, none⟩)) := (by rw [cell_of_row _ _ _ _ _ _ HQ.out.1.h]; rfl)
      clear c1 c2
      go_wp2
      go_roundw
      case rel => exact .inr (.inl ⟨rfl, wr.heap.size, HQ.out.1, HQ.out.2, HN.out.2.2, by have := Hsz.out.1; omega, by have := Hsz.out.2; omega⟩)
      case measure => decide
    · obtain ⟨ga, hz1, hz2, hz3, hz4, hz5⟩ := HZ.out
      have HY : Hid (Tryd.Pz w gh gs (.pointer (some ⟨ga, 0, none⟩)) (.pointer none) wr ∧ Tryd.Hs wr ga [] ∧ w.heap.size ≤ ga ∧ ga ≠ gh ∧ ga ≠ gs) := ⟨hz1, hz2, hz3, hz4, hz5⟩
      have hnew := Tryd.new_any wr hz1.t
      have Hsz : Hid (gh < wr.heap.size ∧ gs < wr.heap.size ∧ ga < wr.heap.size) := ⟨block_lt hz1.h, block_lt hz1.s, hz2.lt⟩
      clear HZ hz1 hz2 hz3 hz4 hz5
      go_upto_region 11 with (first | (go_at_call 21; refine hnew.mono ?_; clear hnew; rintro z w4 ⟨rfl, hh, hbb⟩; have HN : Hid (Tryd.Hs w4 wr.heap.size [] ∧ Tryd.Pz w gh gs (.pointer (some ⟨ga, 0, none⟩)) (.pointer none) w4 ∧ w.heap.size ≤ wr.heap.size ∧ Tryd.Hs w4 ga []) := ⟨Tryd.Hs.new hh, HY.out.1.below hbb, HY.out.1.b.size, HY.out.2.1.keep (hbb.block _ HY.out.2.1.lt)⟩; clear hh hbb; have c1 : w4.cell? ⟨gh, 1, none⟩ = some (.pointer none) := (by rw [cell_of_row _ _ _ _ _ _ HN.out.2.1.h]; rfl); have c2 : w4.frozen? ⟨gh, 1, none⟩ = false := frozen_of_row _ _ _ _ _ HN.out.2.1.h) | fail)
      have HQ : Hid (Tryd.Pz w gh gs (.pointer (some ⟨ga, 0, none⟩)) (.pointer (some ⟨wr.heap.size, 0, none⟩)) (w4.setCell ⟨gh, 1, none⟩ (.pointer (some ⟨wr.heap.size, 0, none⟩))) ∧ Tryd.Hs (w4.setCell ⟨gh, 1, none⟩ (.pointer (some ⟨wr.heap.size, 0, none⟩))) wr.heap.size [] ∧ Tryd.Hs (w4.setCell ⟨gh, 1, none⟩ (.pointer (some ⟨wr.heap.size, 0, none⟩))) ga []) :=
        ⟨HN.out.2.1.set rfl, HN.out.1.keep (Below.heap_setCell _ _ _ _ (by show wr.heap.size ≠ gh; have := Hsz.out.1; omega)), HN.out.2.2.2.keep (Below.heap_setCell _ _ _ _ (by show ga ≠ gh; exact HY.out.2.2.2.1))⟩
      generalize w4.setCell ⟨gh, 1, none⟩ (.pointer (some ⟨wr.heap.size, 0, none⟩)) = w5 at *
      have c3 : w5.cell? ⟨gh, 1, none⟩ = some (.pointer (some ⟨wr.heap.size, 0, none⟩)) := (by rw [cell_of_row _ _ _ _ _ _ HQ.out.1.h]; rfl)
      clear c1 c2
      go_wp2
      go_roundw
      case rel =>
        refine .inr (.inr ⟨rfl, ga, wr.heap.size, ⟨#[]⟩, ⟨#[]⟩, ?_, Nat.zero_le _⟩)
        rw [Dg.emptyText]
        have hs := Hsz.out
        have hy := HY.out.2.2
        exact ⟨HQ.out.1.b, HQ.out.1.t, HQ.out.1.fl, HQ.out.1.h, HQ.out.1.s, HQ.out.2.2, HQ.out.2.1, ⟨HQ.out.1.n, by omega, hy.2.1, hy.2.2, by omega, by omega⟩, ⟨HQ.out.1.f.1, HQ.out.1.f.2, hy.1, HN.out.2.2.1⟩⟩
      case measure => decide
    · go_wp2
      go_loopw [8] (fun iv wr => ∃ (i : Nat), iv = .int .i64 (i : Int) ∧ i ≤ L ∧ Hid (Tryd.Pl w gh gs l i wr)) (fun iv _ => L - (intOf iv).toNat)
      case atStart => exact ⟨0, rfl, by omega, HP⟩
      case round =>
        clear HP
        obtain ⟨i, rfl, hi, HP⟩ := hrel
        by_cases hlt : i < L
        · have q1 : (i : Int) < (L : Int) := by omega
          have q2 : (0 : Int) ≤ (i : Int) := by omega
          have hil : i < l.length := by rw [← HL.out]; exact hlt
          obtain ⟨ga, gb, ta, tb, hpc, hsum⟩ := HP.out.ex
          obtain ⟨ad', cap', e', hx⟩ := (HO.out.below hpc.b (Nat.le_refl _)).ex
          injection e' with e1 e2 e3
          subst e1 e3
          rcases hx with e | ⟨g, o, rfl, hg, hc⟩
          · rw [e] at hil
            simp at hil
          obtain ⟨c1, c2, c3⟩ := hc i hil
          have hib := HO.out.ib _ (List.getElem_mem hil)
          have Hnx : Hid _ := Dg.tot_next l i hil
          have Hle : Hid _ := Dg.tot_le l (i + 1) (by omega)
          obtain ⟨op, hop⟩ : ∃ op, op = l[i]'hil := ⟨_, rfl⟩
          rw [← hop] at c1 c2 c3 hib Hnx
          obtain ⟨K, M, t⟩ := op
          dsimp only at c1 c2 c3 hib Hnx
          have Ht : Hid (t.size ≤ 2147483647) := (by show t.size ≤ _; have h1 := Hnx.out; have h2 := Hle.out; have h3 := Htot.out; omega)
          have HPC : Hid _ := hpc
          have Hsum : Hid _ := hsum
          clear hc hop hpc hsum HP e2 hg
          go_upto_region 17 with (fail)
          obtain ⟨x, hx⟩ : ∃ x, x = wr.alloc (.cells #[.int .i64 K, .int .i64 M, .string t] 44) := ⟨_, rfl⟩
          have HR : Hid (Tryd.Pr w gh gs ga gb ta.toList tb.toList ta tb wr.heap.size K M t x) := by
            have hb : Below wr.heap.size wr x := by rw [hx]; exact (Below.refl _ wr).alloc (Nat.le_refl _) _
            have hl := HPC.out.late (Nat.le_refl wr.heap.size)
            exact ⟨HPC.out.below hb, by rw [hx]; exact heap_alloc_new wr _, hl.2.1, hl.2.2.1, hl.2.2.2.1, hl.2.2.2.2, hl.1⟩
          rw [← hx]
          clear hx c1 c2 c3 HPC
          generalize wr.heap.size = gO at *
          have d0 := HR.out.c0
          have d1 := HR.out.c1
          have d2 := HR.out.c2
          have hpk := Tryd.pick2_any M hib.1 hib.2 x
          go_wp2_with (fail)
          refine hpk.mono ?_
          clear hpk hib
          rintro z x0 ⟨hz, rfl⟩
          rcases hz with rfl | rfl
          · by_cases hk1 : K = 1
            · subst hk1
              obtain ⟨N, hN⟩ : ∃ N, N = t.size + 80 := ⟨_, rfl⟩
              have HN : Hid (N = t.size + 80) := hN
              have htl : t.size ≤ 2147483647 := Ht.out
              have q3 : (t.size : Int) ≤ (N : Int) := by omega
              have q4 : (0 : Int) ≤ (t.size : Int) := by omega
              have q5 : ¬ N = 0 := by omega
              have q6 : (N : Int) ≤ 4294967296 := by omega
              have Htl : Hid (t.toList.length = t.size) := Dg.list_len t
              have hle := Tryd.lent_any t (by omega) x0
              rw [← hN] at hle
              clear hN
              go_upto_region 21 with (first | (go_at_call 13; refine hle.mono ?_; clear hle; rintro z x2 ⟨rfl, ho2, hb2⟩; have H2 : Hid (Ob x2 x0.heap.size (.slice (some ⟨x0.heap.size, 0, none⟩) N N) (t.toList ++ List.replicate 80 201) ∧ Tryd.Pr w gh gs ga gb ta.toList tb.toList ta tb gO 1 M t x2) := ⟨ho2, HR.out.below hb2⟩; clear ho2 hb2) | fail)
              have HLt : Hid (w.heap.size ≤ x0.heap.size ∧ gh < x0.heap.size ∧ gs < x0.heap.size ∧ ga < x0.heap.size ∧ gb < x0.heap.size ∧ gO < x0.heap.size) := HR.out.lts
              clear d0 d1 d2 HR
              generalize x0.heap.size = gL at *
              have e2 := H2.out.2.c2
              have e3 := H2.out.2.p0
              have hwr := Tryd.Hs.write (w := x2.drew) (g := ga) (l := ta.toList) (b := t.toList) (V := .slice (some ⟨gL, 0, none⟩) t.size N) (H2.out.2.p.a.keep rfl) (H2.out.2.p.t.drewN 1) (by have := H2.out.2.p.f; have := H2.out.2.p.fl; omega) (by have h1 := Ob.bs (Dg.ob_first3 (Ob.drew H2.out.1)); rw [Htl.out] at h1; exact h1) (by intro e; injection e with e; have := HLt.out; have e' : gL = ga := e; omega) (by rw [Dg.list_len, Dg.list_len]; have h1 := Hsum.out; have h2 := Hnx.out; have h3 := Hle.out; have h4 := Htot.out; omega)
              refine Dg.region_tail 8 (by kernel_rfl) (by kernel_rfl) ?_
              simp only [List.take_succ_cons, List.take_zero, List.drop_succ_cons, List.drop_zero]
              (repeat still_step)
              refine wpStill_nil ?_
              go_wp2_with (fail)
              refine hwr.mono ?_
              clear hwr
              rintro z x3 ⟨rfl, hh3, hw3⟩
              have H3 : Hid (Ob x3 gL (.slice (some ⟨gL, 0, none⟩) N N) (t.toList ++ List.replicate 80 201) ∧ Tryd.Pr w gh gs ga gb (ta.toList ++ t.toList) tb.toList ta tb gO 1 M t x3) := by
                have hL := HLt.out
                have hw3' : Wo (fun j => j = ga) x2 x3 := ⟨hw3.os, hw3.tape, hw3.output, hw3.size, hw3.block⟩
                exact ⟨Ob.keep H2.out.1 fun k e => by cases e; exact hw3'.block _ (Ob.lt H2.out.1 gL rfl).2 (by show gL ≠ ga; omega), H2.out.2.addA hw3' hh3⟩
              clear hh3 hw3 H2 e2 e3
              have e2 := H3.out.2.c2
              have Hlk : Hid ((t.toList ++ List.replicate 80 201).length = N) := (by show _ = _; rw [List.length_append, List.length_replicate, Htl.out, HN.out])
              have hst := Tryd.still_any (w := x3) (B := gL) (g := gL) (cap := N) (s := t) (l := t.toList ++ List.replicate 80 201) 80 rfl (by rw [Hlk.out]; exact H3.out.1) (by rw [Hlk.out, HN.out]; omega)
              rw [Hlk.out] at hst
              go_upto_region 25 with (first | (go_at_call 17; refine hst.mono ?_; clear hst; rintro z x4 ⟨rfl, m4, rfl⟩) | fail)
              have H4 : Hid (Ob (x3.drewN m4) gL (.slice (some ⟨gL, 0, none⟩) N N) (t.toList ++ List.replicate 80 201) ∧ Tryd.Pr w gh gs ga gb (ta.toList ++ t.toList) tb.toList ta tb gO 1 M t (x3.drewN m4)) := ⟨Ob.drewN H3.out.1 m4, H3.out.2.drewN m4⟩
              clear H3 e2
              generalize x3.drewN m4 = x5 at *
              go_wp2
              go_loopw [13] (fun jv wr => ∃ (j : Nat) (r : List UInt8), jv = .int .i64 (j : Int) ∧ j ≤ N ∧ r.length = N ∧ Hid (Ob wr gL (.slice (some ⟨gL, 0, none⟩) N N) r ∧ Tryd.Pr w gh gs ga gb (ta.toList ++ t.toList) tb.toList ta tb gO 1 M t wr)) (fun jv _ => N - (intOf jv).toNat)
              case atStart => exact ⟨0, _, rfl, by omega, Hlk.out, H4⟩
              case round =>
                clear H4
                obtain ⟨j, r, rfl, hj, hr, H5⟩ := hrel
                by_cases hjl : j < N
                · have r1 : (j : Int) < (N : Int) := by omega
                  have r2 : (0 : Int) ≤ (j : Int) := by omega
                  obtain ⟨f1, f2⟩ := Ob.cell H5.out.1 (i := j) (by omega)
                  go_wp2
                  go_roundw
                  case rel =>
                    refine ⟨j + 1, r.set j 77, by go_num, by omega, by rw [List.length_set]; exact hr, Ob.set H5.out.1 j 77 _ rfl (by omega), ?_⟩
                    have hL := HLt.out
                    exact H5.out.2.wo (own := fun k => k = gL) ((Wo.refl _ _).setCell gL j _ (.inl rfl)) fun k e => by rw [e]; omega
                  case measure => simp [intOf]; omega
                · have r1 : ¬ (j : Int) < (N : Int) := by omega
                  have e2 := H5.out.2.c2
                  have e4 := H5.out.2.s0
                  have e5 := H5.out.2.z0
                  have hsz : (ta.size : Int) + (t.size : Int) ≤ 4294967296 := by have h1 := Hsum.out; have h2 := Hnx.out; have h3 := Hle.out; have h4 := Htot.out; omega
                  have hsn : ta.size + t.size ≤ 9223372036854775807 := by omega
                  have hsq : ¬ 9223372036854775807 < ta.size + t.size := by omega
                  go_upto_region 29 with (fail)
                  (refine Go.Lq.wp_region_last 8 (by kernel_rfl) (by kernel_rfl) ?_; dsimp only [List.dropLast]; (repeat (quiet_step (fail))); refine wpQuiet_nil ?_; intro _ hw'; obtain ⟨nq, hw''⟩ := hw'; subst hw''; refine Go.Lq.wpOp_last rfl rfl ?_; unfold Oper.wp; go_simp)
                  go_wp2
                  go_roundw
                  case rel =>
                    refine ⟨i + 1, by go_num, by omega, ga, gb, ta ++ t, tb, ?_, by rw [Hnx.out]; have h1 := Hsum.out; show _ + _ ≤ _; simp only [ByteArray.size_append]; omega⟩
                    have h1 := (H5.out.2.drewN nq).p.setS (i := 0) (v := .string (ta ++ t)) (ta' := ta ++ t) (tb' := tb) rfl
                    rw [Dg.app_list]
                    exact h1
                  case measure => simp [intOf]; omega
            by_cases hk2 : K = 2
            · subst hk2
              have e3 := HR.out.p0
              obtain ⟨D, hD⟩ : ∃ D, D = Dg.sum ta.toList := ⟨_, rfl⟩
              have hDl : D.length = 32 := by rw [hD]; exact Dg.sum_len _
              have l32 : (Lib.byteCells D).length = 32 := by rw [byteCells_len]; exact hDl
              have HD : Hid (D = Dg.sum ta.toList) := hD
              have hsm := Tryd.Hs.sum HR.out.p.a HR.out.p.t (by rw [Dg.list_len]; have h1 := Hsum.out; have h2 := Hnx.out; have h3 := Hle.out; have h4 := Htot.out; omega)
              rw [← hD] at hsm
              clear hD
              go_wp2_with (fail)
              refine hsm.mono ?_
              clear hsm
              rintro z x2 ⟨rfl, hb2⟩
              have st2 := Tryd.new32 x2 D hDl
              have H2 : Hid (Tryd.Pr w gh gs ga gb ta.toList tb.toList ta tb gO 2 M t x2) := HR.out.below hb2
              clear hb2 HR d0 d1 d2 e3
              go_upto_region 32 with (fail)
              obtain ⟨x3, hx3⟩ : ∃ x3, x3 = x2.alloc (.cells (Lib.byteCells D).toArray 32) := ⟨_, rfl⟩
              have H3 : Hid (Tryd.Pr w gh gs ga gb ta.toList tb.toList ta tb gO 2 M t x3 ∧ Dg.Br 32 x3 x2.heap.size D) := by
                rw [hx3]
                exact ⟨H2.out.below ((Below.refl _ x2).alloc (Nat.le_refl _) _), heap_alloc_new x2 _⟩
              rw [← hx3]
              clear hx3 st2 H2
              generalize x2.heap.size = gD at *
              have kD : ∀ W, Below x3.heap.size x3 W → Dg.Br 32 W gD D := fun W hW => H3.out.2.keep (hW.block _ H3.out.2.lt)
              have kS : ∀ W, Below x3.heap.size x3 W → Tryd.Pr w gh gs ga gb ta.toList tb.toList ta tb gO 2 M t W := fun W hW => H3.out.1.below hW
              refine wp_region_quiet (C := fun W => Below x3.heap.size x3 W) (by kernel_rfl) (by kernel_rfl) ⟨rfl, rfl, rfl, Nat.le_refl _, fun _ _ => rfl⟩ ?_
              dsimp only
              refine Go.Lq.q_valW (v := .slice (some ⟨gD, 0, none⟩) 32 32) (by kernel_rfl) (fun W _ => by have sl := Tryd.sl32 gD W; exact Dg.run_sl0 rfl rfl sl) ?_
              try simp only [Act.put, List.setIfInBounds_toArray, List.set_cons_zero, List.set_cons_succ]
              refine Go.Lq.q_valW (v := .string ⟨D.toArray⟩) (by kernel_rfl) (fun W hW => by have cv := Tryd.str32 (kD W hW) hDl; exact Dg.run_conv rfl rfl cv) ?_
              try simp only [Act.put, List.setIfInBounds_toArray, List.set_cons_zero, List.set_cons_succ]
              refine Go.Lq.q_valW (v := .int .i64 0) (by kernel_rfl) (fun _ _ => by kernel_rfl) ?_
              try simp only [Act.put, List.setIfInBounds_toArray, List.set_cons_zero, List.set_cons_succ]
              refine Go.Lq.q_valW (v := .pointer (some ⟨gs, 0, none⟩)) (by kernel_rfl) (fun _ _ => by kernel_rfl) ?_
              try simp only [Act.put, List.setIfInBounds_toArray, List.set_cons_zero, List.set_cons_succ]
              refine Go.Lq.q_valW (v := .string ta) (by kernel_rfl) (fun W hW => by have e4 := (kS W hW).s0; go_simp) ?_
              try simp only [Act.put, List.setIfInBounds_toArray, List.set_cons_zero, List.set_cons_succ]
              refine Go.Lq.q_callW (v := .string ⟨D.toArray⟩) (f := 19) (args := #[.string ta]) (by kernel_rfl) (fun _ _ => by kernel_rfl) (fun W hW => ?_) ?_
              · have h1 := Tryd.refSum_any ta (by have h1 := Hsum.out; have h2 := Hnx.out; have h3 := Hle.out; have h4 := Htot.out; omega) W
                rw [← HD.out] at h1
                exact h1.mono fun _ _ ⟨h2, h3⟩ => ⟨h2, hW.trans (h3.mono hW.size)⟩
              try simp only [Act.put, List.setIfInBounds_toArray, List.set_cons_zero, List.set_cons_succ]
              refine Go.Lq.q_valW (v := .bool false) (by kernel_rfl) (fun W _ => by go_simp) ?_
              try simp only [Act.put, List.setIfInBounds_toArray, List.set_cons_zero, List.set_cons_succ]
              refine wpQuiet_nil ?_
              intro W hW
              have HW : Hid _ := kS W hW
              clear hW kD kS
              go_wp2
              go_roundw
              case rel => exact ⟨i + 1, by go_num, by omega, ga, gb, ta, tb, HW.out.p, by rw [Hnx.out]; have h1 := Hsum.out; omega⟩
              case measure => simp [intOf]; omega
            by_cases hk3 : K = 3
            · subst hk3
              have hnew := Tryd.new_any x0 HR.out.p.t
              go_upto_region 36 with (first | (go_at_call 21; refine hnew.mono ?_; clear hnew; rintro z x2 ⟨rfl, hh2, hb2⟩; have H2 : Hid (Below x0.heap.size x0 x2 ∧ Tryd.Hs x2 x0.heap.size []) := ⟨hb2, Tryd.Hs.new hh2⟩; clear hh2 hb2; have e3 := (HR.out.below H2.out.1).p0; have e4 := (HR.out.below H2.out.1).y0) | fail)
              have H3 : Hid _ := HR.out.p.newA H2.out.1 (Nat.le_refl _) H2.out.2
              clear e3 e4 d0 d1 d2 HR H2
              generalize hx3 : x2.setCell ⟨gh, 0, none⟩ (.pointer (some ⟨x0.heap.size, 0, none⟩)) = x3 at *
              have e5 : x3.cell? ⟨gs, 0, none⟩ = some (.string ta) := (by rw [cell_of_row _ _ _ _ _ _ H3.out.s]; rfl)
              have e6 : x3.frozen? ⟨gs, 0, none⟩ = false := frozen_of_row _ _ _ _ _ H3.out.s
              clear hx3
              go_wp2
              go_roundw
              case rel =>
                refine ⟨i + 1, by go_num, by omega, x0.heap.size, gb, ⟨#[]⟩, tb, ?_, by rw [Hnx.out]; have h1 := Hsum.out; show 0 + tb.size ≤ _; omega⟩
                have h1 := H3.out.setS (i := 0) (v := .string ⟨#[]⟩) (ta' := ⟨#[]⟩) (tb' := tb) rfl
                rw [Dg.emptyText]
                exact h1
              case measure => simp [intOf]; omega
            · have r1 : (K == 1) = false := by simp; omega
              have r2 : (K == 2) = false := by simp; omega
              have r3 : (K == 3) = false := by simp; omega
              go_wp2
              go_roundw
              case rel => exact ⟨i + 1, by go_num, by omega, ga, gb, ta, tb, HR.out.p, by rw [Hnx.out]; have h1 := Hsum.out; omega⟩
              case measure => simp [intOf]; omega
          · by_cases hk1 : K = 1
            · subst hk1
              obtain ⟨N, hN⟩ : ∃ N, N = t.size + 80 := ⟨_, rfl⟩
              have HN : Hid (N = t.size + 80) := hN
              have htl : t.size ≤ 2147483647 := Ht.out
              have q3 : (t.size : Int) ≤ (N : Int) := by omega
              have q4 : (0 : Int) ≤ (t.size : Int) := by omega
              have q5 : ¬ N = 0 := by omega
              have q6 : (N : Int) ≤ 4294967296 := by omega
              have Htl : Hid (t.toList.length = t.size) := Dg.list_len t
              have hle := Tryd.lent_any t (by omega) x0
              rw [← hN] at hle
              clear hN
              go_upto_region 21 with (first | (go_at_call 13; refine hle.mono ?_; clear hle; rintro z x2 ⟨rfl, ho2, hb2⟩; have H2 : Hid (Ob x2 x0.heap.size (.slice (some ⟨x0.heap.size, 0, none⟩) N N) (t.toList ++ List.replicate 80 201) ∧ Tryd.Pr w gh gs ga gb ta.toList tb.toList ta tb gO 1 M t x2) := ⟨ho2, HR.out.below hb2⟩; clear ho2 hb2) | fail)
              have HLt : Hid (w.heap.size ≤ x0.heap.size ∧ gh < x0.heap.size ∧ gs < x0.heap.size ∧ ga < x0.heap.size ∧ gb < x0.heap.size ∧ gO < x0.heap.size) := HR.out.lts
              clear d0 d1 d2 HR
              generalize x0.heap.size = gL at *
              have e2 := H2.out.2.c2
              have e3 := H2.out.2.p1
              have hwr := Tryd.Hs.write (w := x2.drew) (g := gb) (l := tb.toList) (b := t.toList) (V := .slice (some ⟨gL, 0, none⟩) t.size N) (H2.out.2.p.c.keep rfl) (H2.out.2.p.t.drewN 1) (by have := H2.out.2.p.f; have := H2.out.2.p.fl; omega) (by have h1 := Ob.bs (Dg.ob_first3 (Ob.drew H2.out.1)); rw [Htl.out] at h1; exact h1) (by intro e; injection e with e; have := HLt.out; have e' : gL = gb := e; omega) (by rw [Dg.list_len, Dg.list_len]; have h1 := Hsum.out; have h2 := Hnx.out; have h3 := Hle.out; have h4 := Htot.out; omega)
              refine Dg.region_tail 8 (by kernel_rfl) (by kernel_rfl) ?_
              simp only [List.take_succ_cons, List.take_zero, List.drop_succ_cons, List.drop_zero]
              (repeat still_step)
              refine wpStill_nil ?_
              go_wp2_with (fail)
              refine hwr.mono ?_
              clear hwr
              rintro z x3 ⟨rfl, hh3, hw3⟩
              have H3 : Hid (Ob x3 gL (.slice (some ⟨gL, 0, none⟩) N N) (t.toList ++ List.replicate 80 201) ∧ Tryd.Pr w gh gs ga gb ta.toList (tb.toList ++ t.toList) ta tb gO 1 M t x3) := by
                have hL := HLt.out
                have hw3' : Wo (fun j => j = gb) x2 x3 := ⟨hw3.os, hw3.tape, hw3.output, hw3.size, hw3.block⟩
                exact ⟨Ob.keep H2.out.1 fun k e => by cases e; exact hw3'.block _ (Ob.lt H2.out.1 gL rfl).2 (by show gL ≠ gb; omega), H2.out.2.addB hw3' hh3⟩
              clear hh3 hw3 H2 e2 e3
              have e2 := H3.out.2.c2
              have Hlk : Hid ((t.toList ++ List.replicate 80 201).length = N) := (by show _ = _; rw [List.length_append, List.length_replicate, Htl.out, HN.out])
              have hst := Tryd.still_any (w := x3) (B := gL) (g := gL) (cap := N) (s := t) (l := t.toList ++ List.replicate 80 201) 80 rfl (by rw [Hlk.out]; exact H3.out.1) (by rw [Hlk.out, HN.out]; omega)
              rw [Hlk.out] at hst
              go_upto_region 25 with (first | (go_at_call 17; refine hst.mono ?_; clear hst; rintro z x4 ⟨rfl, m4, rfl⟩) | fail)
              have H4 : Hid (Ob (x3.drewN m4) gL (.slice (some ⟨gL, 0, none⟩) N N) (t.toList ++ List.replicate 80 201) ∧ Tryd.Pr w gh gs ga gb ta.toList (tb.toList ++ t.toList) ta tb gO 1 M t (x3.drewN m4)) := ⟨Ob.drewN H3.out.1 m4, H3.out.2.drewN m4⟩
              clear H3 e2
              generalize x3.drewN m4 = x5 at *
              go_wp2
              go_loopw [13] (fun jv wr => ∃ (j : Nat) (r : List UInt8), jv = .int .i64 (j : Int) ∧ j ≤ N ∧ r.length = N ∧ Hid (Ob wr gL (.slice (some ⟨gL, 0, none⟩) N N) r ∧ Tryd.Pr w gh gs ga gb ta.toList (tb.toList ++ t.toList) ta tb gO 1 M t wr)) (fun jv _ => N - (intOf jv).toNat)
              case atStart => exact ⟨0, _, rfl, by omega, Hlk.out, H4⟩
              case round =>
                clear H4
                obtain ⟨j, r, rfl, hj, hr, H5⟩ := hrel
                by_cases hjl : j < N
                · have r1 : (j : Int) < (N : Int) := by omega
                  have r2 : (0 : Int) ≤ (j : Int) := by omega
                  obtain ⟨f1, f2⟩ := Ob.cell H5.out.1 (i := j) (by omega)
                  go_wp2
                  go_roundw
                  case rel =>
                    refine ⟨j + 1, r.set j 77, by go_num, by omega, by rw [List.length_set]; exact hr, Ob.set H5.out.1 j 77 _ rfl (by omega), ?_⟩
                    have hL := HLt.out
                    exact H5.out.2.wo (own := fun k => k = gL) ((Wo.refl _ _).setCell gL j _ (.inl rfl)) fun k e => by rw [e]; omega
                  case measure => simp [intOf]; omega
                · have r1 : ¬ (j : Int) < (N : Int) := by omega
                  have e2 := H5.out.2.c2
                  have e4 := H5.out.2.s1
                  have e5 := H5.out.2.z1
                  have hsz : (tb.size : Int) + (t.size : Int) ≤ 4294967296 := by have h1 := Hsum.out; have h2 := Hnx.out; have h3 := Hle.out; have h4 := Htot.out; omega
                  have hsn : tb.size + t.size ≤ 9223372036854775807 := by omega
                  have hsq : ¬ 9223372036854775807 < tb.size + t.size := by omega
                  go_upto_region 29 with (fail)
                  (refine Go.Lq.wp_region_last 8 (by kernel_rfl) (by kernel_rfl) ?_; dsimp only [List.dropLast]; (repeat (quiet_step (fail))); refine wpQuiet_nil ?_; intro _ hw'; obtain ⟨nq, hw''⟩ := hw'; subst hw''; refine Go.Lq.wpOp_last rfl rfl ?_; unfold Oper.wp; go_simp)
                  go_wp2
                  go_roundw
                  case rel =>
                    refine ⟨i + 1, by go_num, by omega, ga, gb, ta, tb ++ t, ?_, by rw [Hnx.out]; have h1 := Hsum.out; show _ + _ ≤ _; simp only [ByteArray.size_append]; omega⟩
                    have h1 := (H5.out.2.drewN nq).p.setS (i := 1) (v := .string (tb ++ t)) (ta' := ta) (tb' := tb ++ t) rfl
                    rw [Dg.app_list]
                    exact h1
                  case measure => simp [intOf]; omega
            by_cases hk2 : K = 2
            · subst hk2
              have e3 := HR.out.p1
              obtain ⟨D, hD⟩ : ∃ D, D = Dg.sum tb.toList := ⟨_, rfl⟩
              have hDl : D.length = 32 := by rw [hD]; exact Dg.sum_len _
              have l32 : (Lib.byteCells D).length = 32 := by rw [byteCells_len]; exact hDl
              have HD : Hid (D = Dg.sum tb.toList) := hD
              have hsm := Tryd.Hs.sum HR.out.p.c HR.out.p.t (by rw [Dg.list_len]; have h1 := Hsum.out; have h2 := Hnx.out; have h3 := Hle.out; have h4 := Htot.out; omega)
              rw [← hD] at hsm
              clear hD
              go_wp2_with (fail)
              refine hsm.mono ?_
              clear hsm
              rintro z x2 ⟨rfl, hb2⟩
              have st2 := Tryd.new32 x2 D hDl
              have H2 : Hid (Tryd.Pr w gh gs ga gb ta.toList tb.toList ta tb gO 2 M t x2) := HR.out.below hb2
              clear hb2 HR d0 d1 d2 e3
              go_upto_region 32 with (fail)
              obtain ⟨x3, hx3⟩ : ∃ x3, x3 = x2.alloc (.cells (Lib.byteCells D).toArray 32) := ⟨_, rfl⟩
              have H3 : Hid (Tryd.Pr w gh gs ga gb ta.toList tb.toList ta tb gO 2 M t x3 ∧ Dg.Br 32 x3 x2.heap.size D) := by
                rw [hx3]
                exact ⟨H2.out.below ((Below.refl _ x2).alloc (Nat.le_refl _) _), heap_alloc_new x2 _⟩
              rw [← hx3]
              clear hx3 st2 H2
              generalize x2.heap.size = gD at *
              have kD : ∀ W, Below x3.heap.size x3 W → Dg.Br 32 W gD D := fun W hW => H3.out.2.keep (hW.block _ H3.out.2.lt)
              have kS : ∀ W, Below x3.heap.size x3 W → Tryd.Pr w gh gs ga gb ta.toList tb.toList ta tb gO 2 M t W := fun W hW => H3.out.1.below hW
              refine wp_region_quiet (C := fun W => Below x3.heap.size x3 W) (by kernel_rfl) (by kernel_rfl) ⟨rfl, rfl, rfl, Nat.le_refl _, fun _ _ => rfl⟩ ?_
              dsimp only
              refine Go.Lq.q_valW (v := .slice (some ⟨gD, 0, none⟩) 32 32) (by kernel_rfl) (fun W _ => by have sl := Tryd.sl32 gD W; exact Dg.run_sl0 rfl rfl sl) ?_
              try simp only [Act.put, List.setIfInBounds_toArray, List.set_cons_zero, List.set_cons_succ]
              refine Go.Lq.q_valW (v := .string ⟨D.toArray⟩) (by kernel_rfl) (fun W hW => by have cv := Tryd.str32 (kD W hW) hDl; exact Dg.run_conv rfl rfl cv) ?_
              try simp only [Act.put, List.setIfInBounds_toArray, List.set_cons_zero, List.set_cons_succ]
              refine Go.Lq.q_valW (v := .int .i64 1) (by kernel_rfl) (fun _ _ => by kernel_rfl) ?_
              try simp only [Act.put, List.setIfInBounds_toArray, List.set_cons_zero, List.set_cons_succ]
              refine Go.Lq.q_valW (v := .pointer (some ⟨gs, 1, none⟩)) (by kernel_rfl) (fun _ _ => by kernel_rfl) ?_
              try simp only [Act.put, List.setIfInBounds_toArray, List.set_cons_zero, List.set_cons_succ]
              refine Go.Lq.q_valW (v := .string tb) (by kernel_rfl) (fun W hW => by have e4 := (kS W hW).s1; go_simp) ?_
              try simp only [Act.put, List.setIfInBounds_toArray, List.set_cons_zero, List.set_cons_succ]
              refine Go.Lq.q_callW (v := .string ⟨D.toArray⟩) (f := 19) (args := #[.string tb]) (by kernel_rfl) (fun _ _ => by kernel_rfl) (fun W hW => ?_) ?_
              · have h1 := Tryd.refSum_any tb (by have h1 := Hsum.out; have h2 := Hnx.out; have h3 := Hle.out; have h4 := Htot.out; omega) W
                rw [← HD.out] at h1
                exact h1.mono fun _ _ ⟨h2, h3⟩ => ⟨h2, hW.trans (h3.mono hW.size)⟩
              try simp only [Act.put, List.setIfInBounds_toArray, List.set_cons_zero, List.set_cons_succ]
              refine Go.Lq.q_valW (v := .bool false) (by kernel_rfl) (fun W _ => by go_simp) ?_
              try simp only [Act.put, List.setIfInBounds_toArray, List.set_cons_zero, List.set_cons_succ]
              refine wpQuiet_nil ?_
              intro W hW
              have HW : Hid _ := kS W hW
              clear hW kD kS
              go_wp2
              go_roundw
              case rel => exact ⟨i + 1, by go_num, by omega, ga, gb, ta, tb, HW.out.p, by rw [Hnx.out]; have h1 := Hsum.out; omega⟩
              case measure => simp [intOf]; omega
            by_cases hk3 : K = 3
            · subst hk3
              have hnew := Tryd.new_any x0 HR.out.p.t
              go_upto_region 36 with (first | (go_at_call 21; refine hnew.mono ?_; clear hnew; rintro z x2 ⟨rfl, hh2, hb2⟩; have H2 : Hid (Below x0.heap.size x0 x2 ∧ Tryd.Hs x2 x0.heap.size []) := ⟨hb2, Tryd.Hs.new hh2⟩; clear hh2 hb2; have e3 := (HR.out.below H2.out.1).p1; have e4 := (HR.out.below H2.out.1).y1) | fail)
              have H3 : Hid _ := HR.out.p.newB H2.out.1 (Nat.le_refl _) H2.out.2
              clear e3 e4 d0 d1 d2 HR H2
              generalize hx3 : x2.setCell ⟨gh, 1, none⟩ (.pointer (some ⟨x0.heap.size, 0, none⟩)) = x3 at *
              have e5 : x3.cell? ⟨gs, 1, none⟩ = some (.string tb) := (by rw [cell_of_row _ _ _ _ _ _ H3.out.s]; rfl)
              have e6 : x3.frozen? ⟨gs, 1, none⟩ = false := frozen_of_row _ _ _ _ _ H3.out.s
              clear hx3
              go_wp2
              go_roundw
              case rel =>
                refine ⟨i + 1, by go_num, by omega, ga, x0.heap.size, ta, ⟨#[]⟩, ?_, by rw [Hnx.out]; have h1 := Hsum.out; show ta.size + 0 ≤ _; omega⟩
                have h1 := H3.out.setS (i := 1) (v := .string ⟨#[]⟩) (ta' := ta) (tb' := ⟨#[]⟩) rfl
                rw [Dg.emptyText]
                exact h1
              case measure => simp [intOf]; omega
            · have r1 : (K == 1) = false := by simp; omega
              have r2 : (K == 2) = false := by simp; omega
              have r3 : (K == 3) = false := by simp; omega
              go_wp2
              go_roundw
              case rel => exact ⟨i + 1, by go_num, by omega, ga, gb, ta, tb, HR.out.p, by rw [Hnx.out]; have h1 := Hsum.out; omega⟩
              case measure => simp [intOf]; omega
        · have q1 : ¬ (i : Int) < (L : Int) := by omega
          obtain ⟨ga, gb, ta, tb, hpc, hsum⟩ := HP.out.ex
          have HPC : Hid _ := hpc
          have Hts : Hid (ta.size ≤ 2147483647) := (by show _ ≤ _; have h2 := Dg.tot_le l i (by rw [← HL.out]; exact hi); have h3 := Htot.out; omega)
          clear hpc hsum HP
          have hp0 : wr.cell? ⟨gh, 0, none⟩ = some (.pointer (some ⟨ga, 0, none⟩)) := by rw [cell_of_row _ _ _ _ _ _ HPC.out.h]; rfl
          have hwr := Tryd.Hs.write (w := wr) (g := ga) (l := ta.toList) (b := []) (V := .slice none 0 0) HPC.out.a HPC.out.t (by have := HPC.out.f; have := HPC.out.fl; omega) (Dg.bs_none0 wr) (by intro e; cases e) (by rw [Dg.list_len]; have := Hts.out; simp; omega)
          rw [List.append_nil] at hwr
          go_upto_region 38 with (first | (go_at_call 23; refine hwr.mono ?_; clear hwr; rintro z x1 ⟨rfl, hh1, hw1⟩; have H1 : Hid (Tryd.Pc w gh gs ga gb ta.toList tb.toList ta tb x1) := HPC.out.addA hw1 hh1; clear hh1 hw1) | fail)
          clear hp0 HPC
          have hp0 : x1.cell? ⟨gh, 0, none⟩ = some (.pointer (some ⟨ga, 0, none⟩)) := by rw [cell_of_row _ _ _ _ _ _ H1.out.h]; rfl
          obtain ⟨D, hD⟩ : ∃ D, D = Dg.sum ta.toList := ⟨_, rfl⟩
          have hDl : D.length = 32 := by rw [hD]; exact Dg.sum_len _
          have l32 : (Lib.byteCells D).length = 32 := by rw [byteCells_len]; exact hDl
          have HD : Hid (D = Dg.sum ta.toList) := hD
          have hsm := Tryd.Hs.sum H1.out.a H1.out.t (by rw [Dg.list_len]; have := Hts.out; omega)
          rw [← hD] at hsm
          clear hD
          go_wp2_with (fail)
          refine hsm.mono ?_
          clear hsm
          rintro z x2 ⟨rfl, hb2⟩
          have st2 := Tryd.new32 x2 D hDl
          have H2 : Hid (Tryd.Pc w gh gs ga gb ta.toList tb.toList ta tb x2) := H1.out.below hb2
          clear hb2 H1 hp0
          go_upto_region 39 with (fail)
          obtain ⟨x3, hx3⟩ : ∃ x3, x3 = x2.alloc (.cells (Lib.byteCells D).toArray 32) := ⟨_, rfl⟩
          have H3 : Hid (Tryd.Pc w gh gs ga gb ta.toList tb.toList ta tb x3 ∧ Dg.Br 32 x3 x2.heap.size D) := by
            rw [hx3]
            exact ⟨H2.out.below ((Below.refl _ x2).alloc (Nat.le_refl _) _), heap_alloc_new x2 _⟩
          rw [← hx3]
          clear hx3 st2 H2
          generalize x2.heap.size = gD at *
          have hs0 : x3.cell? ⟨gs, 0, none⟩ = some (.string ta) := by rw [cell_of_row _ _ _ _ _ _ H3.out.1.s]; rfl
          have hcv := Tryd.conv_sb2 ta x3
          have hbw : Below x3.heap.size x3 (Lib.bytesWorld x3 5 ta) := Dg.bytesW_below x3 _ ta
          have hsa := Tryd.sum_any (w := Lib.bytesWorld x3 5 ta) (H3.out.1.below hbw).t (Ob.bs (Dg.bytesW_ob x3 5 ta (Nat.le_refl _))) (fun k e => (Ob.lt (Dg.bytesW_ob x3 5 ta (Nat.le_refl _)) k e).2) (by show ta.size ≤ _; have := Hts.out; omega)
          rw [← ByteArray.toList_eq, ← HD.out] at hsa
          have HBW : Hid _ := hbw
          clear hbw
          go_wp2_with (fail)
          refine hsa.mono ?_
          clear hsa
          rintro z x4 ⟨rfl, hb4⟩
          have st4 := Tryd.new32 x4 D hDl
          have hb34 : Below x3.heap.size x3 x4 := HBW.out.trans (hb4.mono HBW.out.size)
          have H4 : Hid (Below w.heap.size w x4 ∧ Dg.Br 32 x4 gD D) := ⟨(H3.out.1.below hb34).b, H3.out.2.keep (hb34.block _ H3.out.2.lt)⟩
          clear hb4 hb34 hcv hs0 H3 HBW
          go_upto_region 40 with (fail)
          obtain ⟨x5, hx5⟩ : ∃ x5, x5 = x4.alloc (.cells (Lib.byteCells D).toArray 32) := ⟨_, rfl⟩
          have H5 : Hid (Below w.heap.size w x5 ∧ Dg.Br 32 x5 gD D ∧ Dg.Br 32 x5 x4.heap.size D) := by
            rw [hx5]
            have h1 : Below x4.heap.size x4 (x4.alloc (.cells (Lib.byteCells D).toArray 32)) := (Below.refl _ x4).alloc (Nat.le_refl _) _
            exact ⟨H4.out.1.trans (h1.mono H4.out.1.size), H4.out.2.keep (h1.block _ H4.out.2.lt), heap_alloc_new x4 _⟩
          rw [← hx5]
          clear hx5 st4 H4
          generalize x4.heap.size = gE at *
          have la := Tryd.load32 H5.out.2.1 hDl
          have lb := Tryd.load32 H5.out.2.2 hDl
          have eqm := Tryd.eq32 x5 D hDl
          generalize (Lib.byteCells D).toArray = BB at *
          refine wp_region_lit ?_
          refine Dg.step_valueW (v := .bool true) (w' := x5) (by kernel_rfl) (by kernel_rfl) ?_
          try simp only [Act.put, List.setIfInBounds_toArray, List.set_cons_zero, List.set_cons_succ]
          refine Dg.step_valueW (v := .bool true) (w' := x5) (by kernel_rfl) (by kernel_rfl) ?_
          try simp only [Act.put, List.setIfInBounds_toArray, List.set_cons_zero, List.set_cons_succ]
          refine Dg.step_valueW (v := .agg BB) (w' := x5) (by kernel_rfl) (Dg.run_load rfl rfl la) ?_
          try simp only [Act.put, List.setIfInBounds_toArray, List.set_cons_zero, List.set_cons_succ]
          refine Dg.step_valueW (v := .agg BB) (w' := x5) (by kernel_rfl) (Dg.run_load rfl rfl lb) ?_
          try simp only [Act.put, List.setIfInBounds_toArray, List.set_cons_zero, List.set_cons_succ]
          refine Dg.step_valueW (v := .bool true) (w' := x5) (by kernel_rfl) (by go_simp) ?_
          try simp only [Act.put, List.setIfInBounds_toArray, List.set_cons_zero, List.set_cons_succ]
          go_wp2
          go_ret
          exact ⟨rfl, H5.out.1⟩
end Go.Proofs
