/-
  does: the disk is formatted anew; a disk with a journal that may be an old one's.
-/
import Derived.Test.YtkoojpaanpmgeaaKp
namespace Go.Proofs
open Go.RowKit Go.Dk
theorem Try.format_more {w : World} {own : Nat → Prop} {x : Nat} {s : DS} {q g a : Nat} {snap : List UInt8} {recs : List (List UInt8)} (h : Try.Dsk w own x s) (ho : Holds s g a snap recs) (hc : s.Can (q + 4000)) (hg : g < 999999999) :
    Calls Try.prog 21 #[.pointer (some ⟨x, 0, none⟩)] w fun r w' => r = .returned (.int .i64 0) ∧ ∃ s', Try.Chg own w w' x s' ∧ Holds s' (g + 1) (1 - a) [] [] ∧ s'.Can q ∧ s'.n = s.n ∧ s'.falls = s.falls := by
  obtain ⟨u, v, hu, hv, hH⟩ := ho.looks
  have hb : (body snap recs).length = snap.length + (recs.flatMap recB).length := by simp [body]
  have hs := ho.small
  have hca := compact_can (q := q + 1000) hc ho.fs ho.n4 (Dk.nextH a g []) []
  obtain ⟨s1, _, _, _, _, _, hn, _⟩ := compact_eq (s := s) ho.fs (Dk.nextH a g []) []
  refine (Try.format_held h hc ho.n8 u v hu hv ⟨a, g, snap.length, fnv snap⟩ hH ho.a1 (by show snap.length ≤ 64 * half s.n; omega) hg ho.fs).mono fun r w' ⟨k1, k2⟩ => ⟨k1, _, k2, ho.compact [] hg (by simp), hca.1.mono (by omega), hn, hca.2⟩
/-- The disk is new; the journal y is an old one's. -/
structure Try.Fmt (own : Nat → Prop) (w w' : World) (y x q g a e f : Nat) (n fl : Nat) : Prop where
  ex : ∃ own' s, Try.Dsk w' own' x s ∧ Holds s (g + 1) (1 - a) [] [] ∧ s.Can q ∧ s.n = n ∧ s.falls = fl ∧ ∀ k, own' k → own k ∨ w.heap.size ≤ k
  jn : Try.Jn w' y x a g e f
  wo : Dk.Wo own w w'
set_option maxHeartbeats 2000000 in
set_option maxRecDepth 20000 in
theorem Try.does_format {w : World} {own : Nat → Prop} {y x q g a : Nat} {s : DS} {snap : List UInt8} {recs : List (List UInt8)} {ad : Option Addr} {cap : Nat} (h : Try.JD w own y x s (q + 4000) g a snap recs) (hg : g < 999999999) (sz lk : Int) (i : Int) :
    Calls Try.prog 24 #[.pointer (some ⟨x, 0, none⟩), .pointer (some ⟨y, 0, none⟩), .agg #[.string ⟨snap.toArray⟩, .slice ad recs.length cap], .agg #[.bool false, .bool true, .int .i64 sz, .int .i64 lk], .int .i64 i] w fun r w' => r = .returned (.tuple #[.agg #[.string ⟨#[]⟩, .slice none 0 0], .int .i64 0]) ∧ Try.Fmt own w w' y x q g a (body snap recs).length s.falls s.n s.falls := by
  obtain ⟨f0, f1, f2, fs, fb⟩ := Try.Dw_facts w snap (.slice ad recs.length cap) false true sz lk
  have HJ : Hid _ := h
  clear h
  generalize hW : Try.Dw w snap (.slice ad recs.length cap) false true sz lk = W0 at *
  unfold Try.Dw at hW
  have hfo := Try.format_more (HJ.out.dsk.below fb) HJ.out.ho HJ.out.can hg
  have o0 := cell_of_row _ _ 0 _ _ _ f1
  have o1 := cell_of_row _ _ 1 _ _ _ f1
  simp only [List.getElem?_toArray, List.getElem?_cons_zero, List.getElem?_cons_succ] at o0 o1
  have hlo : ∀ k, own k → k < w.heap.size := HJ.out.dsk.lt
  have hyl := Dk.block_lt HJ.out.jn
  go_enter Try.func24, Try.ntmps24
  go_wp2_with (first
    | (go_at_call 21; refine hfo.mono ?_; clear hfo; rintro e w3 ⟨rfl, s', hch, hho, hca, hn, hfl⟩; have hr3 := (hch.wo.block (w.heap.size + 1 + 1) (by omega) (fun e => by have := hlo _ e; omega)).trans f2; have r0 := cell_of_row _ _ 0 _ _ _ hr3; have r1 := cell_of_row _ _ 1 _ _ _ hr3; have z0 := frozen_of_row _ _ 0 _ _ hr3; have z1 := frozen_of_row _ _ 1 _ _ hr3; simp only [List.getElem?_toArray, List.getElem?_cons_zero, List.getElem?_cons_succ] at r0 r1; have HCH : Hid _ := hch; have HHO : Hid _ := hho; have HCA : Hid _ := hca; have HN : Hid _ := hn; have HFL : Hid _ := hfl; have HR3 : Hid _ := hr3; clear hch hho hca hn hfl hr3)
    | fail)
  have hC := Dk.two_cells HR3.out (.string ⟨#[]⟩) (.slice none 0 0)
  have g0 := cell_of_row _ _ 0 _ _ _ hC
  have g1 := cell_of_row _ _ 1 _ _ _ hC
  simp only [List.getElem?_toArray, List.getElem?_cons_zero, List.getElem?_cons_succ] at g0 g1
  refine bodyPost_ret (v := .tuple #[.agg #[.string ⟨#[]⟩, .slice none 0 0], .int .i64 0]) (by simp [results, go_sem, g0, g1]) rfl ?_
  obtain ⟨own', hD, hl⟩ := HCH.out.ex
  have hs3 := HCH.out.wo.size
  have hwo : Dk.Wo (fun k => k = w.heap.size + 1 + 1) w3 ((w3.setCell ⟨w.heap.size + 1 + 1, 0, none⟩ (.string ⟨#[]⟩)).setCell ⟨w.heap.size + 1 + 1, 1, none⟩ (.slice none 0 0)) := (((Dk.Wo.refl (fun k => k = w.heap.size + 1 + 1) w3).setCell (w.heap.size + 1 + 1) 0 _ (.inl rfl)).setCell (w.heap.size + 1 + 1) 1 _ (.inl rfl))
  refine ⟨rfl, ⟨own', s', hD.keep (fun k e => hwo.block k (hD.lt k e) (fun e1 => ?_)) hwo.size, HHO.out, HCA.out, HN.out, HFL.out, fun k e => ?_⟩, ?_, ?_⟩
  · rcases hl k e with e2 | e2
    · have := hlo k e2; omega
    · omega
  · rcases hl k e with e1 | e1
    · exact .inl e1
    · exact .inr (by omega)
  · exact ((HJ.out.jn.below fb).wo HCH.out.wo HJ.out.ny).wo hwo (by omega)
  · exact ((((Dk.Wo.refl own w).below fb (Nat.le_refl _)).trans HCH.out.wo).setCell (w.heap.size + 1 + 1) 0 _ (.inr (by omega))).setCell (w.heap.size + 1 + 1) 1 _ (.inr (by omega))
section
variable {B : Nat} {w0 w : World} {n y x q g a : Nat} {snap : List UInt8} {recs : List (List UInt8)} {bs : Dk.Bxs} {ss : Dk.Sts}
/-- A disk that holds a journal; y is one that was opened ahead. -/
structure Try.Lu (B : Nat) (w0 w : World) (n y x q g a : Nat) (snap : List UInt8) (recs : List (List UInt8)) (bs : Dk.Bxs) (ss : Dk.Sts) : Prop where
  ex : ∃ own s e f a' g', (Try.Dsk w own x s ∧ Holds s g a snap recs ∧ s.Can q) ∧ (s.n = n ∧ s.falls + q ≤ 1000000) ∧ (Try.Jn w y x a' g' e f ∧ e ≤ 64 * half s.n ∧ ¬ own y) ∧ (∀ k, own k → B ≤ k) ∧ (∀ b ∈ bs, Try.Bx w (fun k => ¬ own k ∧ k ≠ y ∧ B ≤ k) b.1 b.2.1 b.2.2) ∧ ∀ v ∈ ss, Try.Sta w (fun k => ¬ own k ∧ k ≠ y ∧ B ≤ k) v.1 v.2.1 v.2.2
  yb : B ≤ y
  bel : Below B w0 w
theorem Try.Lt.lu (h : Try.Lt B w0 w n y x q g a snap recs bs ss) : Try.Lu B w0 w n y x q g a snap recs bs ss := by
  obtain ⟨own, s, h1, h2, h3, h4, h5⟩ := h.ex
  exact ⟨⟨own, s, _, _, _, _, ⟨h1.dsk, h1.ho, h1.can⟩, h2, ⟨h1.jn, h1.ho.small, h1.ny⟩, h3, h4, h5⟩, h.yb, h.bel⟩
theorem Try.Lu.size (h : Try.Lu B w0 w n y x q g a snap recs bs ss) : B < w.heap.size := by
  obtain ⟨own, s, e, f, a', g', _, _, h1, _⟩ := h.ex
  exact Nat.lt_of_le_of_lt h.yb (Dk.block_lt h1.1)
theorem Try.Lu.below {w' : World} (h : Try.Lu B w0 w n y x q g a snap recs bs ss) (hb : Below w.heap.size w w') : Try.Lu B w0 w' n y x q g a snap recs bs ss := by
  obtain ⟨own, s, e, f, a', g', h0, h2, h3, h4, h5, h6⟩ := h.ex
  exact ⟨⟨own, s, e, f, a', g', ⟨h0.1.below hb, h0.2⟩, h2, ⟨h3.1.below hb, h3.2⟩, h4, fun b e => (h5 b e).mono fun k hk hp => ⟨hb.block k hk, hp⟩, fun v e => (h6 v e).below hb⟩, h.yb, h.bel.trans (hb.mono (Nat.le_of_lt h.size))⟩
theorem Try.Lu.room (h : Try.Lu B w0 w n y x q g a snap recs bs ss) :
    Calls Try.prog 14 #[.pointer (some ⟨y, 0, none⟩)] w fun r w' => (∃ z, r = .returned (.int .i64 z)) ∧ Below w.heap.size w w' := by
  obtain ⟨own, s, e, f, a', g', h0, h2, h3, h4, h5, h6⟩ := h.ex
  exact (Try.room_any h0.1 (by have := h0.2.1.n8; omega) h3.2.1 h3.1).mono fun r w' ⟨e, hb⟩ => ⟨⟨_, e⟩, hb⟩
theorem Try.Lu.costs (h : Try.Lu B w0 w n y x q g a snap recs bs ss) :
    Calls Try.prog 23 #[.pointer (some ⟨x, 0, none⟩)] w fun r w' => (∃ c1 c2, r = .returned (.tuple #[.int .i64 c1, .int .i64 c2])) ∧ Below w.heap.size w w' := by
  obtain ⟨own, s, e, f, a', g', h0, h2, h3, h4, h5, h6⟩ := h.ex
  obtain ⟨l, t, V, hm, -⟩ := h0.1.ex
  exact (Try.costs_any hm).mono fun r w' ⟨e, nn, hn⟩ => ⟨⟨_, _, e⟩, by rw [hn]; exact Dk.belowN w nn⟩
theorem Try.Lu.told (h : Try.Lu B w0 w n y x q g a snap recs bs ss) :
    Calls Try.prog 16 #[.pointer (some ⟨x, 0, none⟩)] w fun r w' => ∃ y' ad cap, r = .returned (.tuple #[.pointer (some ⟨y', 0, none⟩), .agg #[.string ⟨snap.toArray⟩, .slice ad recs.length cap], .bool true]) ∧ Try.Lu B w0 w' n y x q g a snap recs bs ss ∧ Try.Lt B w0 w' n y' x q g a snap recs bs ((.agg #[.string ⟨snap.toArray⟩, .slice ad recs.length cap], snap, recs) :: ss) := by
  obtain ⟨own, s, e, f, a', g', h0, h2, h3, h4, h5, h6⟩ := h.ex
  refine (Try.told_any h0.1 h0.2.1 h0.2.2).mono ?_
  rintro r w' ⟨y', t, rfl, hT⟩
  have hst := hT.st
  obtain ⟨rv, rfl, hr, _⟩ := hst
  obtain ⟨ad, cap, rfl, -⟩ := Dk.row_form hr
  have hsz := h.size
  have hy0 := hT.y0
  have hyl := Dk.block_lt h3.1
  have key : ∀ k, k < w.heap.size → (¬ own k ∧ k ≠ y ∧ B ≤ k) → w'.heap[k]? = w.heap[k]? ∧ (¬ own k ∧ k ≠ y' ∧ B ≤ k) := fun k hk hp => ⟨hT.bel.block k hk, hp.1, by omega, hp.2.2⟩
  refine ⟨y', ad, cap, rfl, h.below hT.bel, ⟨own, s, hT.jd, h2, h4, fun b e => (h5 b e).mono key, fun v e => ?_⟩, by omega, h.bel.trans (hT.bel.mono (by omega))⟩
  rcases List.mem_cons.1 e with rfl | e
  · exact hT.st.mono fun k hk hp => ⟨rfl, fun e1 => by have := h0.1.lt k e1; omega, hp.2, by omega⟩
  · exact (h6 v e).mono key
end
end Go.Proofs
