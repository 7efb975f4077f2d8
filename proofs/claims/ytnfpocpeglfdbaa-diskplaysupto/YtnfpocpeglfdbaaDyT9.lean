/-
  A step: copy.
-/
import Derived.Test.YtnfpocpeglfdbaaDyT1
import Derived.Test.YtnfpocpeglfdbaaDu
import Derived.Deep.RegionLaw
namespace Go.Proofs
open Go.RowKit Go.Dk
theorem Try.Rfm.ct {w : World} {x : Nat} {Lv Wv : Value} {left k t : Int} {s : DS} (h : Try.Rfm w x Lv Wv left k t s) (c : Nat) : Try.Rfm w x Lv Wv left k t { s with ct := c } :=
  ⟨h.hx, h.hf, h.lr, h.wr, h.lx, h.wx, h.lL, h.good, h.n0, h.n1, h.w1⟩
theorem Try.Zw.lrow3 {B : Nat} {w0 w : World} {wb : Nat} {G : Dk.Gs} {ps : List Dk.Pq} {H : Nat} {rv : Nat → Value} {rb : Nat → List UInt8} (h : Try.Zw B w0 w wb G ps H rv rb) : ∃ ad cap kv, w.heap[wb]? = some (.cells #[.slice ad ps.length cap, kv] 28 (0, 0)) ∧ ps.length ≤ cap ∧ w.ownsRow 0 44 2 (.slice ad ps.length cap) ps.length (Dk.pcs ps) ∧ (Value.slice ad ps.length cap).ownBlock ≠ some wb ∧ ∀ x, x ∈ G → (Value.slice ad ps.length cap).ownBlock ≠ some x.1 ∧ x.1 ≠ wb := by
  obtain ⟨tag, lv, kv, hs, g, -⟩ := h.ex
  obtain ⟨ad, cap, e, h1, h2, h3⟩ := Dk.rowForm g.lr
  subst e
  refine ⟨ad, cap, kv, g.bl, h3, g.lr, fun e => by have h1 := g.lo _ e; rw [g.tw] at h1; omega, fun x hx => ⟨fun e => ?_, fun e => ?_⟩⟩
  · have h1 := g.lo _ e; rw [(g.gs x hx).2] at h1; omega
  · have h1 := (g.gs x hx).2; rw [e, g.tw] at h1; omega
theorem Dk.okCt {c : Nat} {s : DS} (h : Ok c s) (t : Nat) : Ok (c + 1) { s with ct := t } := ⟨by have := h.w; show s.W.length ≤ _; omega, by have := h.a; show s.wrote ≤ _; omega, by have := h.b; show s.synced ≤ _; omega, by have := h.f; show s.falls ≤ _; omega, h.fl, h.n⟩
structure Try.CEnd (B : Nat) (w0 : World) (wb vb : Nat) (G : Dk.Gs) (ps : List Dk.Pq) (H : Nat) (w5 A : World) (V r : Value) (p : Dk.Pq) : Prop where
  aa : A.cell? ⟨vb, 1, none⟩ = some r
  la : A.cell? ⟨wb, 0, none⟩ = some V
  row : A.ownsRow 0 44 2 V ps.length (Dk.pcs ps)
  nb : A.heap[w5.heap.size]? = some (.cells #[.pointer (some ⟨p.d, 0, none⟩), .pointer (some ⟨p.r, 0, none⟩)] 44 (0, 0))
  en : ∀ g cap' w6, w6.ownsRow 0 44 2 (.slice (some ⟨g, 0, none⟩) (ps.length + 1) cap') (ps.length + 1) (Dk.pcs (ps ++ [p])) → A.grownBy w6 V.ownBlock → (V.ownBlock = some g ∨ g = A.heap.size) → w6.cell? ⟨vb, 1, none⟩ = some r ∧ (w6.setCell ⟨wb, 0, none⟩ (.slice (some ⟨g, 0, none⟩) (ps.length + 1) cap')).cell? ⟨vb, 1, none⟩ = some r ∧ w6.frozen? ⟨wb, 0, none⟩ = false ∧ (∃ u, w6.cell? ⟨wb, 0, none⟩ = some u) ∧ Try.Zw B w0 (w6.setCell ⟨wb, 0, none⟩ (.slice (some ⟨g, 0, none⟩) (ps.length + 1) cap')) wb G (ps ++ [p]) H Dk.r0 Dk.b0
theorem Try.copyEnds {B : Nat} {w0 w w4 w5 A : World} {wb vb : Nat} {G : Dk.Gs} {ps : List Dk.Pq} {H : Nat} (h : Try.Zw B w0 w wb G ps H Dk.r0 Dk.b0) {V kv r : Value} (hc : w.heap[wb]? = some (.cells #[V, kv] 28 (0, 0))) (hlr : w.ownsRow 0 44 2 V ps.length (Dk.pcs ps)) (hne : V.ownBlock ≠ some wb) (hng : V.ownBlock ≠ some vb ∧ vb ≠ wb) (hb4 : Below w.heap.size w w4) (hb5 : Below w4.heap.size w4 w5) {x z : Nat} {s : DS} (hD : Try.Dsk w4 (fun k => w.heap.size ≤ k ∧ k < w4.heap.size) x s) (hR : Try.Rf w5 (fun k => w4.heap.size ≤ k ∧ k < w5.heap.size) z s) (hA : A = w5.alloc (.cells #[.pointer (some ⟨x, 0, none⟩), .pointer (some ⟨z, 0, none⟩)] 44)) (dd : w5.cell? ⟨vb, 1, none⟩ = some r) (l5 : w5.cell? ⟨wb, 0, none⟩ = some V) :
    Try.CEnd B w0 wb vb G ps H w5 A V r ⟨x, z, s, s⟩ := by
  have hbA : Below w5.heap.size w5 A := by rw [hA]; exact (Below.refl _ w5).alloc (Nat.le_refl _) _
  have hs4 := hb4.size
  have hs5 := hb5.size
  have hb45 : Below w.heap.size w w5 := hb4.trans (hb5.mono hs4)
  have hb4A : Below w.heap.size w A := hb45.trans (hbA.mono hb45.size)
  have hvb : vb < w5.heap.size := World.block_lt_of_cell? _ _ dd
  have haa : A.cell? ⟨vb, 1, none⟩ = some r := (hbA.cell (p := ⟨vb, 1, none⟩) hvb).trans dd
  have hwA : A.heap[wb]? = _ := (hb4A.block wb (Dk.block_lt hc)).trans hc
  refine ⟨haa, (hbA.cell (p := ⟨wb, 0, none⟩) (World.block_lt_of_cell? _ _ l5)).trans l5, Dk.row_heap hlr fun k e => hb4A.block k (hlr.lt k e).2, by rw [hA]; exact heap_alloc_new w5 _, fun g cap' w6 r1 r2 r3 => ?_⟩
  have hw6 := (r2.block wb (Dk.block_lt hwA) (fun e => hne e.symm)).trans hwA
  have bb : w6.cell? ⟨vb, 1, none⟩ = some r := (World.cell?_of_block (a := ⟨vb, 1, none⟩) (r2.block vb (Nat.lt_of_lt_of_le hvb hbA.size) (fun e => hng.1 e.symm))).trans haa
  have hkA : Below w5.heap.size w5 A := hbA
  refine ⟨bb, (World.cell?_of_block (a := ⟨vb, 1, none⟩) (Below.heap_setCell w6 ⟨wb, 0, none⟩ _ vb hng.2)).trans bb, frozen_of_row w6 wb 0 _ _ hw6, ⟨_, cell_of_row w6 wb 0 _ _ _ hw6⟩, ?_⟩
  exact h.push (p := ⟨x, z, s, s⟩) hc hb4A ((hD.keep (fun k e => hb5.block k e.2) hs5).keep (fun k e => hkA.block k (by omega)) hkA.size) (hR.keep (fun k e => hkA.block k e.2) hkA.size) (fun k e => e.1) (fun k e => ⟨by omega, fun e2 => by omega⟩) r2 rfl r1 (r3.elim .inl fun e => .inr (Nat.le_of_eq e.symm))
set_option maxRecDepth 4000 in
set_option maxHeartbeats 8000000 in
theorem Try.step_copy {B : Nat} {w0 w : World} {wb : Nat} {G : Dk.Gs} {ps : List Dk.Pq} {H c : Nat} (h : Try.Zw B w0 w wb G ps H Dk.r0 Dk.b0) (hP : Dk.Pin c ps) (hc : c ≤ 400000) (hH : H ≤ 250000000) (hps : ¬ ps.length = 0) (N q : Int) (b : ByteArray) (ck ct : Int) (hb : b.size ≤ 1048576) (hN : -9223372036854775808 ≤ N ∧ N ≤ 9223372036854775807) (hq : q ≤ 9223372036854775807) :
    Calls Try.prog 5 #[.pointer (some ⟨wb, 0, none⟩), .agg #[.int .i64 9, .int .i64 N, .int .i64 q, .string b, .int .i64 ck, .int .i64 ct]] w fun e w' => e = .returned (.bool true) ∧ Try.Stp B w0 wb G c H w' := by
  have HP : Hid (Dk.Pin c ps ∧ c ≤ 400000 ∧ H ≤ 250000000 ∧ b.size ≤ 1048576 ∧ q ≤ 9223372036854775807) := ⟨hP, hc, hH, hb, hq⟩
  obtain ⟨j, hj⟩ : ∃ j, j = Dk.pickN N ps.length := ⟨_, rfl⟩
  have hjl : j < ps.length := by rw [hj]; exact Dk.pickN_lt N (by omega)
  have Hl : Hid (j < ps.length) := hjl
  obtain ⟨p, hp⟩ : ∃ p, ps[j]? = some p := ⟨_, List.getElem?_eq_getElem hjl⟩
  have Hp : Hid (ps[j]? = some p) := hp
  have Hpo : Hid (p.t = p.s ∧ Ok c p.s) := hP.ok j p hp
  obtain ⟨W1, hW1⟩ : ∃ W1 : World, W1 = w.alloc (.cells #[.int .i64 9, .int .i64 N, .int .i64 q, .string b, .int .i64 ck, .int .i64 ct] 33) := ⟨_, rfl⟩
  have hb1 : Below w.heap.size w W1 := by rw [hW1]; exact (Below.refl _ w).alloc (Nat.le_refl _) _
  have hx1 : W1.heap[w.heap.size]? = some (.cells #[.int .i64 9, .int .i64 N, .int .i64 q, .string b, .int .i64 ck, .int .i64 ct] 33 (0, 0)) := by rw [hW1]; exact heap_alloc_new w _
  have hZ1 := h.guest hb1 hx1 (Nat.le_refl _)
  have HW : Hid (W1 = w.alloc (.cells #[.int .i64 9, .int .i64 N, .int .i64 q, .string b, .int .i64 ck, .int .i64 ct] 33)) := hW1
  have HG : Hid (∀ x, x ∈ G → x ∈ (w.heap.size, (.cells #[.int .i64 9, .int .i64 N, .int .i64 q, .string b, .int .i64 ck, .int .i64 ct] 33 (0, 0) : Obj)) :: G) := fun x e => .tail _ e
  have m2 : (w.heap.size, (.cells #[.int .i64 9, .int .i64 N, .int .i64 q, .string b, .int .i64 ck, .int .i64 ct] 33 (0, 0) : Obj)) ∈ (w.heap.size, (.cells #[.int .i64 9, .int .i64 N, .int .i64 q, .string b, .int .i64 ck, .int .i64 ct] 33 (0, 0) : Obj)) :: G := .head _
  generalize (w.heap.size, (.cells #[.int .i64 9, .int .i64 N, .int .i64 q, .string b, .int .i64 ck, .int .i64 ct] 33 (0, 0) : Obj)) :: G = G2 at hZ1 HG m2
  have hpk : ∀ W : World, Calls Try.prog 9 #[.int .i64 N, .int .i64 ps.length] W fun e w' => e = .returned (.int .i64 j) ∧ w' = W := fun W => by
    rw [hj]
    exact Try.pick_any N ps.length (by omega) (by have := hP.len; omega) hN.1 hN.2 W
  obtain ⟨ad, cap, l0, hcap, hpl⟩ := hZ1.lrow
  obtain ⟨g, rfl, l1, l2⟩ := hpl j p hp
  obtain ⟨L, hL⟩ : ∃ L, L = ps.length := ⟨_, rfl⟩
  rw [← hL] at l0 hcap hps hjl hpk
  have q0 : ¬ (L : Int) = 0 := by omega
  have q1 : (j : Int) < (L : Int) := by omega
  have q2 : (0 : Int) ≤ (j : Int) := by omega
  clear h hb1 hP hc hH hb hN hq hj hp hW1 hpl hps hL
  go_enter Try.func5, Try.ntmps5
  go_upto_region 1 with fail
  rw [← HW.out]
  clear HW
  generalize w.heap.size = ob at *
  have M : Hid ((ob, (.cells #[.int .i64 9, .int .i64 N, .int .i64 q, .string b, .int .i64 ck, .int .i64 ct] 33 (0, 0) : Obj)) ∈ G2) := m2
  clear m2
  have a0 := cell_of_row W1 ob 0 _ _ _ hx1
  have a1 := cell_of_row W1 ob 1 _ _ _ hx1
  go_upto_region 11 with fail
  have n1 := World.new_ne W1 _ l0
  have n2 := World.new_ne W1 _ l1
  have n4 := World.new_ne W1 _ a1
  go_region_held3 (fun W => W.cell? ⟨wb, 0, none⟩ = some (.slice (some ⟨g, 0, none⟩) L cap) ∧ W.cell? ⟨ob, 1, none⟩ = some (.int .i64 N) ∧ W.cell? ⟨g, j * 2, none⟩ = some (.pointer (some ⟨p.d, 0, none⟩)) ∧ W.cell? ⟨g, j * 2 + 1, none⟩ = some (.pointer (some ⟨p.r, 0, none⟩))) (first | assumption | exact ⟨l0, a1, l1, l2⟩ | go_keep) (first
    | (go_at_call 9; refine (hpk _).mono ?_; rintro e W2 ⟨rfl, e2⟩; have e3 := e2.symm; clear e2; subst e3)
    | fail)
  all_goals
    have hb2 : Below W1.heap.size W1 (W1.alloc (.cells #[.pointer (some ⟨p.d, 0, none⟩), .pointer (some ⟨p.r, 0, none⟩)] 44)).drew := ((Below.refl _ W1).alloc (Nat.le_refl _) _).drew
    have hx2 : (W1.alloc (.cells #[.pointer (some ⟨p.d, 0, none⟩), .pointer (some ⟨p.r, 0, none⟩)] 44)).drew.heap[W1.heap.size]? = some (.cells #[.pointer (some ⟨p.d, 0, none⟩), .pointer (some ⟨p.r, 0, none⟩)] 44 (0, 0)) := heap_alloc_new W1 _
    have hZ2 := hZ1.guest hb2 hx2 (Nat.le_refl _)
    have m1 : (W1.heap.size, (.cells #[.pointer (some ⟨p.d, 0, none⟩), .pointer (some ⟨p.r, 0, none⟩)] 44 (0, 0) : Obj)) ∈ (W1.heap.size, (.cells #[.pointer (some ⟨p.d, 0, none⟩), .pointer (some ⟨p.r, 0, none⟩)] 44 (0, 0) : Obj)) :: G2 := .head _
    have m3 : (ob, (.cells #[.int .i64 9, .int .i64 N, .int .i64 q, .string b, .int .i64 ck, .int .i64 ct] 33 (0, 0) : Obj)) ∈ (W1.heap.size, (.cells #[.pointer (some ⟨p.d, 0, none⟩), .pointer (some ⟨p.r, 0, none⟩)] 44 (0, 0) : Obj)) :: G2 := .tail _ M.out
    have m4 : ∀ x, x ∈ G → x ∈ (W1.heap.size, (.cells #[.pointer (some ⟨p.d, 0, none⟩), .pointer (some ⟨p.r, 0, none⟩)] 44 (0, 0) : Obj)) :: G2 := fun x e => .tail _ (HG.out x e)
    clear HG M hb2 hx2
    generalize (W1.heap.size, (.cells #[.pointer (some ⟨p.d, 0, none⟩), .pointer (some ⟨p.r, 0, none⟩)] 44 (0, 0) : Obj)) :: G2 = G3 at hZ2 m1 m3 m4
    clear l0 l1 l2 hpk a0 a1 n1 n2 n4 hx1 q0 q1 q2 hjl hcap
    clear hZ1
    generalize (W1.alloc (.cells #[.pointer (some ⟨p.d, 0, none⟩), .pointer (some ⟨p.r, 0, none⟩)] 44)).drew = W2 at *
    generalize W1.heap.size = vb at *
    have M1 : Hid ((vb, (.cells #[.pointer (some ⟨p.d, 0, none⟩), .pointer (some ⟨p.r, 0, none⟩)] 44 (0, 0) : Obj)) ∈ G3) := m1
    have M3 : Hid ((ob, (.cells #[.int .i64 9, .int .i64 N, .int .i64 q, .string b, .int .i64 ck, .int .i64 ct] 33 (0, 0) : Obj)) ∈ G3) := m3
    have HG3 : Hid (∀ x, x ∈ G → x ∈ G3) := m4
    clear m1 m3 m4
    have HK : ∀ (W : World) (ps' : List Dk.Pq), Try.Zw B w0 W wb G3 ps' H Dk.r0 Dk.b0 → (W.cell? ⟨vb, 0, none⟩ = some (.pointer (some ⟨p.d, 0, none⟩)) ∧ W.cell? ⟨vb, 1, none⟩ = some (.pointer (some ⟨p.r, 0, none⟩))) ∧ (W.cell? ⟨ob, 0, none⟩ = some (.int .i64 9) ∧ W.cell? ⟨ob, 2, none⟩ = some (.int .i64 q) ∧ W.cell? ⟨ob, 3, none⟩ = some (.string b) ∧ W.cell? ⟨ob, 4, none⟩ = some (.int .i64 ck) ∧ W.cell? ⟨ob, 5, none⟩ = some (.int .i64 ct) ∧ W.cell? ⟨ob, 1, none⟩ = some (.int .i64 N)) := fun W ps' hz => by
      have e1 := hz.at M1.out
      have e2 := hz.at M3.out
      dsimp only at e1 e2
      exact ⟨⟨cell_of_row W vb 0 _ _ _ e1, cell_of_row W vb 1 _ _ _ e1⟩, cell_of_row W ob 0 _ _ _ e2, cell_of_row W ob 2 _ _ _ e2, cell_of_row W ob 3 _ _ _ e2, cell_of_row W ob 4 _ _ _ e2, cell_of_row W ob 5 _ _ _ e2, cell_of_row W ob 1 _ _ _ e2⟩
    obtain ⟨⟨d0, d1⟩, o0, o2, o3, o4, o5, o1⟩ := HK _ _ hZ2
    obtain ⟨l9, t9, V9, hm9⟩ := hZ2.mem Hp.out
    have h1 := Try.copy_any hm9
    clear hm9
    go_upto_region 30 with (first
      | (go_at_call 21; refine h1.mono ?_; clear h1; rintro e w4 ⟨x, l, t, V, ctn, rfl, hm4, hb4, hf4⟩)
      | fail)
    have hd4 : Try.Dsk w4 (fun k => W2.heap.size ≤ k ∧ k < w4.heap.size) x { p.s with ct := ctn } := ⟨⟨l, t, V, hm4, fun k e => ⟨hf4 k e, hm4.foot_lt k e⟩⟩, fun k e => e.2⟩
    have HD4 : Hid (Try.Dsk w4 (fun k => W2.heap.size ≤ k ∧ k < w4.heap.size) x { p.s with ct := ctn }) := hd4
    have HZ2 : Hid (Try.Zw B w0 W2 wb G3 ps H Dk.r0 Dk.b0) := hZ2
    have HZ4 : Hid (Try.Zw B w0 w4 wb G3 ps H Dk.r0 Dk.b0) := hZ2.below hb4
    have HB4 : Hid (Below W2.heap.size W2 w4) := hb4
    obtain ⟨ad, cap, kv, hrow, hcap, hlr, hne, hng⟩ := hZ2.lrow3
    have hrow4 := (hb4.block wb (Dk.block_lt hrow)).trans hrow
    have l0 := cell_of_row w4 wb 0 _ _ _ hrow4
    obtain ⟨⟨f0, f1⟩, -⟩ := HK _ _ HZ4.out
    have HRW : Hid (W2.heap[wb]? = some (.cells #[.slice ad ps.length cap, kv] 28 (0, 0))) := hrow
    have HR4 : Hid (w4.heap[wb]? = some (.cells #[.slice ad ps.length cap, kv] 28 (0, 0))) := hrow4
    have HLR : Hid (W2.ownsRow 0 44 2 (.slice ad ps.length cap) ps.length (Dk.pcs ps)) := hlr
    have HNE : Hid ((Value.slice ad ps.length cap).ownBlock ≠ some wb) := hne
    have HNG : Hid ((Value.slice ad ps.length cap).ownBlock ≠ some vb ∧ vb ≠ wb) := hng _ M1.out
    clear hd4 hm4 hb4 hf4 hrow hlr hne hng HK hZ2 d0 d1 o0 o1 o2 o3 o4 o5 hrow4
    by_cases hl5 : ps.length < 5
    · have q0 : (ps.length : Int) < 5 := by omega
      go_upto_region 33 with fail
      have hc0 : Calls Try.prog 22 #[.pointer (some ⟨p.r, 0, none⟩)] w4.drew fun e w' => ∃ z, e = .returned (.pointer (some ⟨z, 0, none⟩)) ∧ Try.Rf w' (fun k => w4.heap.size ≤ k ∧ k < w'.heap.size) z { p.s with ct := ctn } ∧ Below w4.heap.size w4 w' := by
        obtain ⟨Lv, Wv, a9, b9, c9, hm⟩ := (HZ4.out.below (Below.refl _ w4).drew).rfm Hp.out
        rw [Hpo.out.1] at hm
        refine (Try.rCopy_any hm).mono fun e w' hc9 => ?_
        obtain ⟨z, Lz, Wz, a8, b8, c8, e1, e2, e3, e4⟩ := hc9.ex
        exact ⟨z, e1, ⟨⟨Lz, Wz, a8, b8, c8, e2.ct ctn, fun k e => ⟨e4 k e, e2.foot_lt k e⟩⟩, fun k e => e.2⟩, ((Below.refl _ w4).drew).trans e3⟩
      have ff : w4.drew.cell? ⟨vb, 1, none⟩ = some (.pointer (some ⟨p.r, 0, none⟩)) := f1
      clear f0
      go_region_law (first
        | (rw [← hA]; refine Try.stepPair (by rfl) (.tmp 163) (.tmp 169) (by rfl) (w := A) (H := w5.heap.size) (V := .slice ad ps.length cap) (p := ⟨x, z, { p.s with ct := ctn }, { p.s with ct := ctn }⟩) ENDS.row (by rfl) ENDS.nb (by rfl) (by omega) ?_; intro g c6 w6 r1 r2 r3; obtain ⟨bb, cc, s1, ⟨u6, s2⟩, s3⟩ := ENDS.en g c6 w6 r1 r2 r3)
        | (go_simp; go_at_call 22; refine hc0.mono ?_; rintro e w5 ⟨z, rfl, hR5, hb5⟩; have dd : w5.cell? ⟨vb, 1, none⟩ = some (.pointer (some ⟨p.r, 0, none⟩)) := (hb5.cell (p := ⟨vb, 1, none⟩) (World.block_lt_of_cell? _ _ f1)).trans f1; have l5 : w5.cell? ⟨wb, 0, none⟩ = some (.slice ad ps.length cap) := (hb5.cell (p := ⟨wb, 0, none⟩) (World.block_lt_of_cell? _ _ l0)).trans l0; obtain ⟨A, hA⟩ : ∃ A : World, A = w5.alloc (.cells #[.pointer (some ⟨x, 0, none⟩), .pointer (some ⟨z, 0, none⟩)] 44) := ⟨_, rfl⟩; have ENDS := Try.copyEnds (HZ2.out) HRW.out HLR.out HNE.out HNG.out HB4.out hb5 HD4.out hR5 hA dd l5; have aa := ENDS.aa; have la := ENDS.la; rw [hA] at aa la)
        | fail)
      all_goals
        clear hc0 ff dd l5 hA ENDS aa la r1 r2 r3 bb cc s1 s2
        go_wp2_with fail
        go_ret
        exact ⟨by simp, _, _, s3.less HG3.out, HP.out.1.push _ hl5 ⟨rfl, Dk.okCt Hpo.out.2 ctn⟩, by omega⟩
    · have q0 : ¬ (ps.length : Int) < 5 := by omega
      go_wp2_with fail
      go_ret
      exact ⟨by simp, _, _, HZ4.out.less HG3.out, HP.out.1.up, by omega⟩

end Go.Proofs
