/-
  A disk whose power has failed, and the journal that was open on it.
-/
import Derived.Test.YtkoojpaanpmgeaaKj
namespace Go.Dk
theorem fail_view {s : DS} (hW : s.W = []) (k t : Int) : (s.fail k t).view = s.view := by
  simp [DS.view, DS.fail, failL, hW, sink]
/-- Power is back. -/
theorem back_view {s : DS} (hW : s.W = []) (k t : Int) : (s.fail k t).restart.view = s.view := fail_view hW k t
theorem Holds.dead {s : DS} {g a : Nat} {snap : List UInt8} {recs : List (List UInt8)} (h : Holds s g a snap recs) (k t : Int) : Holds (s.fail k t) g a snap recs := h.of (fail_view h.sy k t) rfl rfl rfl
theorem Holds.restart {s : DS} {g a : Nat} {snap : List UInt8} {recs : List (List UInt8)} (h : Holds s g a snap recs) : Holds s.restart g a snap recs := h.of rfl rfl rfl h.sy
theorem back_can {s : DS} {q : Nat} (h : s.Can q) (hf : s.falls < 100000000) (k t : Int) : (s.fail k t).restart.Can q :=
  ⟨rfl, by have := h.W; simp [DS.fail, DS.restart]; omega, h.wrote, h.synced, by simp [DS.fail, DS.restart]; omega, by simp [DS.fail, DS.restart], by simp [DS.fail, DS.restart]⟩
end Go.Dk
namespace Go.Proofs
open Go.RowKit Go.Dk
theorem Try.Dsk.crash {w : World} {own : Nat → Prop} {x : Nat} {s : DS} (h : Try.Dsk w own x s) (hd : s.dead = false) (hf : s.falls < 1000000000) (k c : Int) :
    Calls Try.prog 20 #[.pointer (some ⟨x, 0, none⟩), .agg #[.int .i64 k, .int .i64 c]] w fun e w' => e = .returned (.int .i64 0) ∧ Try.Chg own w w' x (s.fail k c) := by
  obtain ⟨l, t, V, hm, hft⟩ := h.ex
  exact (Try.crash_any hm rfl hf hd k c).mono fun e w' ⟨h1, h2, h3⟩ => ⟨h1, Try.Chg.of_left (V := V) h.lt hft h2 (h3.mono Dk.foot3) fun k e => by cases e⟩
theorem Try.Dsk.restart {w : World} {own : Nat → Prop} {x : Nat} {s : DS} (h : Try.Dsk w own x s) :
    Calls Try.prog 22 #[.pointer (some ⟨x, 0, none⟩)] w fun e w' => (∃ v, e = .returned v) ∧ Try.Chg own w w' x s.restart := by
  obtain ⟨l, t, V, hm, hft⟩ := h.ex
  exact (Try.restart_any hm).mono fun e w' ⟨h1, h2, h3⟩ => ⟨h1, Try.Chg.of_left (V := V) h.lt hft h2 (h3.mono fun k e => .inl e) fun k e => .inl e⟩
set_option maxHeartbeats 1000000 in
set_option maxRecDepth 20000 in
theorem Try.open_dead {w : World} {own : Nat → Prop} {x : Nat} {s : DS} (h : Try.Dsk w own x s) (hd : s.dead = true) :
    Calls Try.prog 30 #[.pointer (some ⟨x, 0, none⟩)] w fun r w' => r = .returned (.tuple #[.pointer none, .slice none 0 0, .slice none 0 0, .int .i64 41]) ∧ Below w.heap.size w w' := by
  have hp := Try.powered_any h
  rw [hd] at hp
  clear h
  go_enter Try.func30, Try.ntmps30
  go_wp2_with (first
    | (go_at_call 45; refine hp.mono ?_; clear hp; rintro e w1 ⟨rfl, rfl⟩)
    | fail)
  refine bodyPost_ret (v := .tuple #[.pointer none, .slice none 0 0, .slice none 0 0, .int .i64 41]) (by simp [results, Try.results30, go_sem]) rfl ?_
  exact ⟨rfl, Below.refl _ _⟩
set_option maxHeartbeats 1000000 in
set_option maxRecDepth 20000 in
theorem Try.format_dead {w : World} {own : Nat → Prop} {x : Nat} {s : DS} (h : Try.Dsk w own x s) (hd : s.dead = true) :
    Calls Try.prog 21 #[.pointer (some ⟨x, 0, none⟩)] w fun r w' => r = .returned (.int .i64 41) ∧ Below w.heap.size w w' := by
  have hp := Try.powered_any h
  rw [hd] at hp
  clear h
  go_enter Try.func21, Try.ntmps21
  go_wp2_with (first
    | (go_at_call 45; refine hp.mono ?_; clear hp; rintro e w1 ⟨rfl, rfl⟩)
    | fail)
  go_ret
  exact ⟨rfl, Below.refl _ _⟩
theorem Try.conv_nil (W : World) : (convert 33 9 (.slice none 0 0)).run Try.prog W = .ok (.string ⟨#[]⟩) W := by kernel_rfl
set_option maxHeartbeats 2000000 in
set_option maxRecDepth 20000 in
theorem Try.opens_dead {w : World} {own : Nat → Prop} {x : Nat} {s : DS} (h : Try.Dsk w own x s) (hd : s.dead = true) :
    Calls Try.prog 10 #[.pointer (some ⟨x, 0, none⟩)] w fun r w' => r = .returned (.tuple #[.pointer none, .agg #[.string ⟨#[]⟩, .slice none 0 0], .bool false]) ∧ Below w.heap.size w w' := by
  have hbA : Below w.heap.size w (w.alloc (.cells #[.string ⟨#[]⟩, .slice none 0 0] 28)) := (Below.refl w.heap.size w).alloc (Nat.le_refl _) _
  have hop1 := Try.open_dead (h.below hbA) hd
  have hcv := Try.conv_nil
  clear h hbA
  go_enter Try.func10, Try.ntmps10
  go_wp2_with (first
    | (go_at_call 30; refine hop1.mono ?_; clear hop1; rintro e w1 ⟨rfl, hb1⟩)
    | fail)
  have hR1 : w1.heap[w.heap.size]? = some (.cells #[.string ⟨#[]⟩, .slice none 0 0] 28 (0, 0)) := (hb1.block _ (by simp)).trans (heap_alloc_new w _)
  have hlt := Dk.block_lt hR1
  have HB1 : Hid (Below w.heap.size w w1) := ((Below.refl w.heap.size w).alloc (Nat.le_refl _) _).trans (hb1.mono (by simp))
  clear hb1
  go_loopw [10] (fun i wr => i = .int .i64 0 ∧ wr.heap[w1.heap.size]? = some (.cells #[.string ⟨#[]⟩, .slice none 0 0] 28 (0, 0)) ∧ wr.heap[w.heap.size]? = some (.cells #[.string ⟨#[]⟩, .slice none 0 0] 28 (0, 0)) ∧ Below w.heap.size w wr) (fun _ _ => 0)
  case atStart => exact ⟨rfl, heap_alloc_new w1 _, (Below.heap_alloc w1 _ _ hlt).trans hR1, HB1.out.alloc (by omega) _⟩
  case round =>
    obtain ⟨rfl, hX2, hR2, hbw⟩ := hrel
    have d0 := cell_of_row _ _ 0 _ _ _ hR2
    have d1 := cell_of_row _ _ 1 _ _ _ hR2
    have e0 := frozen_of_row _ _ 0 _ _ hR2
    have e1 := frozen_of_row _ _ 1 _ _ hR2
    have x0 := cell_of_row _ _ 0 _ _ _ hX2
    have x1 := cell_of_row _ _ 1 _ _ _ hX2
    simp only [List.getElem?_toArray, List.getElem?_cons_zero, List.getElem?_cons_succ] at d0 d1 x0 x1
    go_wp2
    go_region
    all_goals
      go_wp2
      have hC := Dk.two_cells hR2 (.string ⟨#[]⟩) (.slice none 0 0)
      have g0 := cell_of_row _ _ 0 _ _ _ hC
      have g1 := cell_of_row _ _ 1 _ _ _ hC
      simp only [List.getElem?_toArray, List.getElem?_cons_zero, List.getElem?_cons_succ] at g0 g1
      refine bodyPost_ret (v := .tuple #[.pointer none, .agg #[.string ⟨#[]⟩, .slice none 0 0], .bool false]) (by simp [results, go_sem, g0, g1]) rfl ?_
      exact ⟨rfl, ((hbw.setCell (by show w.heap.size ≤ w.heap.size; omega) _).setCell (by show w.heap.size ≤ w.heap.size; omega) _).drew⟩
set_option maxHeartbeats 2000000 in
set_option maxRecDepth 20000 in
theorem Try.told_dead {w : World} {own : Nat → Prop} {x : Nat} {s : DS} (h : Try.Dsk w own x s) (hd : s.dead = true) (hn8 : 8 ≤ s.n) (hn4 : s.n ≤ 4096) :
    Calls Try.prog 16 #[.pointer (some ⟨x, 0, none⟩)] w fun r w' => r = .returned (.tuple #[.pointer none, .agg #[.string ⟨#[]⟩, .slice none 0 0], .bool false]) ∧ Below w.heap.size w w' := by
  have hbA : Below w.heap.size w (w.alloc (.cells #[.string ⟨#[]⟩, .slice none 0 0] 28)) := (Below.refl w.heap.size w).alloc (Nat.le_refl _) _
  have hop1 := Try.opens_dead (h.below hbA) hd
  have HD : Hid (Try.Dsk w own x s) := h
  clear h
  go_enter Try.func16, Try.ntmps16
  go_wp2_with (first
    | (go_at_call 10; refine hop1.mono ?_; clear hop1; rintro e w1 ⟨rfl, hb1⟩; have hbw : Below w.heap.size w (w1.alloc (.cells #[.string ⟨#[]⟩, .slice none 0 0] 28)) := (hbA.trans (hb1.mono hbA.size)).alloc (by have := hb1.size; simp at this; omega) _; have hbl := (HD.out.below hbw).blocks; have hne := Try.new_dsk (w1.alloc (.cells #[.string ⟨#[]⟩, .slice none 0 0] 28)) s.n hn8 hn4)
    | (go_at_call 40; refine hbl.mono ?_; clear hbl; rintro e wb ⟨rfl, rfl⟩)
    | (go_at_call 29; refine hne.mono ?_; clear hne; rintro e w2 ⟨xc, owc, rfl, -, -, hb2⟩)
    | fail)
  have hR1 : w1.heap[w.heap.size]? = some (.cells #[.string ⟨#[]⟩, .slice none 0 0] 28 (0, 0)) := (hb1.block _ (by simp)).trans (heap_alloc_new w _)
  have hlt := Dk.block_lt hR1
  have hR2 : w2.heap[w.heap.size]? = some (.cells #[.string ⟨#[]⟩, .slice none 0 0] 28 (0, 0)) := (hb2.block _ (by simp; omega)).trans ((Below.heap_alloc w1 _ _ hlt).trans hR1)
  have hX2 : w2.heap[w1.heap.size]? = some (.cells #[.string ⟨#[]⟩, .slice none 0 0] 28 (0, 0)) := (hb2.block _ (by simp)).trans (heap_alloc_new w1 _)
  have hB2 : Below w.heap.size w w2 := hbw.trans (hb2.mono hbw.size)
  have HB2 : Hid (Below w.heap.size w w2) := hB2
  have HD2 := (HD.out.below hB2).blocks
  clear hb1 hbw hb2 hB2 hbA
  go_loopw [7, 10] (fun ok i wr => ok = .bool false ∧ i = .int .i64 0 ∧ wr = w2) (fun _ _ _ => 0)
  case atStart => exact ⟨rfl, rfl, rfl⟩
  case round =>
    obtain ⟨rfl, rfl, rfl⟩ := hrel
    have q0 : (0 : Int) < (s.n : Int) := by omega
    have d0 := cell_of_row _ _ 0 _ _ _ hR2
    have d1 := cell_of_row _ _ 1 _ _ _ hR2
    have e0 := frozen_of_row _ _ 0 _ _ hR2
    have e1 := frozen_of_row _ _ 1 _ _ hR2
    have x0 := cell_of_row _ _ 0 _ _ _ hX2
    have x1 := cell_of_row _ _ 1 _ _ _ hX2
    simp only [List.getElem?_toArray, List.getElem?_cons_zero, List.getElem?_cons_succ] at d0 d1 x0 x1
    go_wp2_with (first
      | (go_at_call 40; refine HD2.mono ?_; clear HD2; rintro e wb ⟨rfl, rfl⟩)
      | fail)
    go_region
    all_goals
      go_wp2
      have hC := Dk.two_cells hR2 (.string ⟨#[]⟩) (.slice none 0 0)
      have g0 := cell_of_row _ _ 0 _ _ _ hC
      have g1 := cell_of_row _ _ 1 _ _ _ hC
      simp only [List.getElem?_toArray, List.getElem?_cons_zero, List.getElem?_cons_succ] at g0 g1
      refine bodyPost_ret (v := .tuple #[.pointer none, .agg #[.string ⟨#[]⟩, .slice none 0 0], .bool false]) (by simp [results, go_sem, g0, g1]) rfl ?_
      exact ⟨rfl, ((HB2.out.setCell (by show w.heap.size ≤ w.heap.size; omega) _).setCell (by show w.heap.size ≤ w.heap.size; omega) _).drew⟩
end Go.Proofs
namespace Go.Proofs
open Go.RowKit Go.Dk
/-- Rows of bytes that are handed in. -/
structure Dk.RowsIn (w : World) (v : Value) (l : List (List UInt8)) : Prop where
  ex : ∃ ad cap, v = .slice ad l.length cap ∧ l.length ≤ cap ∧ (l = [] ∨ ∃ sb so, ad = some ⟨sb, so, none⟩ ∧ sb < w.heap.size ∧ ∀ (i : Nat) (d : List UInt8), l[i]? = some d → ∃ u, w.cell? ⟨sb, so + i, none⟩ = some u ∧ Dk.Src w u d)
  sm : ∀ d ∈ l, d.length ≤ 140737488351232
theorem Dk.RowsIn.up {w w' : World} {v : Value} {l : List (List UInt8)} (h : Dk.RowsIn w v l) (hb : Below w.heap.size w w') : Dk.RowsIn w' v l := by
  obtain ⟨ad, cap, e, h0, h1⟩ := h.ex
  refine ⟨⟨ad, cap, e, h0, h1.imp id ?_⟩, h.sm⟩
  rintro ⟨sb, so, e1, e2, e3⟩
  refine ⟨sb, so, e1, Nat.lt_of_lt_of_le e2 hb.size, fun i d hd => ?_⟩
  obtain ⟨u, k1, k2⟩ := e3 i d hd
  exact ⟨u, (hb.cell (p := ⟨sb, so + i, none⟩) e2).trans k1, k2.up hb⟩
/-- One of the rows. -/
theorem Dk.RowsIn.at {w : World} {ad : Option Addr} {n cap : Nat} {l : List (List UInt8)} (h : Dk.RowsIn w (.slice ad n cap) l) {i : Nat} {d : List UInt8} (hd : l[i]? = some d) :
    ∃ sb so ad1 cap1, ad = some ⟨sb, so, none⟩ ∧ w.cell? ⟨sb, so + i, none⟩ = some (.slice ad1 d.length cap1) ∧ Dk.Src w (.slice ad1 d.length cap1) d ∧ d.length ≤ 140737488351232 := by
  obtain ⟨ad', cap', e, h0, h1⟩ := h.ex
  cases e
  rcases h1 with rfl | ⟨sb, so, rfl, _, h3⟩
  · simp at hd
  · obtain ⟨u, k1, k2⟩ := h3 i d hd
    obtain ⟨ad1, cap1, rfl, _⟩ := k2.ex
    exact ⟨sb, so, ad1, cap1, rfl, k1, k2, h.sm d (List.mem_of_getElem? hd)⟩
end Go.Proofs
namespace Go.Proofs
open Go.RowKit Go.Dk
/-- The journal y is broken; the disk holds what it held. -/
structure Try.Lb (dead : Bool) (B : Nat) (w0 w : World) (n y x q g a : Nat) (snap : List UInt8) (recs : List (List UInt8)) (bs : Dk.Bxs) (ss : Dk.Sts) : Prop where
  ex : ∃ own s e f, Try.Dsk w own x s ∧ (s.dead = dead ∧ Holds s g a snap recs ∧ s.restart.Can q ∧ (dead = false → s.Can q)) ∧ (s.n = n ∧ s.falls + q ≤ 1000000) ∧ (Try.Jn w y x a g e f ∧ s.falls ≠ f ∧ e ≤ 64 * half s.n ∧ ¬ own y) ∧ (∀ k, own k → B ≤ k) ∧ (∀ b ∈ bs, Try.Bx w (fun k => ¬ own k ∧ k ≠ y ∧ B ≤ k) b.1 b.2.1 b.2.2) ∧ ∀ v ∈ ss, Try.Sta w (fun k => ¬ own k ∧ k ≠ y ∧ B ≤ k) v.1 v.2.1 v.2.2
  yb : B ≤ y
  bel : Below B w0 w
section
variable {dead : Bool} {B : Nat} {w0 w : World} {n y x q g a : Nat} {snap : List UInt8} {recs : List (List UInt8)} {bs : Dk.Bxs} {ss : Dk.Sts}
theorem Try.Lb.size (h : Try.Lb dead B w0 w n y x q g a snap recs bs ss) : B < w.heap.size := by
  obtain ⟨own, s, e, f, _, _, _, h1, _⟩ := h.ex
  exact Nat.lt_of_le_of_lt h.yb (Dk.block_lt h1.1)
theorem Try.Lb.below {w' : World} (h : Try.Lb dead B w0 w n y x q g a snap recs bs ss) (hb : Below w.heap.size w w') : Try.Lb dead B w0 w' n y x q g a snap recs bs ss := by
  obtain ⟨own, s, e, f, h0, h1, h2, h3, h4, h5, h6⟩ := h.ex
  exact ⟨⟨own, s, e, f, h0.below hb, h1, h2, ⟨h3.1.below hb, h3.2⟩, h4, fun b e => (h5 b e).mono fun k hk hp => ⟨hb.block k hk, hp⟩, fun v e => (h6 v e).below hb⟩, h.yb, h.bel.trans (hb.mono (Nat.le_of_lt h.size))⟩
theorem Try.Lt.crash (h : Try.Lt B w0 w n y x (q + 1) g a snap recs bs ss) (k c : Int) :
    Calls Try.prog 20 #[.pointer (some ⟨x, 0, none⟩), .agg #[.int .i64 k, .int .i64 c]] w fun r w' => r = .returned (.int .i64 0) ∧ Try.Lb true B w0 w' n y x q g a snap recs bs ss := by
  obtain ⟨own, s, h1, ⟨h2, h2f⟩, h3, h4, h5⟩ := h.ex
  refine (h1.dsk.crash h1.can.dead h1.can.falls k c).mono ?_
  rintro r w' ⟨rfl, hch⟩
  obtain ⟨own', hD, hl⟩ := hch.ex
  have hwo := hch.wo
  have hsz := h.size
  have hyl := Dk.block_lt h1.jn
  have key : ∀ k, k < w.heap.size → (¬ own k ∧ k ≠ y ∧ B ≤ k) → w'.heap[k]? = w.heap[k]? ∧ (¬ own' k ∧ k ≠ y ∧ B ≤ k) := fun k hk hp =>
    ⟨hwo.block k hk hp.1, fun e => by rcases hl k e with e1 | e1; exact hp.1 e1; omega, hp.2⟩
  refine ⟨rfl, ⟨own', _, (body snap recs).length, s.falls, hD, ⟨rfl, h1.ho.dead k c, (back_can h1.can (by omega) k c).mono (by omega), fun e => by cases e⟩, ⟨h2, ?_⟩, ⟨h1.jn.wo hwo h1.ny, ?_, h1.ho.small, fun e => ?_⟩, fun k e => ?_, fun b e => (h4 b e).mono key, fun v e => (h5 v e).mono key⟩, h.yb, h.bel.trans (hwo.bel h3 (by omega))⟩
  · show s.falls + 1 + q ≤ 1000000; omega
  · show s.falls + 1 ≠ s.falls; omega
  · rcases hl y e with e1 | e1
    · exact h1.ny e1
    · omega
  · rcases hl k e with e1 | e1
    · exact h3 k e1
    · omega
theorem Try.Lb.told (h : Try.Lb true B w0 w n y x q g a snap recs bs ss) :
    Calls Try.prog 16 #[.pointer (some ⟨x, 0, none⟩)] w fun r w' => r = .returned (.tuple #[.pointer none, .agg #[.string ⟨#[]⟩, .slice none 0 0], .bool false]) ∧ Try.Lb true B w0 w' n y x q g a snap recs bs ss := by
  obtain ⟨own, s, e, f, h0, h1, h2, h3, h4, h5, h6⟩ := h.ex
  exact (Try.told_dead h0 h1.1 h1.2.1.n8 h1.2.1.n4).mono fun r w' ⟨e, hb⟩ => ⟨e, h.below hb⟩
theorem Try.Lb.format (h : Try.Lb true B w0 w n y x q g a snap recs bs ss) :
    Calls Try.prog 21 #[.pointer (some ⟨x, 0, none⟩)] w fun r w' => r = .returned (.int .i64 41) ∧ Try.Lb true B w0 w' n y x q g a snap recs bs ss := by
  obtain ⟨own, s, e, f, h0, h1, h2, h3, h4, h5, h6⟩ := h.ex
  exact (Try.format_dead h0 h1.1).mono fun r w' ⟨e, hb⟩ => ⟨e, h.below hb⟩
theorem Try.Lb.restart (h : Try.Lb true B w0 w n y x q g a snap recs bs ss) :
    Calls Try.prog 22 #[.pointer (some ⟨x, 0, none⟩)] w fun r w' => (∃ v, r = .returned v) ∧ Try.Lb false B w0 w' n y x q g a snap recs bs ss := by
  obtain ⟨own, s, e, f, h0, h1, h2, h3, h4, h5, h6⟩ := h.ex
  refine h0.restart.mono ?_
  rintro r w' ⟨hr, hch⟩
  obtain ⟨own', hD, hl⟩ := hch.ex
  have hwo := hch.wo
  have hsz := h.size
  have hyl := Dk.block_lt h3.1
  have key : ∀ k, k < w.heap.size → (¬ own k ∧ k ≠ y ∧ B ≤ k) → w'.heap[k]? = w.heap[k]? ∧ (¬ own' k ∧ k ≠ y ∧ B ≤ k) := fun k hk hp =>
    ⟨hwo.block k hk hp.1, fun e => by rcases hl k e with e1 | e1; exact hp.1 e1; omega, hp.2⟩
  refine ⟨hr, ⟨own', _, e, f, hD, ⟨rfl, h1.2.1.restart, h1.2.2.1, fun _ => h1.2.2.1⟩, h2, ⟨h3.1.wo hwo h3.2.2.2, h3.2.1, h3.2.2.1, fun e => ?_⟩, fun k e => ?_, fun b e => (h5 b e).mono key, fun v e => (h6 v e).mono key⟩, h.yb, h.bel.trans (hwo.bel h4 (by omega))⟩
  · rcases hl y e with e1 | e1
    · exact h3.2.2.2 e1
    · omega
  · rcases hl k e with e1 | e1
    · exact h4 k e1
    · omega
theorem Try.Lb.append (h : Try.Lb false B w0 w n y x q g a snap recs bs ss) (ad : Option Addr) (L cap : Nat) (hL : L < 1000000000000000) :
    Calls Try.prog 11 #[.pointer (some ⟨y, 0, none⟩), .slice ad L cap] w fun r w' => r = .returned (.int .i64 41) ∧ Try.Lb false B w0 w' n y x q g a snap recs bs ss := by
  obtain ⟨own, s, e, f, h0, h1, h2, h3, h4, h5, h6⟩ := h.ex
  exact (Try.append_no h0 (by have := h1.2.1.n8; omega) h3.2.2.1 h3.1 ad L cap hL 41 (.inl ⟨h3.2.1, rfl⟩)).mono fun r w' ⟨e, hb⟩ => ⟨e, h.below hb⟩
theorem Try.Lb.compact (h : Try.Lb false B w0 w n y x q g a snap recs bs ss) (ad : Option Addr) (L cap : Nat) (hL : L < 1000000000000000) :
    Calls Try.prog 13 #[.pointer (some ⟨y, 0, none⟩), .slice ad L cap] w fun r w' => r = .returned (.int .i64 41) ∧ Try.Lb false B w0 w' n y x q g a snap recs bs ss := by
  obtain ⟨own, s, e, f, h0, h1, h2, h3, h4, h5, h6⟩ := h.ex
  exact (Try.compact_no h0 (by have := h1.2.1.n8; omega) h3.1 (by have := h1.2.1.g2; omega) ad L cap hL 41 (.inl ⟨h3.2.1, rfl⟩)).mono fun r w' ⟨e, hb⟩ => ⟨e, h.below hb⟩
theorem Try.Lb.room (h : Try.Lb false B w0 w n y x q g a snap recs bs ss) :
    Calls Try.prog 14 #[.pointer (some ⟨y, 0, none⟩)] w fun r w' => r = .returned (.int .i64 (-1)) ∧ Try.Lb false B w0 w' n y x q g a snap recs bs ss := by
  obtain ⟨own, s, e, f, h0, h1, h2, h3, h4, h5, h6⟩ := h.ex
  have := Try.room_any h0 (by have := h1.2.1.n8; omega) h3.2.2.1 h3.1
  rw [if_pos h3.2.1] at this
  exact this.mono fun r w' ⟨e, hb⟩ => ⟨e, h.below hb⟩
/-- Who opens the disk anew goes on. -/
theorem Try.Lb.back (h : Try.Lb false B w0 w n y x q g a snap recs bs ss) :
    Calls Try.prog 16 #[.pointer (some ⟨x, 0, none⟩)] w fun r w' => ∃ y' ad cap, r = .returned (.tuple #[.pointer (some ⟨y', 0, none⟩), .agg #[.string ⟨snap.toArray⟩, .slice ad recs.length cap], .bool true]) ∧ Try.Lt B w0 w' n y' x q g a snap recs bs ((.agg #[.string ⟨snap.toArray⟩, .slice ad recs.length cap], snap, recs) :: ss) := by
  obtain ⟨own, s, e, f, h0, h1, h2, h3, h4, h5, h6⟩ := h.ex
  have hc : s.Can q := h1.2.2.2 rfl
  refine (Try.told_any h0 h1.2.1 hc).mono ?_
  rintro r w' ⟨y', t, rfl, hT⟩
  have hst := hT.st
  obtain ⟨rv, rfl, hr, _⟩ := hst
  obtain ⟨ad, cap, rfl, -⟩ := Dk.row_form hr
  have hsz := h.size
  have hy0 := hT.y0
  have hyl := Dk.block_lt h3.1
  have key : ∀ k, k < w.heap.size → (¬ own k ∧ k ≠ y ∧ B ≤ k) → w'.heap[k]? = w.heap[k]? ∧ (¬ own k ∧ k ≠ y' ∧ B ≤ k) := fun k hk hp => ⟨hT.bel.block k hk, hp.1, by omega, hp.2.2⟩
  refine ⟨y', ad, cap, rfl, ⟨own, s, hT.jd, h2, h4, fun b e => (h5 b e).mono key, fun v e => ?_⟩, by omega, h.bel.trans (hT.bel.mono (by omega))⟩
  rcases List.mem_cons.1 e with rfl | e
  · exact hT.st.mono fun k hk hp => ⟨rfl, fun e1 => by have := h0.lt k e1; omega, hp.2, by omega⟩
  · exact (h6 v e).mono key
end
end Go.Proofs
