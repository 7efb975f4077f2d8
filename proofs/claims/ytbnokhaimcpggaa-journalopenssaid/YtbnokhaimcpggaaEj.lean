/-
  area.write.
-/
import Derived.Test.YtbnokhaimcpggaaEi
namespace Go.Dk
theorem run_can {m : Nat} : ∀ (ops : List Op) (s : DS), s.Can (m + ops.length) → (s.run ops).2 = true → (s.run ops).1.Can m
  | [], s, h, _ => h
  | o :: r, s, h, hr => by
    simp only [DS.run, andThen] at hr ⊢
    cases ho : (s.op o).2
    · rw [ho] at hr; simp [ho] at hr
    · simp only [ho, if_true] at hr ⊢
      have h1 := h.mono (show (m + r.length) + 1 ≤ m + (o :: r).length by simp; omega)
      exact run_can r _ (h1.op o (DS.op_ok ho)).2 hr
theorem run_n : ∀ (ops : List Op) (s : DS), (s.run ops).1.n = s.n
  | [], s => rfl
  | o :: r, s => by
    simp only [DS.run, andThen]
    split
    · rw [run_n r, DS.op_n]
    · exact DS.op_n s o
theorem chunks_len : ∀ (c i : Nat) (row : List UInt8), (chunks c i row).length = c
  | 0, _, _ => rfl
  | c + 1, i, row => by simp [chunks, chunks_len c]
/-- One chunk more. -/
theorem run_next {s : DS} {k i : Nat} {row : List UInt8} (h : (s.run (chunks k i row)).2 = true) : s.run (chunks (k + 1) i row) = (s.run (chunks k i row)).1.op (.wr (i + k) ((row.drop (64 * k)).take 64)) := by
  rw [chunks_succ, run_append, andThen, if_pos h]
  simp only [DS.run, andThen]
  split
  · rename_i h1; exact Prod.ext rfl h1.symm
  · rfl
theorem run_fail {s : DS} {i : Nat} {row : List UInt8} {k c : Nat} (hk : k ≤ c) (h : (s.run (chunks k i row)).2 = false) : s.run (chunks c i row) = s.run (chunks k i row) := by
  induction c with
  | zero => have : k = 0 := by omega
            subst this; rfl
  | succ c ih =>
    by_cases e : k = c + 1
    · subst e; rfl
    · have := ih (by omega)
      rw [chunks_succ, run_append, andThen, this, if_neg (by simp [h])]
end Go.Dk
namespace Go.Proofs
open Go.RowKit Go.Dk
theorem Dk.Wo.row {own : Nat → Prop} {w w' : World} {g : Nat} {R : List UInt8} (h : Dk.Row w g R) (hw : Dk.Wo own w w') (hg : ¬ own g) : Dk.Row w' g R := by
  have hb := hw.block g h.lt hg
  exact ⟨Nat.lt_of_lt_of_le h.lt hw.size, fun j u hj => by
    have := h.cells j u hj
    simp only [World.cell?, hb] at this ⊢
    exact this⟩
theorem Try.Box.wo {own : Nat → Prop} {w w' : World} {b x side : Nat} (h : Try.Box w b x side) (hw : Dk.Wo own w w') (hg : ¬ own b) : Try.Box w' b x side := (hw.block b (Dk.block_lt h) hg).trans h
theorem Dk.tail_src {w : World} {g : Nat} {R : List UInt8} (h : Dk.Row w g R) (k c : Nat) (ad : Addr) (had : 64 * k < R.length → ad = ⟨g, 64 * k, none⟩) : Dk.Src w (.slice (some ad) (min (R.length - 64 * k) 64) c) ((R.drop (64 * k)).take 64) := by
  by_cases hk : 64 * k < R.length
  · rw [had hk]
    have := h.sub (64 * k) (min (R.length - 64 * k) 64) c (by omega)
    rwa [show (R.drop (64 * k)).take (min (R.length - 64 * k) 64) = (R.drop (64 * k)).take 64 by
      by_cases h2 : R.length - 64 * k ≤ 64
      · rw [Nat.min_eq_left h2, List.take_of_length_le (by rw [List.length_drop]; omega), List.take_of_length_le (by rw [List.length_drop]; omega)]
      · rw [Nat.min_eq_right (by omega)]] at this
  · have e : (R.drop (64 * k)).take 64 = [] := by rw [List.drop_of_length_le (by omega)]; rfl
    rw [e]
    exact ⟨_, _, by rw [show R.length - 64 * k = 0 by omega]; rfl, .inl rfl⟩
set_option maxRecDepth 20000 in
set_option maxHeartbeats 4000000 in
/-- The loop. -/
theorem Try.awrite_loop {w w1 : World} {own : Nat → Prop} {x : Nat} {s : DS} (hw : ∀ k, own k → k < w.heap.size) (h : Try.Dsk w1 own x s) {q : Nat} (hn : 2 ≤ s.n) (side : Nat) (hs : side ≤ 1) (p : Nat) (hp : p < 64 * half s.n) (L : Nat) (hpL : p + L ≤ 64 * half s.n)
    (hc : s.Can (q + span s.n p (p + L))) (bx g : Nat) (R : List UInt8) (hbx : Try.Box w1 bx x side) (hbxw : w.heap.size ≤ bx) (hr : Dk.Row w1 g R) (hgw : w.heap.size ≤ g) (_hR : R.length < 1000000) (k : Nat) (hk : k < span s.n p (p + L)) (hrk : (s.run (chunks k (ablk s.n side p) R)).2 = true) (wr : World) (hch : Try.Chg own w1 wr x (s.run (chunks k (ablk s.n side p) R)).1) :
    (∀ W, Below wr.heap.size wr W → Calls Try.prog 77 #[.agg #[.pointer (some ⟨x, 0, none⟩), .int .i64 side], .int .i64 (64 * (p / 64) + 64 * k : Nat)] W fun e w' => e = .returned (.int .i64 (ablk s.n side p + k : Nat)) ∧ Below W.heap.size W w') ∧
    (∀ W, Below wr.heap.size wr W → ∀ (c : Nat) (ad : Addr), (64 * k < R.length → ad = ⟨g, 64 * k, none⟩) → Calls Try.prog 49 #[.pointer (some ⟨x, 0, none⟩), .int .i64 (ablk s.n side p + k : Nat), .slice (some ad) (min (R.length - 64 * k) 64) c] W fun e w' =>
      e = .returned (.bool (s.run (chunks (k + 1) (ablk s.n side p) R)).2) ∧ Try.Chg own w1 w' x (s.run (chunks (k + 1) (ablk s.n side p) R)).1) ∧ Try.Box wr bx x side := by
  obtain ⟨own', hd, ho⟩ := hch.ex
  have hln := h.len
  have hnn : (s.run (chunks k (ablk s.n side p) R)).1.n = s.n := run_n _ _
  have hsp : 64 * (p / 64) + 64 * k < 64 * half s.n := by unfold span at hk; omega
  refine ⟨fun W hW => ?_, fun W hW c ad had => ?_, hbx.wo hch.wo fun e => by have := hw _ e; omega⟩
  · have := Try.ablock_any (hd.below hW) (by rw [hnn]; exact hn) side hs (64 * (p / 64) + 64 * k) (by have := Dk.half_le hln.2.2; omega)
    rw [hnn, show ablk s.n side (64 * (p / 64) + 64 * k) = ablk s.n side p + k by unfold ablk; omega] at this
    exact this
  · rw [run_next hrk]
    have hcan : (s.run (chunks k (ablk s.n side p) R)).1.Can (q + (span s.n p (p + L) - k - 1) + 1) := by
      refine run_can _ _ (hc.mono ?_) hrk
      rw [chunks_len]; omega
    have hrow : Dk.Row W g R := (Dk.Wo.row hr hch.wo fun e => by have := hw _ e; omega).below hW
    have hI : ablk s.n side p + k < s.n := by
      have := Dk.ablk_lt (side := side) hln.2.2 hs hsp
      unfold ablk at this ⊢; omega
    refine (Try.wrote_any (hd.below hW) hcan _ (by rw [hnn]; exact hI) _ (by rw [List.length_take]; omega) _ (Dk.tail_src hrow k c ad had)).mono fun e w' ⟨h1, h2⟩ => ⟨h1, ?_⟩
    refine Try.Chg.trans ?_ ho (Try.Chg.pre hW h2)
    exact hch.wo
end Go.Proofs
