/-
  An open journal on its disk, and states beside it: what the calls of the laws leave.
-/
import Derived.Test.YtdlhonoppnfmpaaKi
namespace Go.Proofs
open Go.RowKit Go.Dk
/-- A state in a box. -/
def Try.Bx (w : World) (P : Nat → Prop) (b : Nat) (ts : List UInt8) (tr : List (List UInt8)) : Prop :=
  ∃ rv, w.heap[b]? = some (.cells #[.string ⟨ts.toArray⟩, rv] 27 (0, 0)) ∧ P b ∧ w.ownsRow 0 9 1 rv tr.length (Dk.strs tr) ∧ ∀ k, rv.ownBlock = some k → P k
theorem Try.Bx.mono {w w' : World} {P P' : Nat → Prop} {b : Nat} {ts : List UInt8} {tr : List (List UInt8)} (h : Try.Bx w P b ts tr) (hk : ∀ k, k < w.heap.size → P k → w'.heap[k]? = w.heap[k]? ∧ P' k) : Try.Bx w' P' b ts tr := by
  obtain ⟨rv, h0, h1, h2, h3⟩ := h
  have hb := hk b (Dk.block_lt h0) h1
  exact ⟨rv, hb.1.trans h0, hb.2, Dk.row_heap h2 fun k e => (hk k (h2.lt k e).2 (h3 k e)).1, fun k e => (hk k (h2.lt k e).2 (h3 k e)).2⟩
abbrev Dk.Bxs := List (Nat × List UInt8 × List (List UInt8))
abbrev Dk.Sts := List (Value × List UInt8 × List (List UInt8))
/-- An open journal on its disk of n blocks, from block B on; boxes with states, states by themselves. -/
structure Try.Lt (B : Nat) (w0 w : World) (n y x q g a : Nat) (snap : List UInt8) (recs : List (List UInt8)) (bs : Dk.Bxs) (ss : Dk.Sts) : Prop where
  ex : ∃ own s, Try.JD w own y x s q g a snap recs ∧ (s.n = n ∧ s.falls + q ≤ 1000000) ∧ (∀ k, own k → B ≤ k) ∧ (∀ b ∈ bs, Try.Bx w (fun k => ¬ own k ∧ k ≠ y ∧ B ≤ k) b.1 b.2.1 b.2.2) ∧ ∀ v ∈ ss, Try.Sta w (fun k => ¬ own k ∧ k ≠ y ∧ B ≤ k) v.1 v.2.1 v.2.2
  yb : B ≤ y
  bel : Below B w0 w
section
variable {B : Nat} {w0 w : World} {n y x q g a : Nat} {snap : List UInt8} {recs : List (List UInt8)} {bs : Dk.Bxs} {ss : Dk.Sts}
theorem Try.Lt.size (h : Try.Lt B w0 w n y x q g a snap recs bs ss) : B < w.heap.size := by
  obtain ⟨own, s, h1, _⟩ := h.ex
  exact Nat.lt_of_le_of_lt h.yb (Dk.block_lt h1.jn)
theorem Try.Lt.below {w' : World} (h : Try.Lt B w0 w n y x q g a snap recs bs ss) (hb : Below w.heap.size w w') : Try.Lt B w0 w' n y x q g a snap recs bs ss := by
  obtain ⟨own, s, h1, h2, h3, h4, h5⟩ := h.ex
  exact ⟨⟨own, s, h1.below hb, h2, h3, fun b e => (h4 b e).mono fun k hk hp => ⟨hb.block k hk, hp⟩, fun v e => (h5 v e).below hb⟩, h.yb, h.bel.trans (hb.mono (Nat.le_of_lt h.size))⟩
theorem Try.Lt.drop {bs' : Dk.Bxs} {ss' : Dk.Sts} (h : Try.Lt B w0 w n y x q g a snap recs bs ss) (hb : ∀ b ∈ bs', b ∈ bs) (hs : ∀ v ∈ ss', v ∈ ss) : Try.Lt B w0 w n y x q g a snap recs bs' ss' := by
  obtain ⟨own, s, h1, h2, h3, h4, h5⟩ := h.ex
  exact ⟨⟨own, s, h1, h2, h3, fun b e => h4 b (hb b e), fun v e => h5 v (hs v e)⟩, h.yb, h.bel⟩
/-- What a call that turns the disk leaves. -/
theorem Try.Lt.turn {w' : World} {own : Nat → Prop} {q' g' a' f : Nat} {snap' : List UInt8} {recs' : List (List UInt8)} (hy : B ≤ y) (hbel : Below B w0 w) (hsz : B ≤ w.heap.size) (hlo : ∀ k, own k → B ≤ k)
    (h4 : ∀ b ∈ bs, Try.Bx w (fun k => ¬ own k ∧ k ≠ y ∧ B ≤ k) b.1 b.2.1 b.2.2) (h5 : ∀ v ∈ ss, Try.Sta w (fun k => ¬ own k ∧ k ≠ y ∧ B ≤ k) v.1 v.2.1 v.2.2)
    (hj : Try.JDs own w w' y x q' g' a' snap' recs' n f) (hf : f + q' ≤ 1000000) : Try.Lt B w0 w' n y x q' g' a' snap' recs' bs ss := by
  obtain ⟨own', s', h1, h2, h2f, h3⟩ := hj.ex
  have hwo := hj.wo
  have key : ∀ k, k < w.heap.size → (¬ own k ∧ k ≠ y ∧ B ≤ k) → w'.heap[k]? = w.heap[k]? ∧ (¬ own' k ∧ k ≠ y ∧ B ≤ k) := fun k hk hp =>
    ⟨hwo.block k hk (fun e => by rcases e with e | e; exact hp.1 e; exact hp.2.1 e), fun e => by rcases h3 k e with e1 | e1; exact hp.1 e1; omega, hp.2⟩
  refine ⟨⟨own', s', h1, ⟨h2, by omega⟩, fun k e => ?_, fun b e => (h4 b e).mono key, fun v e => (h5 v e).mono key⟩, hy, hbel.trans (hwo.bel (fun k e => ?_) hsz)⟩
  · rcases h3 k e with e1 | e1
    · exact hlo k e1
    · omega
  · rcases e with e1 | e1
    · exact hlo k e1
    · omega
theorem Try.Lt.room (h : Try.Lt B w0 w n y x q g a snap recs bs ss) :
    Calls Try.prog 27 #[.pointer (some ⟨y, 0, none⟩)] w fun r w' => r = .returned (.int .i64 (Dk.roomZ n (body snap recs).length)) ∧ Try.Lt B w0 w' n y x q g a snap recs bs ss := by
  obtain ⟨own, s, h1, ⟨h2, h2f⟩, _⟩ := h.ex
  subst h2
  exact h1.room.mono fun r w' ⟨e, hb⟩ => ⟨e, h.below hb⟩
theorem Try.Lt.full (h : Try.Lt B w0 w n y x q g a snap recs bs ss) (ad : Option Addr) (L cap : Nat) (hL : L < 1000000000000000) (hf : Dk.fits n (body snap recs).length L = false) :
    Calls Try.prog 12 #[.pointer (some ⟨y, 0, none⟩), .slice ad L cap] w fun r w' => r = .returned (.int .i64 (if L = 0 ∨ 6000 < L then 52 else 51)) ∧ Try.Lt B w0 w' n y x q g a snap recs bs ss := by
  obtain ⟨own, s, h1, ⟨h2, h2f⟩, _⟩ := h.ex
  subst h2
  exact (h1.full ad L cap hL hf).mono fun r w' ⟨e, hb⟩ => ⟨e, h.below hb⟩
theorem Try.Lt.append (h : Try.Lt B w0 w n y x (q + 3000) g a snap recs bs ss) (v : Value) (d : List UInt8) (hv : Dk.Src w v d) (hf : Dk.fits n (body snap recs).length d.length = true) :
    Calls Try.prog 12 #[.pointer (some ⟨y, 0, none⟩), v] w fun r w' => r = .returned (.int .i64 0) ∧ Try.Lt B w0 w' n y x q g a snap (recs ++ [d]) bs ss := by
  obtain ⟨own, s, h1, ⟨h2, h2f⟩, h3, h4, h5⟩ := h.ex
  subst h2
  exact (h1.append v d hv hf).mono fun r w' ⟨e, hj⟩ => ⟨e, Try.Lt.turn h.yb h.bel (Nat.le_of_lt h.size) h3 h4 h5 hj (by omega)⟩
theorem Try.Lt.compact (h : Try.Lt B w0 w n y x (q + 3000) g a snap recs bs ss) (v : Value) (b : List UInt8) (hv : Dk.Src w v b) (hb : b.length ≤ 64 * half n) (hg : g < 999999999) :
    Calls Try.prog 11 #[.pointer (some ⟨y, 0, none⟩), v] w fun r w' => r = .returned (.int .i64 0) ∧ Try.Lt B w0 w' n y x q (g + 1) (1 - a) b [] bs ss := by
  obtain ⟨own, s, h1, ⟨h2, h2f⟩, h3, h4, h5⟩ := h.ex
  subst h2
  exact (h1.compact v b hv hb hg).mono fun r w' ⟨e, hj⟩ => ⟨e, Try.Lt.turn h.yb h.bel (Nat.le_of_lt h.size) h3 h4 h5 hj (by omega)⟩
theorem Try.Lt.with {v : Value} {ts : List UInt8} {tr : List (List UInt8)} (h : Try.Lt B w0 w n y x q g a snap recs bs ((v, ts, tr) :: ss)) (hl : tr.length < 1000000) (d : List UInt8) :
    Calls Try.prog 13 #[v, .string ⟨d.toArray⟩] w fun r w' => ∃ ad cap, r = .returned (.agg #[.string ⟨ts.toArray⟩, .slice ad (tr.length + 1) cap]) ∧ Try.Lt B w0 w' n y x q g a snap recs bs ((.agg #[.string ⟨ts.toArray⟩, .slice ad (tr.length + 1) cap], ts, tr ++ [d]) :: ss) := by
  obtain ⟨own, s, h1, h2, h3, h4, h5⟩ := h.ex
  refine (Try.with_any hl (h5 (v, ts, tr) List.mem_cons_self) d).mono ?_
  rintro r w' ⟨v', rfl, hst, hb⟩
  have hst' := hst
  obtain ⟨rv, rfl, hr, _⟩ := hst'
  obtain ⟨ad, cap, rfl, -⟩ := Dk.row_form hr
  have h' := h.below hb
  have hsz := h.size
  rw [List.length_append, List.length_singleton] at hst ⊢
  refine ⟨ad, cap, rfl, ⟨own, s, h1.below hb, h2, h3, fun b e => (h4 b e).mono fun k hk hp => ⟨hb.block k hk, hp⟩, fun u e => ?_⟩, h.yb, h'.bel⟩
  rcases List.mem_cons.1 e with rfl | e
  · refine hst.mono fun k hk hp => ⟨rfl, fun e1 => ?_, fun e1 => ?_, by omega⟩
    · have := h1.dsk.lt k e1; omega
    · have := Dk.block_lt h1.jn; omega
  · exact (h5 u (List.mem_cons_of_mem _ e)).below hb
/-- A state is taken out of its box. -/
theorem Try.Lt.take {b : Nat} {ts : List UInt8} {tr : List (List UInt8)} (h : Try.Lt B w0 w n y x q g a snap recs bs ss) (hb : (b, ts, tr) ∈ bs) :
    ∃ ad cap, w.heap[b]? = some (.cells #[.string ⟨ts.toArray⟩, .slice ad tr.length cap] 27 (0, 0)) ∧ Try.Lt B w0 w n y x q g a snap recs bs ((.agg #[.string ⟨ts.toArray⟩, .slice ad tr.length cap], ts, tr) :: ss) := by
  obtain ⟨own, s, h1, h2, h3, h4, h5⟩ := h.ex
  obtain ⟨rv, k0, k1, k2, k3⟩ := h4 _ hb
  obtain ⟨ad, cap, rfl, -⟩ := Dk.row_form k2
  refine ⟨ad, cap, k0, ⟨own, s, h1, h2, h3, h4, fun v e => ?_⟩, h.yb, h.bel⟩
  rcases List.mem_cons.1 e with rfl | e
  · exact ⟨_, rfl, k2, k3⟩
  · exact h5 v e
/-- A state is put into a new box. -/
theorem Try.Lt.box {ts : List UInt8} {tr : List (List UInt8)} {rv : Value} (h : Try.Lt B w0 w n y x q g a snap recs bs ((.agg #[.string ⟨ts.toArray⟩, rv], ts, tr) :: ss)) :
    Try.Lt B w0 (w.alloc (.cells #[.string ⟨ts.toArray⟩, rv] 27)) n y x q g a snap recs ((w.heap.size, ts, tr) :: bs) ((.agg #[.string ⟨ts.toArray⟩, rv], ts, tr) :: ss) := by
  have hal := (Below.refl w.heap.size w).alloc (Nat.le_refl _) (.cells #[.string ⟨ts.toArray⟩, rv] 27)
  have h' := h.below hal
  obtain ⟨own, s, h1, h2, h3, h4, h5⟩ := h.ex
  have hsz := h.size
  refine ⟨⟨own, s, h1.below hal, h2, h3, fun b e => ?_, fun v e => (h5 v e).below hal⟩, h.yb, h'.bel⟩
  rcases List.mem_cons.1 e with rfl | e
  · obtain ⟨rv', e1, k2, k3⟩ := (h5 _ (List.mem_cons_self)).below hal
    cases e1
    refine ⟨rv, heap_alloc_new w _, ⟨fun e1 => ?_, fun e1 => ?_, ?_⟩, k2, k3⟩
    · have := h1.dsk.lt _ e1; simp at this
    · have := Dk.block_lt h1.jn; simp at e1; omega
    · show B ≤ w.heap.size; omega
  · exact (h4 b e).mono fun k hk hp => ⟨hal.block k hk, hp⟩
/-- A state is put into a box that was there. -/
theorem Try.Lt.put {b : Nat} {ts ts0 : List UInt8} {tr tr0 : List (List UInt8)} {rv : Value} {bs' : Dk.Bxs} (h : Try.Lt B w0 w n y x q g a snap recs bs ((.agg #[.string ⟨ts.toArray⟩, rv], ts, tr) :: ss)) (hb : (b, ts0, tr0) ∈ bs) (hbs : ∀ c ∈ bs', c = (b, ts, tr) ∨ (c ∈ bs ∧ c.1 ≠ b)) :
    Try.Lt B w0 ((w.setCell ⟨b, 0, none⟩ (.string ⟨ts.toArray⟩)).setCell ⟨b, 1, none⟩ rv) n y x q g a snap recs bs' ((.agg #[.string ⟨ts.toArray⟩, rv], ts, tr) :: ss) := by
  obtain ⟨own, s, h1, h2, h3, h4, h5⟩ := h.ex
  have hsz := h.size
  obtain ⟨rv0, k0, k1, k2, k3⟩ := h4 _ hb
  have hne : ∀ {v : Value} {m : Nat} {xs : List Value}, w.ownsRow 0 9 1 v m xs → ∀ k, v.ownBlock = some k → k ≠ b := fun {v m xs} hr k e => by
    rintro rfl
    rcases hr.2 with ⟨e1, _⟩ | ⟨g', cap, cur, e1, _, e2, _⟩
    · rw [e1] at e; cases e
    · rw [e1] at e
      injection e with e
      simp at e
      subst e
      rw [k0] at e2
      injection e2 with e2
      injection e2 with _ e3 _
      exact absurd e3 (by decide)
  have hwo : Dk.Wo (fun k => k = b) w ((w.setCell ⟨b, 0, none⟩ (.string ⟨ts.toArray⟩)).setCell ⟨b, 1, none⟩ rv) := (((Dk.Wo.refl (fun k => k = b) w).setCell b 0 _ (.inl rfl)).setCell b 1 _ (.inl rfl))
  refine ⟨⟨own, s, ⟨h1.dsk.keep (fun k e => hwo.block k (h1.dsk.lt k e) (fun e1 => k1.1 (e1 ▸ e))) hwo.size, h1.jn.wo hwo (fun e => k1.2.1 e.symm), h1.ny, h1.ho, h1.can⟩, h2, h3, fun c e => ?_, fun v e => ?_⟩, h.yb, h.bel.trans (hwo.bel (fun k e => by rw [e]; exact k1.2.2) (by omega))⟩
  · rcases hbs c e with rfl | ⟨e1, e2⟩
    · obtain ⟨rv', e1, m2, m3⟩ := h5 _ (List.mem_cons_self)
      cases e1
      exact ⟨rv, Dk.two_cells k0 _ _, k1, Dk.row_heap m2 fun k e => hwo.block k (m2.lt k e).2 (hne m2 k e), m3⟩
    · obtain ⟨rv', j0, j1, j2, j3⟩ := h4 c e1
      exact ⟨rv', (hwo.block c.1 (Dk.block_lt j0) e2).trans j0, j1, Dk.row_heap j2 fun k e => hwo.block k (j2.lt k e).2 (hne j2 k e), j3⟩
  · obtain ⟨rv', j0, j2, j3⟩ := h5 v e
    exact ⟨rv', j0, Dk.row_heap j2 fun k e => hwo.block k (j2.lt k e).2 (hne j2 k e), j3⟩
theorem Try.Lt.same {va vb : Value} {ts : List UInt8} {tr : List (List UInt8)} (h : Try.Lt B w0 w n y x q g a snap recs bs ss) (hl : tr.length < 1000000) (ha : (va, ts, tr) ∈ ss) (hb : (vb, ts, tr) ∈ ss) :
    Calls Try.prog 15 #[va, vb] w fun r w' => r = .returned (.bool true) ∧ Try.Lt B w0 w' n y x q g a snap recs bs ss := by
  obtain ⟨own, s, h1, h2, h3, h4, h5⟩ := h.ex
  exact (Try.same_any hl (h5 (va, ts, tr) ha) (h5 (vb, ts, tr) hb)).mono fun r w' ⟨e, hb⟩ => ⟨e, h.below hb⟩
theorem Try.Lt.few (h : Try.Lt B w0 w n y x q g a snap recs bs ss) : recs.length < 1000000 := by
  obtain ⟨own, s, h1, _⟩ := h.ex
  exact h1.ho.few
theorem Try.Lt.solo {v : Value × List UInt8 × List (List UInt8)} (h : Try.Lt B w0 w n y x q g a snap recs bs (v :: ss)) : Try.Lt B w0 w n y x q g a snap recs bs ss := h.drop (fun _ e => e) (fun _ e => List.mem_cons_of_mem _ e)
end
theorem Try.Lt.less {B : Nat} {w0 w : World} {n y x q q' g a : Nat} {snap : List UInt8} {recs : List (List UInt8)} {bs : Dk.Bxs} {ss : Dk.Sts} (h : Try.Lt B w0 w n y x q g a snap recs bs ss) (hq : q' ≤ q) : Try.Lt B w0 w n y x q' g a snap recs bs ss := by
  obtain ⟨own, s, h1, ⟨h2, h2f⟩, h3⟩ := h.ex
  exact ⟨⟨own, s, ⟨h1.dsk, h1.jn, h1.ny, h1.ho, h1.can.mono hq⟩, ⟨h2, by omega⟩, h3⟩, h.yb, h.bel⟩
theorem Dk.Src.up {w w' : World} {v : Value} {l : List UInt8} (h : Dk.Src w v l) (hb : Below w.heap.size w w') : Dk.Src w' v l := by
  obtain ⟨ad, cap, e, h1⟩ := h.ex
  refine ⟨ad, cap, e, h1.imp id ?_⟩
  rintro ⟨sb, so, e1, e2, e3⟩
  exact ⟨sb, so, e1, Nat.lt_of_lt_of_le e2 hb.size, fun j u hj => (hb.cell (p := ⟨sb, so + j, none⟩) e2).trans (e3 j u hj)⟩
theorem Try.src_conv {w : World} {ad : Option Addr} {n c : Nat} {l : List UInt8} (h : Dk.Src w (.slice ad n c) l) (h0 : 0 < n) : (convert 22 9 (.slice ad n c)).run Try.prog w = .ok (.string ⟨l.toArray⟩) w := by
  obtain ⟨hn, hc⟩ := h.cell
  rcases hc with rfl | ⟨sb, so, rfl, -⟩
  · simp at hn; omega
  · exact Try.conv_src h
theorem Dk.zero_src (w : World) (R : Nat) : Dk.Src (w.alloc (.cells (Lib.byteCells (List.replicate R 0)).toArray 5)) (.slice (some ⟨w.heap.size, 0, none⟩) R R) (List.replicate R 0) :=
  ⟨_, R, by rw [List.length_replicate], .inr ⟨w.heap.size, 0, rfl, by simp, fun j u hj => by rw [Nat.zero_add, cell_of_row _ _ _ _ _ _ (heap_alloc_new w _)]; simpa using hj⟩⟩
/-- A state with a snapshot alone, written out. -/
theorem Try.sta_lit (w : World) (P : Nat → Prop) (ts : List UInt8) : Try.Sta w P (.agg #[.string ⟨ts.toArray⟩, .slice none 0 0]) ts [] := ⟨_, rfl, World.ownsRow_nil _ _ _ _, fun k e => by cases e⟩
theorem Try.Lt.lit {B : Nat} {w0 w : World} {n y x q g a : Nat} {snap : List UInt8} {recs : List (List UInt8)} {bs : Dk.Bxs} {ss : Dk.Sts} (h : Try.Lt B w0 w n y x q g a snap recs bs ss) (ts : List UInt8) : Try.Lt B w0 w n y x q g a snap recs bs ((.agg #[.string ⟨ts.toArray⟩, .slice none 0 0], ts, []) :: ss) := by
  obtain ⟨own, s, h1, h2, h3, h4, h5⟩ := h.ex
  refine ⟨⟨own, s, h1, h2, h3, h4, fun v e => ?_⟩, h.yb, h.bel⟩
  rcases List.mem_cons.1 e with rfl | e
  · exact Try.sta_lit _ _ _
  · exact h5 v e
theorem Dk.one_src (w : World) (c : UInt8) (fr : Nat × Nat) : Dk.Src (w.alloc (.cells #[.int .u8 (c.toNat : Nat)] 5 fr)) (.slice (some ⟨w.heap.size, 0, none⟩) 1 1) [c] :=
  ⟨_, 1, rfl, .inr ⟨w.heap.size, 0, rfl, by simp, fun j u hj => by rw [Nat.zero_add, cell_of_row _ _ _ _ _ _ (heap_alloc_new w _)]; simpa [Lib.byteCells] using hj⟩⟩
end Go.Proofs
