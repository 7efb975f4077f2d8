/-
  Three journals on three disks, and states beside them.
-/
import Derived.Test.YtkoojpaanpmgeaaKj
namespace Go.Proofs
open Go.RowKit Go.Dk
/-- What is known of one journal. -/
structure Dk.JDesc where
  n : Nat
  y : Nat
  x : Nat
  q : Nat
  g : Nat
  a : Nat
  snap : List UInt8
  recs : List (List UInt8)
/-- A journal whose blocks bear the tag i. -/
def Try.Ji (B : Nat) (w : World) (tag : Nat → Nat) (i : Nat) (D : Dk.JDesc) : Prop := ∃ own s, Try.JD w own D.y D.x s D.q D.g D.a D.snap D.recs ∧ s.n = D.n ∧ (∀ k, own k → tag k = i ∧ B ≤ k) ∧ tag D.y = i ∧ B ≤ D.y
theorem Try.Ji.keep {B : Nat} {w w' : World} {tag tag' : Nat → Nat} {i i' : Nat} {D : Dk.JDesc} (h : Try.Ji B w tag i D) (hk : ∀ k, k < w.heap.size → tag k = i → w'.heap[k]? = w.heap[k]? ∧ tag' k = i') (hs : w.heap.size ≤ w'.heap.size) : Try.Ji B w' tag' i' D := by
  obtain ⟨own, s, h1, h2, h3, h4, h5⟩ := h
  have hyl := Dk.block_lt h1.jn
  exact ⟨own, s, ⟨h1.dsk.keep (fun k e => (hk k (h1.dsk.lt k e) (h3 k e).1).1) hs, (hk _ hyl h4).1.trans h1.jn, h1.ny, h1.ho, h1.can⟩, h2, fun k e => ⟨(hk k (h1.dsk.lt k e) (h3 k e).1).2, (h3 k e).2⟩, (hk _ hyl h4).2, h5⟩
/-- Three journals; boxes with states, states by themselves. -/
structure Try.L3 (B : Nat) (w0 w : World) (D1 D2 D3 : Dk.JDesc) (bs : Dk.Bxs) (ss : Dk.Sts) : Prop where
  ex : ∃ tag : Nat → Nat, Try.Ji B w tag 1 D1 ∧ Try.Ji B w tag 2 D2 ∧ Try.Ji B w tag 3 D3 ∧ (∀ b ∈ bs, Try.Bx w (fun k => tag k = 0 ∧ B ≤ k) b.1 b.2.1 b.2.2) ∧ ∀ v ∈ ss, Try.Sta w (fun k => tag k = 0 ∧ B ≤ k) v.1 v.2.1 v.2.2
  bel : Below B w0 w
section
variable {B : Nat} {w0 w : World} {D1 D2 D3 : Dk.JDesc} {bs : Dk.Bxs} {ss : Dk.Sts}
theorem Try.L3.size (h : Try.L3 B w0 w D1 D2 D3 bs ss) : B < w.heap.size := by
  obtain ⟨tag, ⟨own, s, h1, _, _, _, h5⟩, _⟩ := h.ex
  exact Nat.lt_of_le_of_lt h5 (Dk.block_lt h1.jn)
theorem Try.L3.below {w' : World} (h : Try.L3 B w0 w D1 D2 D3 bs ss) (hb : Below w.heap.size w w') : Try.L3 B w0 w' D1 D2 D3 bs ss := by
  obtain ⟨tag, h1, h2, h3, h4, h5⟩ := h.ex
  have key : ∀ i k, k < w.heap.size → tag k = i → w'.heap[k]? = w.heap[k]? ∧ tag k = i := fun i k hk e => ⟨hb.block k hk, e⟩
  exact ⟨⟨tag, h1.keep (key 1) hb.size, h2.keep (key 2) hb.size, h3.keep (key 3) hb.size, fun b e => (h4 b e).mono fun k hk hp => ⟨hb.block k hk, hp⟩, fun v e => (h5 v e).below hb⟩, h.bel.trans (hb.mono (Nat.le_of_lt h.size))⟩
theorem Try.L3.rot (h : Try.L3 B w0 w D1 D2 D3 bs ss) : Try.L3 B w0 w D2 D3 D1 bs ss := by
  obtain ⟨tag, h1, h2, h3, h4, h5⟩ := h.ex
  refine ⟨⟨fun k => if tag k = 1 then 3 else if tag k = 2 then 1 else if tag k = 3 then 2 else tag k, h2.keep (fun k _ e => ⟨rfl, by simp [e]⟩) (Nat.le_refl _), h3.keep (fun k _ e => ⟨rfl, by simp [e]⟩) (Nat.le_refl _), h1.keep (fun k _ e => ⟨rfl, by simp [e]⟩) (Nat.le_refl _), fun b e => (h4 b e).mono fun k _ hp => ⟨rfl, by simp [hp.1], hp.2⟩, fun v e => (h5 v e).mono fun k _ hp => ⟨rfl, by simp [hp.1], hp.2⟩⟩, h.bel⟩
theorem Try.L3.drop {bs' : Dk.Bxs} {ss' : Dk.Sts} (h : Try.L3 B w0 w D1 D2 D3 bs ss) (hb : ∀ b ∈ bs', b ∈ bs) (hs : ∀ v ∈ ss', v ∈ ss) : Try.L3 B w0 w D1 D2 D3 bs' ss' := by
  obtain ⟨tag, h1, h2, h3, h4, h5⟩ := h.ex
  exact ⟨⟨tag, h1, h2, h3, fun b e => h4 b (hb b e), fun v e => h5 v (hs v e)⟩, h.bel⟩
/-- What a call on the first one leaves. -/
theorem Try.L3.turn {w' : World} {own : Nat → Prop} {tag : Nat → Nat} {D : Dk.JDesc} {y x q g a n f : Nat} {snap : List UInt8} {recs : List (List UInt8)} (hD : D = ⟨n, y, x, q, g, a, snap, recs⟩) (hlo : ∀ k, own k → k < w.heap.size ∧ tag k = 1 ∧ B ≤ k) (hy : tag y = 1 ∧ B ≤ y ∧ y < w.heap.size) (hbel : Below B w0 w) (hsz : B ≤ w.heap.size)
    (h2 : Try.Ji B w tag 2 D2) (h3 : Try.Ji B w tag 3 D3) (h4 : ∀ b ∈ bs, Try.Bx w (fun k => tag k = 0 ∧ B ≤ k) b.1 b.2.1 b.2.2) (h5 : ∀ v ∈ ss, Try.Sta w (fun k => tag k = 0 ∧ B ≤ k) v.1 v.2.1 v.2.2)
    (hj : Try.JDs own w w' y x q g a snap recs n f) : Try.L3 B w0 w' D D2 D3 bs ss := by
  subst hD
  obtain ⟨own', s', j1, j2, _, j3⟩ := hj.ex
  have hwo := hj.wo
  have key : ∀ i, i ≠ 1 → ∀ k, k < w.heap.size → tag k = i → w'.heap[k]? = w.heap[k]? ∧ (if k < w.heap.size then tag k else 1) = i := fun i hi k hk e =>
    ⟨hwo.block k hk (fun e1 => by rcases e1 with e1 | e1; exact hi (e.symm.trans (hlo k e1).2.1); exact hi (e.symm.trans (e1 ▸ hy.1))), by rw [if_pos hk]; exact e⟩
  refine ⟨⟨fun k => if k < w.heap.size then tag k else 1, ⟨own', s', j1, j2, fun k e => ?_, by show (if y < w.heap.size then tag y else 1) = 1; rw [if_pos hy.2.2]; exact hy.1, hy.2.1⟩, h2.keep (key 2 (by omega)) hwo.size, h3.keep (key 3 (by omega)) hwo.size, fun b e => (h4 b e).mono fun k hk hp => ⟨(key 0 (by omega) k hk hp.1).1, (key 0 (by omega) k hk hp.1).2, hp.2⟩, fun v e => (h5 v e).mono fun k hk hp => ⟨(key 0 (by omega) k hk hp.1).1, (key 0 (by omega) k hk hp.1).2, hp.2⟩⟩, hbel.trans (hwo.bel (fun k e => ?_) hsz)⟩
  · rcases j3 k e with e1 | e1
    · obtain ⟨k1, k2, k3⟩ := hlo k e1
      exact ⟨(if_pos k1).trans k2, k3⟩
    · exact ⟨if_neg (by omega), by omega⟩
  · rcases e with e1 | e1
    · exact (hlo k e1).2.2
    · rw [e1]; exact hy.2.1
theorem Try.L3.append {n y x q g a : Nat} {snap : List UInt8} {recs : List (List UInt8)} (h : Try.L3 B w0 w ⟨n, y, x, q + 3000, g, a, snap, recs⟩ D2 D3 bs ss) (v : Value) (d : List UInt8) (hv : Dk.Src w v d) (hf : Dk.fits n (body snap recs).length d.length = true) :
    Calls Try.prog 11 #[.pointer (some ⟨y, 0, none⟩), v] w fun r w' => r = .returned (.int .i64 0) ∧ Try.L3 B w0 w' ⟨n, y, x, q, g, a, snap, recs ++ [d]⟩ D2 D3 bs ss := by
  obtain ⟨tag, ⟨own, s, h1, hn, h3, h4, h5⟩, g2, g3, g4, g5⟩ := h.ex
  simp only at hn
  subst hn
  exact (h1.append v d hv hf).mono fun r w' ⟨e, hj⟩ => ⟨e, Try.L3.turn rfl (fun k e => ⟨h1.dsk.lt k e, h3 k e⟩) ⟨h4, h5, Dk.block_lt h1.jn⟩ h.bel (Nat.le_of_lt h.size) g2 g3 g4 g5 hj⟩
theorem Try.L3.compact {n y x q g a : Nat} {snap : List UInt8} {recs : List (List UInt8)} (h : Try.L3 B w0 w ⟨n, y, x, q + 3000, g, a, snap, recs⟩ D2 D3 bs ss) (v : Value) (b : List UInt8) (hv : Dk.Src w v b) (hb : b.length ≤ 64 * half n) (hg : g < 999999999) :
    Calls Try.prog 13 #[.pointer (some ⟨y, 0, none⟩), v] w fun r w' => r = .returned (.int .i64 0) ∧ Try.L3 B w0 w' ⟨n, y, x, q, g + 1, 1 - a, b, []⟩ D2 D3 bs ss := by
  obtain ⟨tag, ⟨own, s, h1, hn, h3, h4, h5⟩, g2, g3, g4, g5⟩ := h.ex
  simp only at hn
  subst hn
  exact (h1.compact v b hv hb hg).mono fun r w' ⟨e, hj⟩ => ⟨e, Try.L3.turn rfl (fun k e => ⟨h1.dsk.lt k e, h3 k e⟩) ⟨h4, h5, Dk.block_lt h1.jn⟩ h.bel (Nat.le_of_lt h.size) g2 g3 g4 g5 hj⟩
theorem Try.L3.full {n y x q g a : Nat} {snap : List UInt8} {recs : List (List UInt8)} (h : Try.L3 B w0 w ⟨n, y, x, q, g, a, snap, recs⟩ D2 D3 bs ss) (ad : Option Addr) (L cap : Nat) (hL : L < 1000000000000000) (hf : Dk.fits n (body snap recs).length L = false) :
    Calls Try.prog 11 #[.pointer (some ⟨y, 0, none⟩), .slice ad L cap] w fun r w' => r = .returned (.int .i64 (if L = 0 ∨ 6000 < L then 52 else 51)) ∧ Try.L3 B w0 w' ⟨n, y, x, q, g, a, snap, recs⟩ D2 D3 bs ss := by
  obtain ⟨tag, ⟨own, s, h1, hn, _⟩, _⟩ := h.ex
  simp only at hn
  subst hn
  exact (h1.full ad L cap hL hf).mono fun r w' ⟨e, hb⟩ => ⟨e, h.below hb⟩
theorem Try.L3.great {n y x q g a : Nat} {snap : List UInt8} {recs : List (List UInt8)} (h : Try.L3 B w0 w ⟨n, y, x, q, g, a, snap, recs⟩ D2 D3 bs ss) (ad : Option Addr) (L cap : Nat) (hL : L < 1000000000000000) (hf : 64 * half n < L) :
    Calls Try.prog 13 #[.pointer (some ⟨y, 0, none⟩), .slice ad L cap] w fun r w' => r = .returned (.int .i64 51) ∧ Try.L3 B w0 w' ⟨n, y, x, q, g, a, snap, recs⟩ D2 D3 bs ss := by
  obtain ⟨tag, ⟨own, s, h1, hn, _⟩, _⟩ := h.ex
  simp only at hn
  subst hn
  exact (Try.compact_no h1.dsk (by have := h1.ho.n8; omega) h1.jn (by have := h1.ho.g2; omega) ad L cap hL 51 (.inr (.inl ⟨rfl, hf, rfl⟩))).mono fun r w' ⟨e, hb⟩ => ⟨e, h.below hb⟩
theorem Try.L3.room {n y x q g a : Nat} {snap : List UInt8} {recs : List (List UInt8)} (h : Try.L3 B w0 w ⟨n, y, x, q, g, a, snap, recs⟩ D2 D3 bs ss) :
    Calls Try.prog 14 #[.pointer (some ⟨y, 0, none⟩)] w fun r w' => r = .returned (.int .i64 (Dk.roomZ n (body snap recs).length)) ∧ Try.L3 B w0 w' ⟨n, y, x, q, g, a, snap, recs⟩ D2 D3 bs ss := by
  obtain ⟨tag, ⟨own, s, h1, hn, _⟩, _⟩ := h.ex
  simp only at hn
  subst hn
  exact h1.room.mono fun r w' ⟨e, hb⟩ => ⟨e, h.below hb⟩
theorem Try.L3.less {n y x q q' g a : Nat} {snap : List UInt8} {recs : List (List UInt8)} (h : Try.L3 B w0 w ⟨n, y, x, q, g, a, snap, recs⟩ D2 D3 bs ss) (hq : q' ≤ q) : Try.L3 B w0 w ⟨n, y, x, q', g, a, snap, recs⟩ D2 D3 bs ss := by
  obtain ⟨tag, ⟨own, s, h1, hn⟩, g2⟩ := h.ex
  exact ⟨⟨tag, ⟨own, s, ⟨h1.dsk, h1.jn, h1.ny, h1.ho, h1.can.mono hq⟩, hn⟩, g2⟩, h.bel⟩
/-- A state more, its row in new blocks. -/
theorem Try.L3.add {w' : World} {st : Value} {ts : List UInt8} {tr : List (List UInt8)} (h : Try.L3 B w0 w D1 D2 D3 bs ss) (hb : Below w.heap.size w w') (hst : Try.Sta w' (fun k => w.heap.size ≤ k) st ts tr) : Try.L3 B w0 w' D1 D2 D3 bs ((st, ts, tr) :: ss) := by
  obtain ⟨tag, h1, h2, h3, h4, h5⟩ := h.ex
  have hsz := h.size
  have key : ∀ i k, k < w.heap.size → tag k = i → w'.heap[k]? = w.heap[k]? ∧ (if k < w.heap.size then tag k else 0) = i := fun i k hk e => ⟨hb.block k hk, by rw [if_pos hk]; exact e⟩
  refine ⟨⟨fun k => if k < w.heap.size then tag k else 0, h1.keep (key 1) hb.size, h2.keep (key 2) hb.size, h3.keep (key 3) hb.size, fun b e => (h4 b e).mono fun k hk hp => ⟨hb.block k hk, (key 0 k hk hp.1).2, hp.2⟩, fun v e => ?_⟩, h.bel.trans (hb.mono (Nat.le_of_lt hsz))⟩
  rcases List.mem_cons.1 e with rfl | e
  · exact hst.mono fun k hk hp => ⟨rfl, if_neg (by omega), by omega⟩
  · exact (h5 v e).mono fun k hk hp => ⟨hb.block k hk, (key 0 k hk hp.1).2, hp.2⟩
theorem Try.L3.with {v : Value} {ts : List UInt8} {tr : List (List UInt8)} (h : Try.L3 B w0 w D1 D2 D3 bs ((v, ts, tr) :: ss)) (hl : tr.length < 1000000) (d : List UInt8) :
    Calls Try.prog 12 #[v, .string ⟨d.toArray⟩] w fun r w' => ∃ ad cap, r = .returned (.agg #[.string ⟨ts.toArray⟩, .slice ad (tr.length + 1) cap]) ∧ Try.L3 B w0 w' D1 D2 D3 bs ((.agg #[.string ⟨ts.toArray⟩, .slice ad (tr.length + 1) cap], ts, tr ++ [d]) :: (v, ts, tr) :: ss) := by
  obtain ⟨tag, h1, h2, h3, h4, h5⟩ := h.ex
  refine (Try.with_any hl (h5 (v, ts, tr) List.mem_cons_self) d).mono ?_
  rintro r w' ⟨v', rfl, hst, hb⟩
  have hst' := hst
  obtain ⟨rv, rfl, hr, _⟩ := hst'
  obtain ⟨ad, cap, rfl, -⟩ := Dk.row_form hr
  rw [List.length_append, List.length_singleton] at hst ⊢
  exact ⟨ad, cap, rfl, h.add hb hst⟩
theorem Try.L3.take {b : Nat} {ts : List UInt8} {tr : List (List UInt8)} (h : Try.L3 B w0 w D1 D2 D3 bs ss) (hb : (b, ts, tr) ∈ bs) :
    ∃ ad cap, w.heap[b]? = some (.cells #[.string ⟨ts.toArray⟩, .slice ad tr.length cap] 28 (0, 0)) ∧ Try.L3 B w0 w D1 D2 D3 bs ((.agg #[.string ⟨ts.toArray⟩, .slice ad tr.length cap], ts, tr) :: ss) := by
  obtain ⟨tag, h1, h2, h3, h4, h5⟩ := h.ex
  obtain ⟨rv, k0, k1, k2, k3⟩ := h4 _ hb
  obtain ⟨ad, cap, rfl, -⟩ := Dk.row_form k2
  refine ⟨ad, cap, k0, ⟨tag, h1, h2, h3, h4, fun v e => ?_⟩, h.bel⟩
  rcases List.mem_cons.1 e with rfl | e
  · exact ⟨_, rfl, k2, k3⟩
  · exact h5 v e
theorem Try.L3.lit (h : Try.L3 B w0 w D1 D2 D3 bs ss) (ts : List UInt8) : Try.L3 B w0 w D1 D2 D3 bs ((.agg #[.string ⟨ts.toArray⟩, .slice none 0 0], ts, []) :: ss) := by
  obtain ⟨tag, h1, h2, h3, h4, h5⟩ := h.ex
  refine ⟨⟨tag, h1, h2, h3, h4, fun v e => ?_⟩, h.bel⟩
  rcases List.mem_cons.1 e with rfl | e
  · exact Try.sta_lit _ _ _
  · exact h5 v e
theorem Try.L3.same {va vb : Value} {ts : List UInt8} {tr : List (List UInt8)} (h : Try.L3 B w0 w D1 D2 D3 bs ss) (hl : tr.length < 1000000) (ha : (va, ts, tr) ∈ ss) (hb : (vb, ts, tr) ∈ ss) :
    Calls Try.prog 15 #[va, vb] w fun r w' => r = .returned (.bool true) ∧ Below w.heap.size w w' := by
  obtain ⟨tag, h1, h2, h3, h4, h5⟩ := h.ex
  exact Try.same_any hl (h5 (va, ts, tr) ha) (h5 (vb, ts, tr) hb)
theorem Try.L3.few {n y x q g a : Nat} {snap : List UInt8} {recs : List (List UInt8)} (h : Try.L3 B w0 w ⟨n, y, x, q, g, a, snap, recs⟩ D2 D3 bs ss) : recs.length < 1000000 := by
  obtain ⟨tag, ⟨own, s, h1, _⟩, _⟩ := h.ex
  exact h1.ho.few
/-- opens, of the first one's disk. -/
theorem Try.L3.opens {n y x q g a : Nat} {snap : List UInt8} {recs : List (List UInt8)} (h : Try.L3 B w0 w ⟨n, y, x, q, g, a, snap, recs⟩ D2 D3 bs ss) :
    Calls Try.prog 10 #[.pointer (some ⟨x, 0, none⟩)] w fun r w' => ∃ y' ad cap, r = .returned (.tuple #[.pointer (some ⟨y', 0, none⟩), .agg #[.string ⟨snap.toArray⟩, .slice ad recs.length cap], .bool true]) ∧ Try.L3 B w0 w' ⟨n, y, x, q, g, a, snap, recs⟩ D2 D3 bs ((.agg #[.string ⟨snap.toArray⟩, .slice ad recs.length cap], snap, recs) :: ss) := by
  obtain ⟨tag, ⟨own, s, h1, _⟩, _⟩ := h.ex
  refine (Try.opens_any h1.dsk h1.ho h1.can).mono ?_
  rintro r w' ⟨y', t, rfl, hT⟩
  have hst := hT.st
  obtain ⟨rv, rfl, hr, _⟩ := hst
  obtain ⟨ad, cap, rfl, -⟩ := Dk.row_form hr
  exact ⟨y', ad, cap, rfl, h.add hT.bel (hT.st.mono fun k _ hp => ⟨rfl, hp.1⟩)⟩
/-- A state is put into a new box. -/
theorem Try.L3.box {ts : List UInt8} {tr : List (List UInt8)} {rv : Value} (h : Try.L3 B w0 w D1 D2 D3 bs ((.agg #[.string ⟨ts.toArray⟩, rv], ts, tr) :: ss)) :
    Try.L3 B w0 (w.alloc (.cells #[.string ⟨ts.toArray⟩, rv] 28)) D1 D2 D3 ((w.heap.size, ts, tr) :: bs) ((.agg #[.string ⟨ts.toArray⟩, rv], ts, tr) :: ss) := by
  have hb := (Below.refl w.heap.size w).alloc (Nat.le_refl _) (.cells #[.string ⟨ts.toArray⟩, rv] 28)
  obtain ⟨tag, h1, h2, h3, h4, h5⟩ := h.ex
  have hsz := h.size
  have key : ∀ i k, k < w.heap.size → tag k = i → (w.alloc (.cells #[.string ⟨ts.toArray⟩, rv] 28)).heap[k]? = w.heap[k]? ∧ (if k < w.heap.size then tag k else 0) = i := fun i k hk e => ⟨hb.block k hk, by rw [if_pos hk]; exact e⟩
  have hss : ∀ v ∈ ((.agg #[.string ⟨ts.toArray⟩, rv], ts, tr) :: ss : Dk.Sts), Try.Sta (w.alloc (.cells #[.string ⟨ts.toArray⟩, rv] 28)) (fun k => (if k < w.heap.size then tag k else 0) = 0 ∧ B ≤ k) v.1 v.2.1 v.2.2 := fun v e => (h5 v e).mono fun k hk hp => ⟨hb.block k hk, (key 0 k hk hp.1).2, hp.2⟩
  refine ⟨⟨fun k => if k < w.heap.size then tag k else 0, h1.keep (key 1) hb.size, h2.keep (key 2) hb.size, h3.keep (key 3) hb.size, fun b e => ?_, hss⟩, h.bel.trans (hb.mono (Nat.le_of_lt hsz))⟩
  rcases List.mem_cons.1 e with rfl | e
  · obtain ⟨rv', e1, k2, k3⟩ := hss _ List.mem_cons_self
    cases e1
    exact ⟨rv, heap_alloc_new w _, ⟨if_neg (by show ¬ w.heap.size < w.heap.size; omega), by show B ≤ w.heap.size; omega⟩, k2, k3⟩
  · exact (h4 b e).mono fun k hk hp => ⟨hb.block k hk, (key 0 k hk hp.1).2, hp.2⟩
/-- A state is put into a box that was there. -/
theorem Try.L3.put {b : Nat} {ts ts0 : List UInt8} {tr tr0 : List (List UInt8)} {rv : Value} {bs' : Dk.Bxs} (h : Try.L3 B w0 w D1 D2 D3 bs ((.agg #[.string ⟨ts.toArray⟩, rv], ts, tr) :: ss)) (hb : (b, ts0, tr0) ∈ bs) (hbs : ∀ c ∈ bs', c = (b, ts, tr) ∨ (c ∈ bs ∧ c.1 ≠ b)) :
    Try.L3 B w0 ((w.setCell ⟨b, 0, none⟩ (.string ⟨ts.toArray⟩)).setCell ⟨b, 1, none⟩ rv) D1 D2 D3 bs' ((.agg #[.string ⟨ts.toArray⟩, rv], ts, tr) :: ss) := by
  obtain ⟨tag, h1, h2, h3, h4, h5⟩ := h.ex
  have hsz := h.size
  obtain ⟨rv0, k0, k1, k2, k3⟩ := h4 _ hb
  have hne : ∀ {v : Value} {m : Nat} {xs : List Value}, w.ownsRow 0 9 1 v m xs → ∀ k, v.ownBlock = some k → k ≠ b := fun {v m xs} hr k e => by
    rintro rfl
    rcases hr.2 with ⟨e1, _⟩ | ⟨g', cap, cur, e1, _, e2, _⟩
    · rw [e1] at e; cases e
    · rw [e1] at e
      injection e with e
      simp at e
      subst e
      rw [k0] at e2
      injection e2 with e2
      injection e2 with _ e3 _
      exact absurd e3 (by decide)
  have hwo : Dk.Wo (fun k => k = b) w ((w.setCell ⟨b, 0, none⟩ (.string ⟨ts.toArray⟩)).setCell ⟨b, 1, none⟩ rv) := (((Dk.Wo.refl (fun k => k = b) w).setCell b 0 _ (.inl rfl)).setCell b 1 _ (.inl rfl))
  have key : ∀ i, i ≠ 0 → ∀ k, k < w.heap.size → tag k = i → ((w.setCell ⟨b, 0, none⟩ (.string ⟨ts.toArray⟩)).setCell ⟨b, 1, none⟩ rv).heap[k]? = w.heap[k]? ∧ tag k = i := fun i hi k hk e => ⟨hwo.block k hk (fun e1 => hi (e.symm.trans (e1 ▸ k1.1))), e⟩
  refine ⟨⟨tag, h1.keep (key 1 (by omega)) hwo.size, h2.keep (key 2 (by omega)) hwo.size, h3.keep (key 3 (by omega)) hwo.size, fun c e => ?_, fun v e => ?_⟩, h.bel.trans (hwo.bel (fun k e => by rw [e]; exact k1.2) (by omega))⟩
  · rcases hbs c e with rfl | ⟨e1, e2⟩
    · obtain ⟨rv', e1, m2, m3⟩ := h5 _ (List.mem_cons_self)
      cases e1
      exact ⟨rv, Dk.two_cells k0 _ _, k1, Dk.row_heap m2 fun k e => hwo.block k (m2.lt k e).2 (hne m2 k e), m3⟩
    · obtain ⟨rv', j0, j1, j2, j3⟩ := h4 c e1
      exact ⟨rv', (hwo.block c.1 (Dk.block_lt j0) e2).trans j0, j1, Dk.row_heap j2 fun k e => hwo.block k (j2.lt k e).2 (hne j2 k e), j3⟩
  · obtain ⟨rv', j0, j2, j3⟩ := h5 v e
    exact ⟨rv', j0, Dk.row_heap j2 fun k e => hwo.block k (j2.lt k e).2 (hne j2 k e), j3⟩
end
end Go.Proofs
