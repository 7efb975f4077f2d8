/-
  Four gifts beside one another; a row of slices that is appended to.
-/
import Derived.Test.YtdlhonoppnfmpaaTd
import Derived.Test.YtdlhonoppnfmpaaTf
namespace Go.Proofs
open Go.RowKit Go.Dk
/-- 'append' of one: the old row reads as it did. -/
theorem Dk.app_keep {P : Program} (w : World) (t ty e : TypeId) (i : TypeInfo) (z : Value) (bytes base : Nat) (ht : P.underlying t = some (.slice e)) (hi : P.info? e = some i) (hz : i.zero = some z)
    (hsize : i.size = 1) (hby : i.bytes = bytes) (hzs : z.cells.size = 1) (g n cap : Nat) (xs : List Value) (hown : w.ownsRow base e 1 (.slice (some ⟨g, 0, none⟩) n cap) n xs)
    (gA c : Nat) (u : Value) (hnews : w.cell? ⟨gA, 0, none⟩ = some u) (h1 : u.oneCell' = true) (h63 : n + 1 ≤ maxLen) (hbytes : (n + 1) * bytes ≤ 140737488355328) (hbase : base ≤ w.heap.size) :
    ∃ g' cap' w', (Builtin.append_ #[t, t] ty #[.slice (some ⟨g, 0, none⟩) n cap, .slice (some ⟨gA, 0, none⟩) 1 c]).run P w = .ok (.slice (some ⟨g', 0, none⟩) (n + 1) cap') w' ∧ w'.ownsRow base e 1 (.slice (some ⟨g', 0, none⟩) (n + 1) cap') (n + 1) (xs ++ [u]) ∧ w.grownBy w' (some g) ∧ (g' = g ∨ g' = w.heap.size) ∧ ∀ j x, xs[j]? = some x → w'.cell? ⟨g, j, none⟩ = some x := by
  have hn' : ∀ (j : Nat) (v : Value), [u][j]? = some v → w.cell? ((⟨gA, 0, none⟩ : Addr).add j) = some v := fun j v hj => by
    cases j with
    | zero => simp at hj; subst hj; rw [Addr.add_mid]; exact hnews
    | succ j => simp at hj
  obtain ⟨g', cap', w', hr, h2, h3, h4, h5⟩ := run_append_lies (P := P) w t ty base e i z 1 bytes ht hi hz hsize hby hzs (by omega) (.slice (some ⟨g, 0, none⟩) n cap) n xs hown ⟨gA, 0, none⟩ 1 c [u] rfl hn' (by simpa using h1) (by omega) h63 hbytes hbase w.heap.size rfl
  refine ⟨g', cap', w', hr, h2, h3, h4.imp (fun e => by injection e with e; exact e.symm) id, fun j x hj => ?_⟩
  rcases hown.2 with ⟨e1, _⟩ | ⟨g1, cap1, cur, e1, hbg, hg, hnc, hcm, hcs, htake⟩
  · cases e1
  · injection e1 with e2 _ e3
    injection e2 with e2
    injection e2 with e2 _ _
    subst e2 e3
    by_cases hroom : n + 1 ≤ cap
    · have hr2 := run_append_room (P := P) w t ty e i ht hi g n cap cur hg ⟨gA, 0, none⟩ 1 c [u] (by rw [hsize]; rfl) hn' (by simpa using h1) hroom (by rw [hsize]; simp at hcs ⊢; omega)
      rw [hr2] at hr
      injection hr with hr _
      injection hr with hr _ _
      injection hr with hr
      injection hr with hr _ _
      subst hr
      have := h2.cells (g := g) rfl j x (by rw [List.getElem?_append_left (List.getElem?_eq_some_iff.1 hj).1]; exact hj)
      rwa [Addr.add_mid, Nat.zero_add] at this
    · have holds : ∀ j u, xs[j]? = some u → w.cell? ((⟨g, 0, none⟩ : Addr).add j) = some u := hown.cells (g := g) rfl
      have hr2 := run_append_grow (P := P) w t ty e i z ht hi hz ⟨g, 0, none⟩ n cap xs (by rw [hsize]; exact hown.1) holds ⟨gA, 0, none⟩ 1 c [u] (by rw [hsize]; rfl) hn' (by omega) (by unfold maxLen at h63; omega) (growslice_fits (by omega) (by rw [hby]; exact hbytes))
      rw [hr2] at hr
      injection hr with _ hr
      subst hr
      refine (World.cell?_of_block (Below.heap_alloc w.drew _ g (Array.getElem?_eq_some_iff.1 hg).1)).trans ?_
      have := holds j x hj
      rwa [Addr.add_mid, Nat.zero_add] at this
theorem Try.app_rv {w : World} {lo n cap : Nat} {ad : Option Addr} {xs : List Value} (h : w.ownsRow lo 22 1 (.slice ad n cap) n xs) (hlo : lo ≤ w.heap.size) (hn : n < 1000000) (u : Value) (hu : u.oneCell' = true) (g0 : Nat) (hnb : w.heap[g0]? = some (.cells #[u] 22 (0, 0))) :
    ∃ g c w1, (Builtin.append_ #[23, 23] 23 #[.slice ad n cap, .slice (some ⟨g0, 0, none⟩) 1 1]).run Try.prog w = .ok (.slice (some ⟨g, 0, none⟩) (n + 1) c) w1 ∧ w1.cell? ⟨g, n, none⟩ = some u ∧ (lo ≤ g ∧ g < w1.heap.size) ∧ ((Value.slice ad n cap).ownBlock = some g ∨ w.heap.size ≤ g) ∧ (∀ j x, xs[j]? = some x → ∀ k, ad = some ⟨k, 0, none⟩ → w1.cell? ⟨k, j, none⟩ = some x) ∧ Dk.Wo (fun k => (Value.slice ad n cap).ownBlock = some k) w w1 := by
  obtain ⟨i0, hi0, hz0, hz1, hz2⟩ := info_parts Try.info_bytes
  have hc : w.cell? ⟨g0, 0, none⟩ = some u := cell_of_row _ _ 0 _ _ _ hnb
  have fin : ∀ {g c w1} {row : Option Nat}, w1.ownsRow lo 22 1 (.slice (some ⟨g, 0, none⟩) (n + 1) c) (n + 1) (xs ++ [u]) → w.grownBy w1 row → row = (Value.slice ad n cap).ownBlock → w1.cell? ⟨g, n, none⟩ = some u ∧ (lo ≤ g ∧ g < w1.heap.size) ∧ Dk.Wo (fun k => (Value.slice ad n cap).ownBlock = some k) w w1 := by
    intro g c w1 row h2 h3 h4
    have hxl : xs.length = n := by have := h.1; omega
    refine ⟨?_, h2.lt g rfl, ⟨h3.os, h3.tape, h3.output, h3.size, fun k hk hne => h3.block k hk fun e => hne (by rw [← h4]; exact e.symm)⟩⟩
    have := h2.cells (g := g) rfl n u (by rw [List.getElem?_append_right (by omega), hxl]; simp)
    rwa [Addr.add_mid, Nat.zero_add] at this
  rcases h.2 with ⟨e1, e2⟩ | ⟨g1, cap1, cur, e1, -⟩
  · cases e1
    have hx : xs = [] := List.eq_nil_of_length_eq_zero (by have := h.1; omega)
    subst hx
    obtain ⟨g', cap', w', hr, h2, h3, h5, -⟩ := run_append_lies (P := Try.prog) w 23 23 lo 22 i0 _ 1 24 Try.underlying23 hi0 hz0 hz1 hz2 rfl (by omega) (.slice none 0 0) 0 [] (World.ownsRow_nil _ _ _ _) ⟨g0, 0, none⟩ 1 1 [u] rfl (World.news_of_block (cs := #[u]) hnb) (by simpa using hu) (by omega) (by unfold maxLen; omega) (by omega) hlo w.heap.size rfl
    obtain ⟨k1, k2, k3⟩ := fin h2 h3 rfl
    exact ⟨g', cap', w', hr, k1, k2, .inr (by rcases h5 with e | e; cases e; omega), fun j x hj => absurd hj (by simp), k3⟩
  · cases e1
    obtain ⟨g', cap', w', hr, h2, h3, h5, h4⟩ := Dk.app_keep (P := Try.prog) w 23 23 22 i0 _ 24 lo Try.underlying23 hi0 hz0 hz1 hz2 rfl g1 n cap xs h g0 1 u hc hu (by unfold maxLen; omega) (by omega) hlo
    obtain ⟨k1, k2, k3⟩ := fin h2 h3 rfl
    exact ⟨g', cap', w', hr, k1, k2, h5.imp (fun e => by rw [e]; rfl) (fun e => by omega), fun j x hj k e => by cases e; exact h4 j x hj, k3⟩
/-- What is known of one gift. -/
structure Dk.GD where
  lo : Nat
  hi : Nat
  b : Nat
  p : Nat
  cap : Nat
  ad : Option Addr
  recs : List (List UInt8)
structure Try.Gd (w : World) (D : Dk.GD) (R : List UInt8) (f : Bool) : Prop where
  gc : Try.Gc w D.lo D.hi D.b R D.p D.recs D.ad
  row : f = true → w.ownsRow D.lo 22 1 (.slice D.ad D.recs.length D.cap) D.recs.length (Dk.recCs D.b D.p D.recs) ∧ ∀ k, (Value.slice D.ad D.recs.length D.cap).ownBlock = some k → k < D.hi
theorem Try.Gd.keep {w w' : World} {D : Dk.GD} {R : List UInt8} {f : Bool} (h : Try.Gd w D R f) (hk : ∀ k, D.lo ≤ k → k < D.hi → w'.heap[k]? = w.heap[k]?) : Try.Gd w' D R f :=
  ⟨h.gc.keep hk, fun e => ⟨Dk.row_heap (h.row e).1 fun k e1 => hk k ((h.row e).1.lt k e1).1 ((h.row e).2 k e1), (h.row e).2⟩⟩
/-- Four of them, one behind the other; below M all is as it was. -/
structure Try.G4 (M : Nat) (W w : World) (A C H N : Dk.GD) (RA RC RH RN : List UInt8) (f g f3 : Bool) : Prop where
  bel : Below M W w
  a : Try.Gd w A RA f
  c : Try.Gd w C RC false
  h : Try.Gd w H RH g
  n : Try.Gd w N RN f3
  le : M ≤ A.lo ∧ A.hi ≤ C.lo ∧ C.hi ≤ H.lo ∧ H.hi ≤ N.lo ∧ N.hi ≤ w.heap.size
section
variable {M : Nat} {W w w' : World} {A C H N : Dk.GD} {RA RC RH RN R' : List UInt8} {f g h f' : Bool}
theorem Try.G4.ord (q : Try.G4 M W w A C H N RA RC RH RN f g h) : A.lo < A.hi ∧ C.lo < C.hi ∧ H.lo < H.hi ∧ N.lo < N.hi := by
  have h1 := q.a.gc.b0; have h2 := q.a.gc.b1
  have h3 := q.c.gc.b0; have h4 := q.c.gc.b1
  have h5 := q.h.gc.b0; have h6 := q.h.gc.b1
  have h7 := q.n.gc.b0; have h8 := q.n.gc.b1
  omega
theorem Try.G4.sz (q : Try.G4 M W w A C H N RA RC RH RN f g h) : A.hi ≤ w.heap.size ∧ C.hi ≤ w.heap.size ∧ H.hi ≤ w.heap.size ∧ N.hi ≤ w.heap.size ∧ M ≤ w.heap.size := by
  have h1 := q.le; have h2 := q.ord
  omega
theorem Try.G4.below (q : Try.G4 M W w A C H N RA RC RH RN f g h) (hb : Below w.heap.size w w') : Try.G4 M W w' A C H N RA RC RH RN f g h := by
  have hs := q.sz
  exact ⟨q.bel.trans (hb.mono (by omega)), q.a.keep fun k _ hk => hb.block k (by omega), q.c.keep fun k _ hk => hb.block k (by omega), q.h.keep fun k _ hk => hb.block k (by omega), q.n.keep fun k _ hk => hb.block k (by omega), by have := q.le; have := hb.size; omega⟩
theorem Try.G4.turnA (q : Try.G4 M W w A C H N RA RC RH RN f g h) (hw : Dk.Wo (fun k => A.lo ≤ k ∧ k < A.hi) w w') (hn : Try.Gd w' A R' f') : Try.G4 M W w' A C H N R' RC RH RN f' g h := by
  have hs := q.sz; have ho := q.ord; have hl := q.le
  exact ⟨q.bel.trans (hw.bel (fun k e => by omega) (by omega)), hn, q.c.keep fun k h1 hk => hw.block k (by omega) (by omega), q.h.keep fun k h1 hk => hw.block k (by omega) (by omega), q.n.keep fun k h1 hk => hw.block k (by omega) (by omega), by have := hw.size; omega⟩
theorem Try.G4.turnC (q : Try.G4 M W w A C H N RA RC RH RN f g h) (hw : Dk.Wo (fun k => C.lo ≤ k ∧ k < C.hi) w w') (hn : Try.Gd w' C R' false) : Try.G4 M W w' A C H N RA R' RH RN f g h := by
  have hs := q.sz; have ho := q.ord; have hl := q.le
  exact ⟨q.bel.trans (hw.bel (fun k e => by omega) (by omega)), q.a.keep fun k h1 hk => hw.block k (by omega) (by omega), hn, q.h.keep fun k h1 hk => hw.block k (by omega) (by omega), q.n.keep fun k h1 hk => hw.block k (by omega) (by omega), by have := hw.size; omega⟩
theorem Try.G4.turnH (q : Try.G4 M W w A C H N RA RC RH RN f g h) (hw : Dk.Wo (fun k => H.lo ≤ k ∧ k < H.hi) w w') (hn : Try.Gd w' H R' f') : Try.G4 M W w' A C H N RA RC R' RN f f' h := by
  have hs := q.sz; have ho := q.ord; have hl := q.le
  exact ⟨q.bel.trans (hw.bel (fun k e => by omega) (by omega)), q.a.keep fun k h1 hk => hw.block k (by omega) (by omega), q.c.keep fun k h1 hk => hw.block k (by omega) (by omega), hn, q.n.keep fun k h1 hk => hw.block k (by omega) (by omega), by have := hw.size; omega⟩
theorem Try.G4.turnN (q : Try.G4 M W w A C H N RA RC RH RN f g h) (hw : Dk.Wo (fun k => N.lo ≤ k ∧ k < N.hi) w w') (hn : Try.Gd w' N R' f') : Try.G4 M W w' A C H N RA RC RH R' f g f' := by
  have hs := q.sz; have ho := q.ord; have hl := q.le
  exact ⟨q.bel.trans (hw.bel (fun k e => by omega) (by omega)), q.a.keep fun k h1 hk => hw.block k (by omega) (by omega), q.c.keep fun k h1 hk => hw.block k (by omega) (by omega), q.h.keep fun k h1 hk => hw.block k (by omega) (by omega), hn, by have := hw.size; omega⟩
end
/-- owned, of one gift. -/
theorem Try.Gd.owned {w : World} {lo hi b p cap : Nat} {R : List UInt8} {recs : List (List UInt8)} {ad : Option Addr} {f : Bool} (m : UInt8) (z : Int) (hz : z = ((m.toNat : Nat) : Int)) (h : Try.Gd w ⟨lo, hi, b, p, cap, ad, recs⟩ R f) (hhi : hi ≤ w.heap.size) :
    Calls Try.prog 7 #[.slice (some ⟨b, 0, none⟩) p p, .slice ad recs.length cap, .int .u8 z] w fun r w' => (∃ v, r = .returned v) ∧ ∃ R', Try.Gd w' ⟨lo, hi, b, p, cap, ad, recs⟩ R' f ∧ Paint R' p recs m ∧ Dk.Wo (fun k => lo ≤ k ∧ k < hi) w w' := by
  refine (Try.owned_any m z hz h.gc hhi).mono ?_
  rintro r w' ⟨hr, R', hG, hP, hw⟩
  have hb0 : lo ≤ b := h.gc.b0
  have hb1 : b < hi := h.gc.b1
  refine ⟨hr, R', ⟨hG, fun e => ⟨?_, (h.row e).2⟩⟩, hP, hw.mono fun k e => by subst e; exact ⟨hb0, hb1⟩⟩
  refine Dk.row_heap (h.row e).1 fun k e1 => hw.block k (by have := (h.row e).2 k e1; simp only at this; omega) fun e2 => ?_
  subst e2
  rcases (h.row e).1.2 with ⟨e3, _⟩ | ⟨g', cap', cur, e3, _, e4, _⟩
  · rw [e3] at e1; cases e1
  · rw [e3] at e1
    injection e1 with e1
    simp at e1
    subst e1
    have := h.gc.blk
    simp only at this
    rw [this] at e4
    injection e4 with e4
    injection e4 with _ e5 _
    exact absurd e5 (by decide)
/-- 'append' to the slices of one gift. -/
theorem Try.Gd.app {w : World} {lo hi b p cap : Nat} {R : List UInt8} {recs : List (List UInt8)} {ad : Option Addr} (h : Try.Gd w ⟨lo, hi, b, p, cap, ad, recs⟩ R true) (hhi : hi ≤ w.heap.size) (u : Value) (hu : u.oneCell' = true) (g0 : Nat) (hnb : w.heap[g0]? = some (.cells #[u] 22 (0, 0))) :
    ∃ g c w1, (Builtin.append_ #[23, 23] 23 #[.slice ad recs.length cap, .slice (some ⟨g0, 0, none⟩) 1 1]).run Try.prog w = .ok (.slice (some ⟨g, 0, none⟩) (recs.length + 1) c) w1 ∧ w1.cell? ⟨g, recs.length, none⟩ = some u ∧ (lo ≤ g ∧ g < w1.heap.size ∧ (g < hi ∨ w.heap.size ≤ g)) ∧ Try.Gd w1 ⟨lo, hi, b, p, cap, ad, recs⟩ R false ∧ Dk.Wo (fun k => lo ≤ k ∧ k < hi) w w1 := by
  have hG := h.gc
  simp only at hG
  obtain ⟨h1, h2⟩ := h.row rfl
  simp only at h1 h2
  have hb0 := hG.b0; have hb1 := hG.b1
  obtain ⟨g, c, w1, hr, hc, hg, hgg, hk, hw⟩ := Try.app_rv h1 (by omega) hG.few u hu g0 hnb
  have hne : ∀ k, (Value.slice ad recs.length cap).ownBlock = some k → k ≠ b := fun k e1 e2 => by
    subst e2
    rcases h1.2 with ⟨e3, _⟩ | ⟨g', cap', cur, e3, _, e4, _⟩
    · rw [e3] at e1; cases e1
    · rw [e3] at e1
      injection e1 with e1
      simp at e1
      subst e1
      rw [hG.blk] at e4
      injection e4 with e4
      injection e4 with _ e5 _
      exact absurd e5 (by decide)
  refine ⟨g, c, w1, hr, hc, ⟨hg.1, hg.2, hgg.imp (fun e => h2 g e) id⟩, ⟨⟨(hw.block b (by omega) fun e => hne b e rfl).trans hG.blk, hG.b0, hG.b1, fun i d hd => ?_, hG.fit, hG.p1, hG.sm, hG.few⟩, fun e => by cases e⟩, hw.mono fun k e => ⟨(h1.lt k e).1, h2 k e⟩⟩
  obtain ⟨k, k1, k2, k3, k4, k5⟩ := hG.cs i d hd
  exact ⟨k, k1, k2, k3, k4, hk i _ (recCs_get b recs _ i d hd) k k1⟩
/-- A disk that was filled, and its state in a box. -/
structure Try.Dt (W : World) (x bt : Nat) (ad : Option Addr) (cap : Nat) (snap : List UInt8) (recs : List (List UInt8)) : Prop where
  ex : ∃ own s g a q, Try.Dsk W own x s ∧ Holds s g a snap recs ∧ s.Can q
  bx : W.heap[bt]? = some (.cells #[.string ⟨snap.toArray⟩, .slice ad recs.length cap] 27 (0, 0))
  st : Try.Sta W (fun _ => True) (.agg #[.string ⟨snap.toArray⟩, .slice ad recs.length cap]) snap recs
theorem Try.Dt.below {W w : World} {x bt cap : Nat} {ad : Option Addr} {snap : List UInt8} {recs : List (List UInt8)} (h : Try.Dt W x bt ad cap snap recs) (hb : Below W.heap.size W w) : Try.Dt w x bt ad cap snap recs := by
  obtain ⟨own, s, g, a, q, h1, h2, h3⟩ := h.ex
  exact ⟨⟨own, s, g, a, q, h1.below hb, h2, h3⟩, (hb.block _ (Dk.block_lt h.bx)).trans h.bx, h.st.below hb⟩
theorem Try.Fd.box {w w1 : World} {x cap : Nat} {ad : Option Addr} {snap : List UInt8} {recs : List (List UInt8)} (h : Try.Fd w w1 x (.agg #[.string ⟨snap.toArray⟩, .slice ad recs.length cap]) snap recs) : Try.Dt (w1.alloc (.cells #[.string ⟨snap.toArray⟩, .slice ad recs.length cap] 27)) x w1.heap.size ad cap snap recs := by
  have hb : Below w1.heap.size w1 (w1.alloc (.cells #[.string ⟨snap.toArray⟩, .slice ad recs.length cap] 27)) := (Below.refl _ w1).alloc (Nat.le_refl _) _
  obtain ⟨own, s, g, a, q, h1, h2, h3⟩ := h.ex
  exact ⟨⟨own, s, g, a, q, h1.below hb, h2, h3⟩, heap_alloc_new w1 _, (h.st.below hb).mono fun k _ _ => ⟨rfl, trivial⟩⟩
/-- One that was appended: it lies outside of the blocks from lo to hi. -/
structure Dk.Xk (w : World) (lo hi gx n bx : Nat) (c : UInt8) : Prop where
  cl : w.cell? ⟨gx, n, none⟩ = some (.slice (some ⟨bx, 0, none⟩) 1 1)
  bk : w.heap[bx]? = some (.cells (Lib.byteCells [c]).toArray 5 (1, 2))
  g1 : gx < w.heap.size
  go : gx < lo ∨ hi ≤ gx
  bo : bx < lo ∨ hi ≤ bx
theorem Dk.Xk.keep {w w' : World} {own : Nat → Prop} {lo hi lo' hi' gx n bx : Nat} {c : UInt8} (h : Dk.Xk w lo hi gx n bx c) (hw : Dk.Wo own w w') (ho : ∀ k, own k → lo ≤ k ∧ k < hi) (hl : lo ≤ lo' ∧ hi' ≤ hi) : Dk.Xk w' lo' hi' gx n bx c :=
  have h1 := h.go
  have h2 := h.bo
  ⟨(World.cell?_of_block (a := ⟨gx, n, none⟩) (hw.block gx h.g1 fun e => by have := ho _ e; omega)).trans h.cl, (hw.block bx (Dk.block_lt h.bk) fun e => by have := ho _ e; omega).trans h.bk, Nat.lt_of_lt_of_le h.g1 hw.size, by omega, by omega⟩
theorem Try.Xk.conv {w : World} {lo hi gx n bx : Nat} {c : UInt8} (h : Dk.Xk w lo hi gx n bx c) : (convert 22 9 (.slice (some ⟨bx, 0, none⟩) 1 1)).run Try.prog w = .ok (.string ⟨#[c]⟩) w := Try.conv_src (Dk.src_row h.bk 1)
end Go.Proofs
