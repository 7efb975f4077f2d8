/-
  DiskFails: what its loops keep.
-/
import Derived.Test.YtjidghhgoofhlaaDp
namespace Go.Proofs
open Go.RowKit Go.Dk
theorem Dk.take_one {l : List Pt} {k : Nat} {p : Pt} (h : l[k]? = some p) : l.take (k + 1) = l.take k ++ [p] := by
  rw [List.take_add_one, h]; rfl
/-- A disk behind puts may be written and synced. -/
structure Dk.Fit (s : DS) : Prop where
  n : s.n = 8
  dead : s.dead = false
  fset : s.fset = false
  fl : s.fl = 0
  falls : s.falls = 0
  W : s.W.length < 1000000
  wrote : s.wrote < 1000000000
  synced : s.synced < 1000000000
theorem Dk.fit_run (l : List Pt) (h : l.length ≤ 40) : Dk.Fit (runD Dk.ds8 l) := by
  obtain ⟨y, hy, e⟩ := runD_eq l
  have h1 := ws_len l
  have h2 := ws_len (l.drop (lastOf l))
  rw [List.length_drop] at h2
  rw [e]
  exact ⟨rfl, rfl, rfl, rfl, rfl, by simp only; omega, by simp only; omega, by simp only; omega⟩
theorem Dk.fit_ofW (W : List Wr) (h : W.length ≤ 1000) : Dk.Fit (ofW W) :=
  ⟨rfl, rfl, rfl, rfl, rfl, by show W.length < 1000000; omega, by show 2 + W.length < 1000000000; omega, by show 1 < 1000000000; omega⟩
/-- What the first loop leaves. -/
structure Try.L1 (B : Nat) (w0 wr : World) (a b : Nat) (l : List Pt) (k : Nat) : Prop where
  two : Try.Two B w0 wr a b (runD Dk.ds8 (l.take k)) Dk.ds8
theorem Try.L1.sync {B : Nat} {w0 wr : World} {a b : Nat} {l : List Pt} {k : Nat} {p : Pt} (h : Try.L1 B w0 wr a b l k) (hl : l.length ≤ 40) (hp : l[k]? = some p) (hs : p.S = true) :
    Calls Try.prog 8 #[.pointer (some ⟨a, 0, none⟩)] wr fun e w' => e = .returned (.int .i64 0) ∧ Try.L1 B w0 w' a b l (k + 1) := by
  have hf := Dk.fit_run (l.take k) (by rw [List.length_take]; omega)
  refine (h.two.sync hf.dead (.inl hf.fset) hf.synced).mono fun e w' ⟨r1, r2⟩ => ⟨r1, ⟨?_⟩⟩
  rw [Dk.take_one hp, runD_one, stepD, if_pos hs]; exact r2
theorem Try.L1.write {B : Nat} {w0 wr W : World} {a b : Nat} {l : List Pt} {k : Nat} {p : Pt} (h : Try.L1 B w0 wr a b l k) (hb : Below wr.heap.size wr W) (hl : l.length ≤ 40) (hp : l[k]? = some p) (hs : p.S = false) (v : Value) (hv : Dk.Src W v (Dk.bytesOf p.N p.C)) :
    Calls Try.prog 9 #[.pointer (some ⟨a, 0, none⟩), .int .i64 (Dk.pickN p.I 8), v] W fun e w' => e = .returned (.int .i64 0) ∧ Try.L1 B w0 w' a b l (k + 1) := by
  have hf := Dk.fit_run (l.take k) (by rw [List.length_take]; omega)
  refine ((h.two.below hb).write hf.dead hf.W (.inl hf.fset) hf.wrote (by rw [hf.fl]; omega) (by rw [hf.fl]; omega) _ (by rw [hf.n]; exact Dk.pickN_lt _ (by omega)) _ (Dk.bytesOf_len _ _) v hv).mono fun e w' ⟨r1, r2⟩ => ⟨r1, ⟨?_⟩⟩
  rw [Dk.take_one hp, runD_one, stepD, if_neg (by simp [hs])]; exact r2
/-- The end: two disks that read alike. -/
structure Try.Fin (B : Nat) (w0 wr : World) (a b : Nat) (sa sb : DS) : Prop where
  two : Try.Two B w0 wr a b sa sb
  na : sa.n = 8
  nb : sb.n = 8
  da : sa.dead = false
  db : sb.dead = false
  view : sb.view = sa.view
theorem Try.Fin.sync {B : Nat} {w0 wr : World} {a b : Nat} {sa sb : DS} (h : Try.Fin B w0 wr a b sa sb) (hf : sb.fset = false) (hy : sb.synced < 1000000000) :
    Calls Try.prog 8 #[.pointer (some ⟨b, 0, none⟩)] wr fun e w' => e = .returned (.int .i64 0) ∧ Try.Fin B w0 w' a b sa sb.sync :=
  (h.two.symm.sync h.db (.inl hf) hy).mono fun _ _ ⟨r1, r2⟩ => ⟨r1, r2.symm, h.na, h.nb, h.da, h.db, h.view⟩
theorem Try.Fin.wholeA {B : Nat} {w0 wr : World} {a b : Nat} {sa sb : DS} (h : Try.Fin B w0 wr a b sa sb) :
    Calls Try.prog 16 #[.pointer (some ⟨a, 0, none⟩)] wr fun e w' => e = .returned (.tuple #[.string ⟨sa.view.toArray⟩, .bool true]) ∧ Try.Fin B w0 w' a b sa sb :=
  (Try.whole_any h.two.rdb h.da h.na).mono fun _ _ ⟨r1, r2⟩ => ⟨r1, h.two.below r2, h.na, h.nb, h.da, h.db, h.view⟩
theorem Try.Fin.wholeB {B : Nat} {w0 wr : World} {a b : Nat} {sa sb : DS} (h : Try.Fin B w0 wr a b sa sb) :
    Calls Try.prog 16 #[.pointer (some ⟨b, 0, none⟩)] wr fun e w' => e = .returned (.tuple #[.string ⟨sa.view.toArray⟩, .bool true]) ∧ Try.Fin B w0 w' a b sa sb :=
  (Try.whole_any h.two.symm.rdb h.db h.nb).mono fun _ _ ⟨r1, r2⟩ => ⟨by rw [← h.view]; exact r1, h.two.below r2, h.na, h.nb, h.da, h.db, h.view⟩
/-- The disk behind the crash. -/
def Dk.crashed (q : List Pt) (K T : Int) : DS := ((runD Dk.ds8 q).fail K T).restart
theorem Dk.crashed_view (q : List Pt) (K T : Int) : (Dk.crashed q K T).view = failL (sink nul (ws (q.take (lastOf q)))) (ws (q.drop (lastOf q))) K T := by
  obtain ⟨y, hy, e⟩ := runD_eq q
  rw [Dk.crashed, e]; rfl
theorem Dk.crashed_n (q : List Pt) (K T : Int) : (Dk.crashed q K T).n = 8 := by
  obtain ⟨y, hy, e⟩ := runD_eq q
  rw [Dk.crashed, e]; rfl
/-- What the second loop leaves. -/
structure Try.L2 (B : Nat) (w0 wr : World) (a b : Nat) (q : List Pt) (K T : Int) (k kp : Nat) : Prop where
  two : Try.Two B w0 wr a b (Dk.crashed q K T) (ofW (ws (q.take k)))
  keq : kp = (ws ((q.take k).drop (lastOf q))).length
  le : kp ≤ K.toNat
theorem Dk.drop_take_one {q : List Pt} {k : Nat} {p : Pt} (hp : q[k]? = some p) (m : Nat) : (q.take (k + 1)).drop m = if m ≤ k then (q.take k).drop m ++ [p] else [] := by
  have hlt := (List.getElem?_eq_some_iff.1 hp).1
  rw [Dk.take_one hp]
  split
  · rw [List.drop_append_of_le_length (by rw [List.length_take]; omega)]
  · rw [List.drop_of_length_le]
    rw [List.length_append, List.length_take, List.length_cons, List.length_nil]; omega
theorem Dk.drop_take_lo {q : List Pt} {k m : Nat} (h : ¬ m ≤ k) : (q.take k).drop m = [] := by
  rw [List.drop_of_length_le]; rw [List.length_take]; omega
theorem Try.L2.skip {B : Nat} {w0 wr : World} {a b : Nat} {q : List Pt} {K T : Int} {k kp : Nat} {p : Pt} (h : Try.L2 B w0 wr a b q K T k kp) (hp : q[k]? = some p) (hs : p.S = true) : Try.L2 B w0 wr a b q K T (k + 1) kp := by
  refine ⟨?_, ?_, h.le⟩
  · rw [Dk.take_one hp, ws_append, ws_sync p hs, List.append_nil]; exact h.two
  · rw [Dk.drop_take_one hp]
    split
    · rw [ws_append, ws_sync p hs, List.append_nil]; exact h.keq
    · rw [h.keq, Dk.drop_take_lo (by assumption)]
theorem Try.L2.len {B : Nat} {w0 wr : World} {a b : Nat} {q : List Pt} {K T : Int} {k kp : Nat} (_h : Try.L2 B w0 wr a b q K T k kp) (hl : q.length ≤ 40) : (ws (q.take k)).length ≤ 40 := by
  have := ws_len (q.take k)
  rw [List.length_take] at this
  omega
theorem Try.L2.write {B : Nat} {w0 wr W : World} {a b : Nat} {q : List Pt} {K T : Int} {k kp : Nat} {p : Pt} (h : Try.L2 B w0 wr a b q K T k kp) (hb : Below wr.heap.size wr W) (hl : q.length ≤ 40) (hp : q[k]? = some p) (hs : p.S = false) (hc : k < lastOf q ∨ (kp : Int) < K) (v : Value) (hv : Dk.Src W v (Dk.bytesOf p.N p.C)) :
    Calls Try.prog 9 #[.pointer (some ⟨b, 0, none⟩), .int .i64 (Dk.pickN p.I 8), v] W fun e w' => e = .returned (.int .i64 0) ∧ Try.L2 B w0 w' a b q K T (k + 1) (if lastOf q ≤ k then kp + 1 else kp) := by
  have hf := Dk.fit_ofW (ws (q.take k)) (by have := h.len hl; omega)
  refine ((h.two.below hb).symm.write hf.dead hf.W (.inl hf.fset) hf.wrote (by rw [hf.fl]; omega) (by rw [hf.fl]; omega) _ (by rw [hf.n]; exact Dk.pickN_lt _ (by omega)) _ (Dk.bytesOf_len _ _) v hv).mono fun e w' ⟨r1, r2⟩ => ⟨r1, ?_, ?_, ?_⟩
  · rw [ofW_put] at r2
    rw [Dk.take_one hp, ws_append, ws_one p hs]; exact r2.symm
  · rw [Dk.drop_take_one hp]
    split
    · rw [ws_append, ws_one p hs, List.length_append, ← h.keq]; rfl
    · rw [h.keq, Dk.drop_take_lo (by assumption)]
  · have := h.le
    split <;> omega
theorem Try.L2.read {B : Nat} {w0 wr W : World} {a b : Nat} {q : List Pt} {K T : Int} {k kp : Nat} {p : Pt} (h : Try.L2 B w0 wr a b q K T k kp) (hb : Below wr.heap.size wr W) :
    Calls Try.prog 13 #[.pointer (some ⟨b, 0, none⟩), .int .i64 (Dk.pickN p.I 8)] W fun e w' => e = .returned (.tuple #[.slice (some ⟨W.heap.size, 0, none⟩) 64 64, .int .i64 0]) ∧ w'.heap[W.heap.size]? = some (.cells (Lib.byteCells (blk (sink nul (ws (q.take k))) (wrp p).1)).toArray 5 (0, 0)) ∧ Below W.heap.size W w' :=
  (h.two.below hb).symm.read rfl _ (Dk.pickN_lt _ (by omega))
/-- The torn one, and the end. -/
theorem Try.L2.torn {B : Nat} {w0 wr W : World} {a b : Nat} {q : List Pt} {K T : Int} {k kp : Nat} {p : Pt} (h : Try.L2 B w0 wr a b q K T k kp) (hb : Below wr.heap.size wr W) (hl : q.length ≤ 40) (hp : q[k]? = some p) (hs : p.S = false) (hc : ¬ (k < lastOf q ∨ (kp : Int) < K)) (v : Value)
    (hv : Dk.Src W v ((wrp p).2.take (tornN T) ++ (blk (sink nul (ws (q.take k))) (wrp p).1).drop (tornN T))) :
    Calls Try.prog 9 #[.pointer (some ⟨b, 0, none⟩), .int .i64 (Dk.pickN p.I 8), v] W fun e w' => e = .returned (.int .i64 0) ∧ ∃ W', Try.Fin B w0 w' a b (Dk.crashed q K T) (ofW W') := by
  have hf := Dk.fit_ofW (ws (q.take k)) (by have := h.len hl; omega)
  have hlen : (sink nul (ws (q.take k))).length = 64 * 8 := sink_length (n := 8) _ _ (by rw [nul, List.length_replicate]) (ws_good _)
  have hbl : (blk (sink nul (ws (q.take k))) (wrp p).1).length = 64 := blk_length hlen (wrp_good p).1
  have htl : tornN T ≤ 64 := Nat.min_le_right _ _
  have hwl := (wrp_good p).2
  have h64 : ((wrp p).2.take (tornN T) ++ (blk (sink nul (ws (q.take k))) (wrp p).1).drop (tornN T)).length = 64 := by
    rw [List.length_append, List.length_take, List.length_drop, hbl, hwl]; omega
  refine ((h.two.below hb).symm.write hf.dead hf.W (.inl hf.fset) hf.wrote (by rw [hf.fl]; omega) (by rw [hf.fl]; omega) _ (by rw [hf.n]; exact Dk.pickN_lt _ (by omega)) _ (by rw [h64]; exact Nat.le_refl _) v hv).mono fun e w' ⟨r1, r2⟩ => ⟨r1, _, by rw [ofW_put] at r2; exact r2.symm, Dk.crashed_n _ _ _, rfl, rfl, rfl, ?_⟩
  have hkp := h.keq
  have hle := h.le
  rw [Dk.crashed_view, fails_torn q K T k p hp hs (by omega) (by omega), ofW_view, sink_one]
  congr 1
  unfold pad
  rw [h64]
  simp
/-- All went by. -/
theorem Try.L2.all {B : Nat} {w0 wr : World} {a b : Nat} {q : List Pt} {K T : Int} {kp : Nat} (h : Try.L2 B w0 wr a b q K T q.length kp) : Try.Fin B w0 wr a b (Dk.crashed q K T) (ofW (ws q)) := by
  have h1 := h.two
  have h2 := h.keq
  rw [List.take_length] at h1 h2
  exact ⟨h1, Dk.crashed_n _ _ _, rfl, rfl, rfl, by rw [Dk.crashed_view, fails_all q K T (by have := h.le; omega)]; rfl⟩
/-- Bytes that lie whole in a block. -/
theorem Dk.src_whole {W : World} {g : Nat} {m : List UInt8} {T : TypeId} {fr : Nat × Nat} (h : W.heap[g]? = some (.cells (Lib.byteCells m).toArray T fr)) (hm : m.length = 64) : Dk.Src W (.slice (some ⟨g, 0, none⟩) 64 64) m :=
  ⟨_, 64, by rw [hm], .inr ⟨g, 0, rfl, Dk.block_lt h, fun j u hj => by
    rw [Nat.zero_add, cell_of_row _ _ _ _ _ _ h]; simpa using hj⟩⟩
theorem Dk.was_cell {W : World} {g i : Nat} {A X : List UInt8} {T : TypeId} (h : W.heap[g]? = some (.cells (Lib.byteCells (A.take i ++ X.drop i)).toArray T (0, 0))) (hA : A.length = 64) (hX : X.length = 64) (hi : i < 64) :
    (∃ u, W.cell? ⟨g, i, none⟩ = some u) ∧ W.frozen? ⟨g, i, none⟩ = false := by
  have hl : i < (Lib.byteCells (A.take i ++ X.drop i)).length := by rw [Dk.byteCells_len, List.length_append, List.length_take, List.length_drop]; omega
  exact ⟨⟨(Lib.byteCells (A.take i ++ X.drop i))[i], by rw [cell_of_row _ _ _ _ _ _ h, List.getElem?_toArray, List.getElem?_eq_getElem hl]⟩, frozen_of_row _ _ _ _ _ h⟩
theorem Dk.set_mid {A X : List UInt8} {i : Nat} (hA : A.length = 64) (hX : X.length = 64) (hi : i < 64) (u : UInt8) (hu : A[i]? = some u) : (A.take i ++ X.drop i).set i u = A.take (i + 1) ++ X.drop (i + 1) := by
  apply List.ext_getElem?
  intro j
  have h1 : (A.take i).length = i := by rw [List.length_take]; omega
  have h2 : (A.take (i + 1)).length = i + 1 := by rw [List.length_take]; omega
  rw [List.getElem?_set, List.getElem?_append, List.getElem?_append, h1, h2, List.length_append, h1, List.length_drop, List.getElem?_take, List.getElem?_take, List.getElem?_drop, List.getElem?_drop]
  by_cases hij : i = j
  · subst hij
    rw [if_pos rfl, if_pos (by omega), if_pos (by omega), if_pos (by omega), hu]
  · rw [if_neg hij]
    by_cases hlt : j < i
    · rw [if_pos hlt, if_pos hlt, if_pos (by omega), if_pos (by omega)]
    · rw [if_neg hlt, if_neg (by omega)]
      congr 1
      omega
theorem Dk.was_step {W : World} {g i : Nat} {A X : List UInt8} {T : TypeId} (h : W.heap[g]? = some (.cells (Lib.byteCells (A.take i ++ X.drop i)).toArray T (0, 0))) (hA : A.length = 64) (hX : X.length = 64) (hi : i < 64) (u : UInt8) (hu : A[i]? = some u) :
    (W.setCell ⟨g, i, none⟩ (.int .u8 (u.toNat))).heap[g]? = some (.cells (Lib.byteCells (A.take (i + 1) ++ X.drop (i + 1))).toArray T (0, 0)) := by
  rw [heap_setCell_same W g i _ _ _ h, ← Dk.set_mid hA hX hi u hu]
  simp [Lib.byteCells, List.map_set]
theorem Dk.was_step2 {W : World} {g i : Nat} {A X : List UInt8} {T : TypeId} (h : W.heap[g]? = some (.cells (Lib.byteCells (A.take i ++ X.drop i)).toArray T (0, 0))) (hA : A.length = 64) (hX : X.length = 64) (hi : i < 64) (v : Value) (u : UInt8) (hu : A[i]? = some u) :
    ((W.setCell ⟨g, i, none⟩ v).setCell ⟨g, i, none⟩ (.int .u8 (u.toNat))).heap[g]? = some (.cells (Lib.byteCells (A.take (i + 1) ++ X.drop (i + 1))).toArray T (0, 0)) := by
  rw [heap_setCell_same _ g i _ _ _ (heap_setCell_same W g i _ _ v h), ← Dk.set_mid hA hX hi u hu]
  simp [Lib.byteCells, List.map_set]
end Go.Proofs
