/-
  The document's disk, in memory: texts of blocks, a list of writes.
-/
import Derived.Test.YtbnokhaimcpggaaDi
import Derived.Deep.DeepCutAuto
namespace Go.Proofs
open Go.RowKit Go.Dk
/-- The blocks as texts; the writes. -/
def Dk.strs (n : Nat) (L : List UInt8) : List Value := (List.range n).map fun i => .string ⟨(blk L i).toArray⟩
def Dk.prs (W : List Wr) : List Value := W.flatMap fun p => [.int .i64 (p.1 : Nat), .string ⟨p.2.toArray⟩]
theorem Dk.strs_len (n : Nat) (L : List UInt8) : (Dk.strs n L).length = n := by simp [Dk.strs]
theorem Dk.strs_at {n i : Nat} (L : List UInt8) (h : i < n) : (Dk.strs n L)[i]? = some (.string ⟨(blk L i).toArray⟩) := by simp [Dk.strs, h]
theorem Dk.prs_app (a b : List Wr) : Dk.prs (a ++ b) = Dk.prs a ++ Dk.prs b := by simp [Dk.prs]
theorem Dk.prs_len (W : List Wr) : (Dk.prs W).length = W.length * 2 := by
  induction W with
  | nil => rfl
  | cons h r ih =>
    have e : Dk.prs (h :: r) = [.int .i64 (h.1 : Nat), .string ⟨h.2.toArray⟩] ++ Dk.prs r := rfl
    rw [e, List.length_append, ih, List.length_cons]
    simp; omega
theorem Dk.prs_at : ∀ (W : List Wr) (i : Nat) (p : Wr), W[i]? = some p → (Dk.prs W)[i * 2]? = some (.int .i64 (p.1 : Nat)) ∧ (Dk.prs W)[i * 2 + 1]? = some (.string ⟨p.2.toArray⟩)
  | [], i, h, e => by simp at e
  | c :: r, 0, h, e => by simp at e; subst e; exact ⟨rfl, rfl⟩
  | c :: r, i + 1, h, e => by
    have := Dk.prs_at r i h (by simpa using e)
    have e1 : Dk.prs (c :: r) = .int .i64 (c.1 : Nat) :: .string ⟨c.2.toArray⟩ :: Dk.prs r := rfl
    rw [e1, show (i + 1) * 2 = i * 2 + 1 + 1 by omega]
    exact this
/-- A block of which the first bytes are others. -/
theorem Dk.blk_put_part {L : List UInt8} {a : Nat} {b : List UInt8} (h : 64 * a + 64 ≤ L.length) (hb : b.length ≤ 64) : blk (put L a b) a = b ++ (blk L a).drop b.length := by
  apply List.ext_getElem?
  intro j
  rw [get_blk, get_put (by omega)]
  by_cases hj : j < b.length
  · rw [if_pos (by omega), List.getElem?_append_left hj]
    repeat' split
    all_goals first | omega | (congr 1; omega)
  · rw [List.getElem?_append_right (by omega), List.getElem?_drop, get_blk]
    repeat' split
    all_goals first | rfl | omega | (congr 1; omega)
theorem Dk.strs_put {n a : Nat} {L b : List UInt8} (hL : L.length = 64 * n) (ha : a < n) (hb : b.length ≤ 64) : Dk.strs n (put L a b) = (Dk.strs n L).set a (.string ⟨(b ++ (blk L a).drop b.length).toArray⟩) := by
  apply List.ext_getElem?
  intro i
  by_cases hi : i < n
  · rw [Dk.strs_at _ hi, List.getElem?_set]
    by_cases e : a = i
    · subst e
      rw [if_pos rfl, if_pos (by rw [Dk.strs_len]; exact hi), Dk.blk_put_part (by omega) hb]
    · rw [if_neg e, Dk.strs_at _ hi, blk_put_other (by omega) hb e]
  · rw [List.getElem?_eq_none (by rw [Dk.strs_len]; omega), List.getElem?_eq_none (by rw [List.length_set, Dk.strs_len]; omega)]
theorem Dk.row_set {w : World} {B n : Nat} {T : TypeId} {V : Value} {xs : List Value} (h : w.ownsRow B T 1 V n xs) {g : Nat} (hg : V.ownBlock = some g) (i : Nat) (u : Value) : (w.setCell ⟨g, i, none⟩ u).ownsRow B T 1 V n (xs.set i u) := by
  refine ⟨by rw [List.length_set]; exact h.1, ?_⟩
  rcases h.2 with ⟨e, e0⟩ | ⟨g', cap, cur, e, hB, hh, h1, h2, h3, h4⟩
  · rw [e] at hg; cases hg
  · subst e
    cases hg
    refine .inr ⟨g', cap, _, rfl, hB, heap_setCell_same w g' i cur T u hh, h1, h2, by simpa using h3, ?_⟩
    rw [← h4]
    simp [List.take_set]
theorem Dk.rowForm {w : World} {B n size : Nat} {T : TypeId} {v : Value} {xs : List Value} (h : w.ownsRow B T size v n xs) : ∃ ad cap, v = .slice ad n cap ∧ (ad = none → cap = 0 ∧ n = 0) ∧ (∀ d, ad = some d → ∃ g, d = ⟨g, 0, none⟩) ∧ n ≤ cap := by
  rcases h.2 with ⟨e, e0⟩ | ⟨g, cap, cur, e, _, _, h1, _⟩
  · exact ⟨none, 0, by rw [e0]; exact e, fun _ => ⟨rfl, e0⟩, fun d e1 => (by cases e1), by omega⟩
  · exact ⟨_, cap, e, (fun e1 => by cases e1), (fun d e1 => by cases e1; exact ⟨g, rfl⟩), h1⟩
/-- Its own block. -/
def Dk.rfc (Lv Wv : Value) (left k t : Int) (s : DS) : Array Value := #[Lv, Wv, .bool (!s.dead), .bool s.fset, .int .i64 left, .int .i64 k, .int .i64 t, .int .i64 s.wrote, .int .i64 s.synced, .int .i64 s.falls]
structure Try.Rfm (w : World) (x : Nat) (Lv Wv : Value) (left k t : Int) (s : DS) : Prop where
  hx : w.heap[x]? = some (.cells (Dk.rfc Lv Wv left k t s) 58 (0, 0))
  hf : s.fset = true → left = s.fl ∧ k = s.fk ∧ t = s.ft
  lr : w.ownsRow 0 9 1 Lv s.n (Dk.strs s.n s.L)
  wr : w.ownsRow 0 72 2 Wv s.W.length (Dk.prs s.W)
  lx : ∀ k, Lv.ownBlock = some k → k ≠ x
  wx : ∀ k, Wv.ownBlock = some k → k ≠ x ∧ Lv.ownBlock ≠ some k
  lL : s.L.length = 64 * s.n
  good : GoodW s.n s.W
  n0 : 0 < s.n
  n1 : s.n ≤ 4096
  w1 : s.W.length ≤ 1000000
def Dk.rfoot (x : Nat) (Lv Wv : Value) : Nat → Prop := fun k => k = x ∨ Lv.ownBlock = some k ∨ Wv.ownBlock = some k
/-- The document's disk, all of it in blocks of its own. -/
structure Try.Rf (w : World) (own : Nat → Prop) (x : Nat) (s : DS) : Prop where
  ex : ∃ Lv Wv left k t, Try.Rfm w x Lv Wv left k t s ∧ ∀ j, Dk.rfoot x Lv Wv j → own j
  lt : ∀ k, own k → k < w.heap.size
theorem Try.Rfm.keep {w w' : World} {x : Nat} {Lv Wv : Value} {left k t : Int} {s : DS} (h : Try.Rfm w x Lv Wv left k t s) (hk : ∀ j, Dk.rfoot x Lv Wv j → w'.heap[j]? = w.heap[j]?) : Try.Rfm w' x Lv Wv left k t s :=
  ⟨(hk x (.inl rfl)).trans h.hx, h.hf, Dk.row_heap h.lr fun j e => hk j (.inr (.inl e)), Dk.row_heap h.wr fun j e => hk j (.inr (.inr e)), h.lx, h.wx, h.lL, h.good, h.n0, h.n1, h.w1⟩
theorem Try.Rf.keep {w w' : World} {own : Nat → Prop} {x : Nat} {s : DS} (h : Try.Rf w own x s) (hk : ∀ k, own k → w'.heap[k]? = w.heap[k]?) (hs : w.heap.size ≤ w'.heap.size) : Try.Rf w' own x s := by
  obtain ⟨Lv, Wv, a, b, c, hm, hf⟩ := h.ex
  exact ⟨⟨Lv, Wv, a, b, c, hm.keep fun k e => hk k (hf k e), hf⟩, fun k e => Nat.lt_of_lt_of_le (h.lt k e) hs⟩
theorem Try.Rf.ox {w : World} {own : Nat → Prop} {x : Nat} {s : DS} (h : Try.Rf w own x s) : own x := by
  obtain ⟨Lv, Wv, a, b, c, hm, hf⟩ := h.ex
  exact hf x (.inl rfl)
/-- What a call leaves. -/
structure Try.RfC (own : Nat → Prop) (w w' : World) (x : Nat) (s : DS) : Prop where
  ex : ∃ own', Try.Rf w' own' x s ∧ ∀ k, own' k → own k ∨ w.heap.size ≤ k
  wo : Dk.Wo own w w'
theorem Try.Rfm.c {w : World} {x : Nat} {Lv Wv : Value} {left k t : Int} {s : DS} (h : Try.Rfm w x Lv Wv left k t s) : w.cell? ⟨x, 0, none⟩ = some Lv ∧ w.cell? ⟨x, 1, none⟩ = some Wv ∧ w.cell? ⟨x, 2, none⟩ = some (.bool (!s.dead)) ∧ w.cell? ⟨x, 3, none⟩ = some (.bool s.fset) ∧ w.cell? ⟨x, 4, none⟩ = some (.int .i64 left) ∧ w.cell? ⟨x, 5, none⟩ = some (.int .i64 k) ∧ w.cell? ⟨x, 6, none⟩ = some (.int .i64 t) ∧ w.cell? ⟨x, 7, none⟩ = some (.int .i64 s.wrote) ∧ w.cell? ⟨x, 8, none⟩ = some (.int .i64 s.synced) ∧ w.cell? ⟨x, 9, none⟩ = some (.int .i64 s.falls) :=
  ⟨cell_of_row w x 0 _ _ _ h.hx, cell_of_row w x 1 _ _ _ h.hx, cell_of_row w x 2 _ _ _ h.hx, cell_of_row w x 3 _ _ _ h.hx, cell_of_row w x 4 _ _ _ h.hx, cell_of_row w x 5 _ _ _ h.hx, cell_of_row w x 6 _ _ _ h.hx, cell_of_row w x 7 _ _ _ h.hx, cell_of_row w x 8 _ _ _ h.hx, cell_of_row w x 9 _ _ _ h.hx⟩
/-- A cell of its block is set (not that of a row). -/
theorem Try.Rfm.set {w : World} {x : Nat} {Lv Wv : Value} {left k t : Int} {s : DS} (h : Try.Rfm w x Lv Wv left k t s) (i : Nat) (u : Value) {left' k' t' : Int} {s' : DS} (hd : (Dk.rfc Lv Wv left k t s).setIfInBounds i u = Dk.rfc Lv Wv left' k' t' s') (hf : s'.fset = true → left' = s'.fl ∧ k' = s'.fk ∧ t' = s'.ft) (hL : s'.L = s.L) (hn : s'.n = s.n) (hW : s'.W = s.W) :
    Try.Rfm (w.setCell ⟨x, i, none⟩ u) x Lv Wv left' k' t' s' := by
  have hx2 := heap_setCell_same w x i _ 58 u h.hx
  rw [hd] at hx2
  have hot : ∀ k, k ≠ x → (w.setCell ⟨x, i, none⟩ u).heap[k]? = w.heap[k]? := fun k hk => Below.heap_setCell w ⟨x, i, none⟩ _ k hk
  refine ⟨hx2, hf, ?_, ?_, h.lx, h.wx, by rw [hL, hn]; exact h.lL, by rw [hn, hW]; exact h.good, by rw [hn]; exact h.n0, by rw [hn]; exact h.n1, by rw [hW]; exact h.w1⟩
  · rw [hL, hn]; exact Dk.row_heap h.lr fun j e => hot j (h.lx j e)
  · rw [hW]; exact Dk.row_heap h.wr fun j e => hot j (h.wx j e).1
theorem Try.Rfm.foot_lt {w : World} {x : Nat} {Lv Wv : Value} {left k t : Int} {s : DS} (h : Try.Rfm w x Lv Wv left k t s) : ∀ j, Dk.rfoot x Lv Wv j → j < w.heap.size := fun j e => by
  rcases e with e | e | e
  · rw [e]; exact Dk.block_lt h.hx
  · exact (h.lr.lt j e).2
  · exact (h.wr.lt j e).2
theorem Try.rBlocks_any {w : World} {x : Nat} {Lv Wv : Value} {left k t : Int} {s : DS} (h : Try.Rfm w x Lv Wv left k t s) :
    Calls Try.prog 8 #[.pointer (some ⟨x, 0, none⟩)] w fun e w' => e = .returned (.int .i64 s.n) ∧ w' = w := by
  obtain ⟨c0, -⟩ := h.c
  obtain ⟨ad, cap, rfl, -⟩ := Dk.rowForm h.lr
  go_enter Try.func8, Try.ntmps8
  go_wp2
  go_ret
  exact ⟨rfl, rfl⟩
theorem Try.rAlive_any {w : World} {x : Nat} {Lv Wv : Value} {left k t : Int} {s : DS} (h : Try.Rfm w x Lv Wv left k t s) :
    Calls Try.prog 29 #[.pointer (some ⟨x, 0, none⟩)] w fun e w' => e = .returned (.bool (!s.dead)) ∧ w' = w := by
  obtain ⟨-, -, c2, -⟩ := h.c
  go_enter Try.func29, Try.ntmps29
  go_wp2
  go_ret
  exact ⟨rfl, rfl⟩
theorem Try.rFalls_any {w : World} {x : Nat} {Lv Wv : Value} {left k t : Int} {s : DS} (h : Try.Rfm w x Lv Wv left k t s) :
    Calls Try.prog 31 #[.pointer (some ⟨x, 0, none⟩)] w fun e w' => e = .returned (.int .i64 s.falls) ∧ w' = w := by
  obtain ⟨-, -, -, -, -, -, -, -, -, c9⟩ := h.c
  go_enter Try.func31, Try.ntmps31
  go_wp2
  go_ret
  exact ⟨rfl, rfl⟩
theorem Try.rCosts_any {w : World} {x : Nat} {Lv Wv : Value} {left k t : Int} {s : DS} (h : Try.Rfm w x Lv Wv left k t s) :
    Calls Try.prog 27 #[.pointer (some ⟨x, 0, none⟩)] w fun e w' => e = .returned (.tuple #[.int .i64 s.wrote, .int .i64 s.synced]) ∧ ∃ n, w' = w.drewN n := by
  obtain ⟨-, -, -, -, -, -, -, c7, c8, -⟩ := h.c
  go_enter Try.func27, Try.ntmps27
  go_wp2
  go_quiet (fail)
  go_wp2
  go_ret2
  exact ⟨rfl, _, rfl⟩
end Go.Proofs
