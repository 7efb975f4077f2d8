/-
  GlobWhole: rows of patterns.
-/
import Derived.Test.YtjfhpgafglmhdabDoorLawWithin
import Derived.Test.YtjfhpgafglmhdabDoorStrs
namespace Go.Proofs
open Go.RowKit Go.Gl
def Gl.ptrs (xs : List Nat) : List Value := xs.map fun x => .pointer (some ⟨x, 0, none⟩)
theorem Tryd.info_pg : (Tryd.prog.info? 23).map (fun i => (i.zero, i.size, i.bytes)) = some (some (.pointer none), 1, 8) := by kernel_rfl
theorem Tryd.info_pr : (Tryd.prog.info? 24).map (fun i => (i.zero, i.size, i.bytes)) = some (some (.pointer none), 1, 8) := by kernel_rfl
/-- A row that is appended to: blocks of other types stay. -/
theorem Gl.keepT {W w' : World} {o : Obj} {row : Option Nat} {e : TypeId} (hg : (W.alloc o).grownBy w' row) (hrow : ∀ k : Nat, row = some k → ∃ cur fz, W.heap[k]? = some (.cells cur e fz)) :
    ∀ (k : Nat) c e' fz, W.heap[k]? = some (.cells c e' fz) → e' ≠ e → w'.heap[k]? = some (.cells c e' fz) := by
  intro k c e' fz hk hne
  have hlt := (Array.getElem?_eq_some_iff.1 hk).1
  rw [hg.block k (by simp; omega) (fun h => ?_), Below.heap_alloc W o k hlt]
  · exact hk
  · obtain ⟨cur, fz', h2⟩ := hrow k h.symm
    rw [hk] at h2
    simp at h2
    exact hne h2.2.1
theorem Gl.row_type {w : World} {B : Nat} {e : TypeId} {size : Nat} {v : Value} {n : Nat} {xs : List Value} (h : w.ownsRow B e size v n xs) : ∀ k : Nat, v.ownBlock = some k → ∃ cur fz, w.heap[k]? = some (.cells cur e fz) := by
  intro k hk
  rcases h.2 with ⟨rfl, _⟩ | ⟨g, cap, cur, rfl, _, h3, _⟩
  · cases hk
  · simp [Value.ownBlock] at hk
    subst hk
    exact ⟨cur, _, h3⟩
theorem Gl.row_typed {w w' : World} {B : Nat} {e : TypeId} {size : Nat} {v : Value} {n : Nat} {xs : List Value} (h : w.ownsRow B e size v n xs) (hk : ∀ (k : Nat) c fz, w.heap[k]? = some (.cells c e fz) → w'.heap[k]? = some (.cells c e fz)) : w'.ownsRow B e size v n xs := by
  refine ⟨h.1, ?_⟩
  rcases h.2 with h1 | ⟨g, cap, cur, h1, h2, h3, h4⟩
  · exact .inl h1
  · exact .inr ⟨g, cap, cur, h1, h2, hk g cur _ h3, h4⟩
theorem Tryd.Gb.typed {w w' : World} {x : Nat} {ps : List P} {e : TypeId} (h : Tryd.Gb w x ps) (he1 : 47 ≠ e) (he2 : 45 ≠ e) (hk : ∀ (k : Nat) c e' fz, w.heap[k]? = some (.cells c e' fz) → e' ≠ e → w'.heap[k]? = some (.cells c e' fz)) : Tryd.Gb w' x ps := by
  obtain ⟨v, h1, h2⟩ := h
  exact ⟨v, hk _ _ _ _ h1 he1, Gl.row_typed h2 fun k c fz h => hk k c _ fz h he2⟩
theorem Tryd.Rg.typed {w w' : World} {B x : Nat} {ps : List P} {e : TypeId} (h : Tryd.Rg w B x ps) (he1 : 51 ≠ e) (he2 : 53 ≠ e) (hk : ∀ (k : Nat) c e' fz, w.heap[k]? = some (.cells c e' fz) → e' ≠ e → w'.heap[k]? = some (.cells c e' fz)) : Tryd.Rg w' B x ps := by
  obtain ⟨v, h0, h1, h2, h3⟩ := h
  exact ⟨v, h0, hk _ _ _ _ h1 he1, Gl.row_typed h2 fun k c fz h => hk k c _ fz h he2, h3⟩
/-- What is so of the parts of a pattern that may be. -/
def OkL (l : List P) : Prop := l.length ≤ 100 ∧ (norm [] l).length ≤ 100 ∧ ∀ r, .fix r ∈ l → Ok r
theorem okL_of {s : ByteArray} {l : List P} (h : rawc s = some l) (hl : l.length ≤ 100) : OkL l := by
  have hc : comp s = some (norm [] l) := by rw [comp_rawc, h]; rfl
  refine ⟨hl, comp_len hc, ?_⟩
  unfold rawc at h
  split at h
  · rename_i h'; exact raw_ok h'.2 h
  · cases h
/-- The two rows of patterns. -/
structure Tryd.Pats (w : World) (B : Nat) (gv hv : Value) (xs ys : List Nat) (ls : List (List P)) : Prop where
  lx : xs.length = ls.length
  ly : ys.length = ls.length
  gs : w.ownsRow B 23 1 gv xs.length (Gl.ptrs xs)
  hs : w.ownsRow B 24 1 hv ys.length (Gl.ptrs ys)
  g : ∀ (i : Nat) x l, xs[i]? = some x → ls[i]? = some l → Tryd.Gb w x (norm [] l)
  r : ∀ (i : Nat) y l, ys[i]? = some y → ls[i]? = some l → Tryd.Rg w 0 y l
  ok : ∀ l ∈ ls, OkL l
theorem Tryd.Pats.keep {w w' : World} {B : Nat} {gv hv : Value} {xs ys : List Nat} {ls : List (List P)} (h : Tryd.Pats w B gv hv xs ys ls) (hb : Below w.heap.size w w') : Tryd.Pats w' B gv hv xs ys ls :=
  ⟨h.lx, h.ly, Gl.row_below h.gs hb, Gl.row_below h.hs hb, fun i x l h1 h2 => (h.g i x l h1 h2).keep hb, fun i y l h1 h2 => (h.r i y l h1 h2).keep hb, h.ok⟩
theorem Gl.snoc_at {α : Type} {l : List α} {x : α} {i : Nat} {y : α} (h : (l ++ [x])[i]? = some y) : l[i]? = some y ∨ (i = l.length ∧ y = x) := by
  rcases Nat.lt_or_ge i l.length with hi | hi
  · left; rw [List.getElem?_append_left hi] at h; exact h
  · right
    rw [List.getElem?_append_right hi] at h
    have : i - l.length = 0 := by
      rcases Nat.eq_zero_or_pos (i - l.length) with h0 | h0
      · exact h0
      · rw [List.getElem?_eq_none (by simp; omega)] at h; cases h
    rw [this] at h
    exact ⟨by omega, by simpa using h.symm⟩
/-- One pattern more: behind both appends. -/
theorem Tryd.Pats.add {W w5 w6 : World} {B : Nat} {gv hv gv' hv' : Value} {xs ys : List Nat} {ls : List (List P)} {x y : Nat} {l : List P} {o1 o2 : Obj} (h : Tryd.Pats W B gv hv xs ys ls) (hx : Tryd.Gb W x (norm [] l)) (hy : Tryd.Rg W 0 y l) (hl : OkL l)
    (hg5 : (W.alloc o1).grownBy w5 gv.ownBlock) (ho5 : w5.ownsRow B 23 1 gv' (xs.length + 1) (Gl.ptrs xs ++ Gl.ptrs [x]))
    (hg6 : (w5.alloc o2).grownBy w6 hv.ownBlock) (ho6 : w6.ownsRow B 24 1 hv' (ys.length + 1) (Gl.ptrs ys ++ Gl.ptrs [y])) : Tryd.Pats w6 B gv' hv' (xs ++ [x]) (ys ++ [y]) (ls ++ [l]) := by
  have k5 := Gl.keepT hg5 (Gl.row_type h.gs)
  have h5 : w5.ownsRow B 24 1 hv ys.length (Gl.ptrs ys) := Gl.row_typed h.hs fun k c fz hk => k5 k c _ fz hk (by decide)
  have k6 := Gl.keepT hg6 (Gl.row_type h5)
  have both : ∀ {x' : Nat} {ps : List P}, Tryd.Gb W x' ps → Tryd.Gb w6 x' ps := fun hh => (hh.typed (e := 23) (by decide) (by decide) k5).typed (e := 24) (by decide) (by decide) k6
  have bothR : ∀ {y' : Nat} {ps : List P}, Tryd.Rg W 0 y' ps → Tryd.Rg w6 0 y' ps := fun hh => (hh.typed (e := 23) (by decide) (by decide) k5).typed (e := 24) (by decide) (by decide) k6
  refine ⟨by simp [h.lx], by simp [h.ly], ?_, ?_, ?_, ?_, ?_⟩
  · have := Gl.row_typed ho5 fun k c fz hk => k6 k c _ fz hk (by decide)
    rw [List.length_append]
    have e : Gl.ptrs (xs ++ [x]) = Gl.ptrs xs ++ Gl.ptrs [x] := by simp [Gl.ptrs]
    rw [e]; exact this
  · rw [List.length_append]
    have e : Gl.ptrs (ys ++ [y]) = Gl.ptrs ys ++ Gl.ptrs [y] := by simp [Gl.ptrs]
    rw [e]; exact ho6
  · intro i x' l' h1 h2
    rcases Gl.snoc_at h1 with h1 | ⟨h1, rfl⟩
    · rcases Gl.snoc_at h2 with h2 | ⟨h2, _⟩
      · exact both (h.g i x' l' h1 h2)
      · have := (List.getElem?_eq_some_iff.1 h1).1; have := h.lx; omega
    · rcases Gl.snoc_at h2 with h2 | ⟨_, rfl⟩
      · have := (List.getElem?_eq_some_iff.1 h2).1; have := h.lx; omega
      · exact both hx
  · intro i y' l' h1 h2
    rcases Gl.snoc_at h1 with h1 | ⟨h1, rfl⟩
    · rcases Gl.snoc_at h2 with h2 | ⟨h2, _⟩
      · exact bothR (h.r i y' l' h1 h2)
      · have := (List.getElem?_eq_some_iff.1 h1).1; have := h.ly; omega
    · rcases Gl.snoc_at h2 with h2 | ⟨_, rfl⟩
      · have := (List.getElem?_eq_some_iff.1 h2).1; have := h.ly; omega
      · exact bothR hy
  · intro l' hl'
    rcases List.mem_append.1 hl' with h1 | h1
    · exact h.ok l' h1
    · have : l' = l := by simpa using h1
      rw [this]; exact hl
theorem Gl.row_form {w : World} {B : Nat} {e : TypeId} {size : Nat} {v : Value} {n : Nat} {xs : List Value} (h : w.ownsRow B e size v n xs) : ∃ a c, v = .slice a n c := by
  rcases h.2 with ⟨h1, h2⟩ | ⟨g, cap, cur, h1, _⟩
  · exact ⟨none, 0, by rw [h1, h2]⟩
  · exact ⟨_, cap, h1⟩
theorem Gl.ptr_at {w : World} {B : Nat} {e : TypeId} {a : Option Addr} {n c : Nat} {xs : List Nat} (h : w.ownsRow B e 1 (.slice a n c) n (Gl.ptrs xs)) {i x : Nat} (hx : xs[i]? = some x) (hn : xs.length = n) :
    ∃ g, a = some ⟨g, 0, none⟩ ∧ g < w.heap.size ∧ w.cell? ⟨g, i, none⟩ = some (.pointer (some ⟨x, 0, none⟩)) := by
  obtain ⟨hi, he⟩ := List.getElem?_eq_some_iff.1 hx
  obtain ⟨g, cap, h1, _, hg⟩ := h.form (by omega)
  cases h1
  refine ⟨g, rfl, hg, ?_⟩
  rw [h.cellAt i (by omega)]
  simp [Gl.ptrs, hx]
theorem Gl.same_below {w W : World} (h1 : W.heap = w.heap) (h2 : W.os = w.os) (h3 : W.tape = w.tape) (h4 : W.output = w.output) : Below w.heap.size w W :=
  ⟨h2, h3, h4, by rw [h1]; exact Nat.le_refl _, fun k _ => by rw [h1]⟩
theorem Tryd.Pats.none (w : World) (B : Nat) : Tryd.Pats w B (.slice none 0 0) (.slice none 0 0) [] [] [] :=
  ⟨rfl, rfl, ⟨rfl, .inl ⟨rfl, rfl⟩⟩, ⟨rfl, .inl ⟨rfl, rfl⟩⟩, fun i x l h => by simp at h, fun i x l h => by simp at h, fun l h => by simp at h⟩
theorem Tryd.bytesStr : Tryd.prog.bytesOf 9 = 16 := by kernel_rfl
theorem Tryd.sized_len {H : Type} {ts : List TypeId} {ds : List (DataW H)} (h : (DataW.weightsEach Tryd.prog ts ds).all (· ≤ reachBytes) = true) {j : Nat} {l : List ByteArray} {d : DataW H} (ht : ts[j]? = some 31) (hd : ds[j]? = some d) (hl : ∀ X ∈ l, ∃ sp, d = .slice (ChangeShapes.strs l) sp) :
    l.length * 16 ≤ 140737488351232 := by
  cases l with
  | nil => simp
  | cons X l =>
    obtain ⟨sp, rfl⟩ := hl X (by simp)
    have := sized_slice h ht hd Tryd.underlying31
    rw [Tryd.bytesStr] at this
    have e : (ChangeShapes.strs (X :: l) : List (DataW H)).length = (X :: l).length := by simp [ChangeShapes.strs]
    rw [e] at this
    unfold reachBytes at this
    omega
end Go.Proofs
