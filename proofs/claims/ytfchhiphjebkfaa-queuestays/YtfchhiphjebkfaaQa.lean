/-
  A QUEUE, plain; a row that may begin within its block.
-/
import Derived.Test.YtfchhiphjebkfaaVc
import Derived.ArgAppend
namespace Go.Qu
open Go.RowKit Go.Wi
structure Qs (α : Type) where
  size : Int
  base : Int
  most : Int
  l : List α
  f : Int
  u : Int
  d : Int
structure Qs.In {α : Type} (s : Qs α) : Prop where
  s1 : 1 ≤ s.size
  s2 : s.size ≤ 1000
  b1 : 1 ≤ s.base
  b2 : s.base ≤ s.most
  m2 : s.most ≤ 1000000000
  ln : (s.l.length : Int) ≤ s.size
  f1 : 0 ≤ s.f
  f2 : s.f ≤ 1000000000
  u1 : 0 ≤ s.u
  u2 : s.u ≤ 2000000000
  d1 : 0 ≤ s.d
  d2 : s.d ≤ 1000000000
def one (n : Int) : Int := min (n + 1) 1000000000
/-- The delay of n + 1 failures. -/
def dl (base most : Int) : Nat → Int
  | 0 => base
  | n + 1 => min (2 * dl base most n) most
theorem dl_le {base most : Int} (h : base ≤ most) (n : Nat) : dl base most n ≤ most := by
  cases n with
  | zero => exact h
  | succ n => exact Int.min_le_right _ _
theorem dl_ge {base most : Int} (h1 : 1 ≤ base) (h : base ≤ most) (n : Nat) : 1 ≤ dl base most n := by
  induction n with
  | zero => exact h1
  | succ n ih => simp only [dl]; omega
theorem dl_top {base most : Int} (h1 : 1 ≤ base) (h : base ≤ most) {i : Nat} (hi : most < 2 * dl base most i) (n : Nat) : dl base most (i + 1 + n) = most := by
  have hm : 1 ≤ most := by omega
  induction n with
  | zero => simp only [dl]; omega
  | succ n ih => rw [← Nat.add_assoc]; simp only [dl]; rw [ih]; omega
variable {α : Type}
def Qs.put (s : Qs α) (x : α) : Qs α := if (s.l.length : Int) = s.size then { s with l := s.l.tail ++ [x], d := one s.d } else { s with l := s.l ++ [x] }
def Qs.done (s : Qs α) : Qs α := { s with l := s.l.tail, f := 0, u := 0 }
def Qs.failed (s : Qs α) (now : Int) : Qs α := { s with f := one s.f, u := now + dl s.base s.most ((one s.f).toNat - 1) }
theorem one_in {n : Int} (h1 : 0 ≤ n) (_h2 : n ≤ 1000000000) : 1 ≤ one n ∧ one n ≤ 1000000000 := by unfold one; omega
theorem Qs.In.tail {s : Qs α} (h : s.In) : ({ s with l := s.l.tail } : Qs α).In :=
  ⟨h.s1, h.s2, h.b1, h.b2, h.m2, by have := h.ln; simp only [List.length_tail]; omega, h.f1, h.f2, h.u1, h.u2, h.d1, h.d2⟩
theorem Qs.In.put {s : Qs α} (h : s.In) (x : α) : (s.put x).In := by
  have h1 := h.ln
  have h2 := h.s1
  have h3 := one_in h.d1 h.d2
  unfold Qs.put
  split
  · exact ⟨h.s1, h.s2, h.b1, h.b2, h.m2, by simp only [List.length_append, List.length_tail, List.length_cons, List.length_nil]; omega, h.f1, h.f2, h.u1, h.u2, by simp only; omega, h3.2⟩
  · exact ⟨h.s1, h.s2, h.b1, h.b2, h.m2, by simp only [List.length_append, List.length_cons, List.length_nil]; omega, h.f1, h.f2, h.u1, h.u2, h.d1, h.d2⟩
theorem Qs.In.done {s : Qs α} (h : s.In) : s.done.In := ⟨h.s1, h.s2, h.b1, h.b2, h.m2, h.tail.ln, by simp [Qs.done], by simp [Qs.done], by simp [Qs.done], by simp [Qs.done], h.d1, h.d2⟩
theorem Qs.In.failed {s : Qs α} (h : s.In) {now : Int} (h1 : 0 ≤ now) (h2 : now ≤ 1000000000) : (s.failed now).In := by
  have h3 := one_in h.f1 h.f2
  have h4 := dl_le h.b2 ((one s.f).toNat - 1)
  have h5 := dl_ge h.b1 h.b2 ((one s.f).toNat - 1)
  have h6 := h.m2
  exact ⟨h.s1, h.s2, h.b1, h.b2, h.m2, h.ln, by simp only [Qs.failed]; omega, h3.2, by simp only [Qs.failed]; omega, by simp only [Qs.failed]; omega, h.d1, h.d2⟩
/-- A row, in no block if it has no room. -/
structure Row (T : TypeId) (w : World) (v : Value) (g : Option Nat) (xs : List Value) : Prop where
  ex : (∃ a, v = .slice a 0 0 ∧ xs = [] ∧ g = none) ∨ ∃ k o cap cur, v = .slice (some ⟨k, o, none⟩) xs.length cap ∧ g = some k ∧ w.heap[k]? = some (.cells cur T (0, 0)) ∧ xs.length ≤ cap ∧ 0 < cap ∧ cur.size = o + cap ∧ ∀ j u, xs[j]? = some u → cur[o + j]? = some u
theorem Row.keep {T : TypeId} {w w' : World} {v : Value} {g : Option Nat} {xs : List Value} (h : Row T w v g xs) (hk : ∀ k, g = some k → w'.heap[k]? = w.heap[k]?) : Row T w' v g xs := by
  rcases h.ex with h1 | ⟨k, o, cap, cur, h1, h2, h3, h4⟩
  · exact ⟨.inl h1⟩
  · exact ⟨.inr ⟨k, o, cap, cur, h1, h2, (hk k h2).trans h3, h4⟩⟩
theorem Row.nil (T : TypeId) (w : World) : Row T w (.slice none 0 0) none [] := ⟨.inl ⟨none, rfl, rfl, rfl⟩⟩
theorem Row.form {T : TypeId} {w : World} {v : Value} {g : Option Nat} {xs : List Value} (h : Row T w v g xs) : ∃ a cap, v = .slice a xs.length cap := by
  rcases h.ex with ⟨a, h1, rfl, _⟩ | ⟨k, o, cap, cur, h1, _⟩
  · exact ⟨a, 0, h1⟩
  · exact ⟨_, cap, h1⟩
theorem Row.lt {T : TypeId} {w : World} {v : Value} {g : Option Nat} {xs : List Value} (h : Row T w v g xs) {k : Nat} (hk : g = some k) : k < w.heap.size := by
  rcases h.ex with ⟨a, h1, rfl, h2⟩ | ⟨k, o, cap, cur, h1, h2, h3, _⟩
  · rw [h2] at hk; cases hk
  · rw [h2] at hk; cases hk; exact block_lt h3
/-- A row with something in it. -/
theorem Row.cons {T : TypeId} {w : World} {v : Value} {g : Option Nat} {x : Value} {r : List Value} (h : Row T w v g (x :: r)) :
    ∃ k o cap, v = .slice (some ⟨k, o, none⟩) (r.length + 1) cap ∧ g = some k ∧ r.length + 1 ≤ cap ∧ k < w.heap.size ∧ (∀ j u, (x :: r)[j]? = some u → w.cell? ⟨k, o + j, none⟩ = some u) ∧ (∀ j, w.frozen? ⟨k, j, none⟩ = false) ∧
      ∀ z, (cap = 1 → Row T (w.setCell ⟨k, o, none⟩ z) (.slice (some ⟨k, o, none⟩) 0 0) none r) ∧ (1 < cap → Row T (w.setCell ⟨k, o, none⟩ z) (.slice (some ⟨k, o + 1, none⟩) r.length (cap - 1)) (some k) r) := by
  rcases h.ex with ⟨a, h1, h2, _⟩ | ⟨k, o, cap, cur, h1, h2, h3, h4, h5, h6, h7⟩
  · cases h2
  · simp only [List.length_cons] at h1 h4
    refine ⟨k, o, cap, h1, h2, h4, block_lt h3, fun j u hj => ?_, fun j => frozen_of_row _ _ _ _ _ h3, fun z => ⟨fun hc => ⟨.inl ⟨_, rfl, List.eq_nil_of_length_eq_zero (by omega), rfl⟩⟩, fun hc => ⟨.inr ⟨k, o + 1, cap - 1, _, rfl, rfl, heap_setCell_same w k o cur T z h3, by omega, by omega, by simp; omega, fun j u hj => ?_⟩⟩⟩⟩
    · rw [cell_of_row _ _ _ _ _ _ h3]; exact h7 j u hj
    · have := h7 (j + 1) u (by simpa using hj)
      rw [Array.getElem?_setIfInBounds_ne (by omega), show o + 1 + j = o + (j + 1) by omega]; exact this
theorem sizeSet (w : World) (a : Addr) (v : Value) : (w.setCell a v).heap.size = w.heap.size := by simp
/-- What an append leaves. -/
structure App (T : TypeId) (w w' : World) (v : Value) (g : Option Nat) (xs : List Value) : Prop where
  ex : ∃ g', Row T w' v g' xs ∧ (g' = g ∨ ∃ k, g' = some k ∧ w.heap.size ≤ k)
  wo : Wo (fun k => g = some k) w w'
theorem app_one {P : Program} {ops : Array Oper} {rest : List Oper} {o : Oper} {a : Act} {Q : Exit → Act → World → Prop} (hgd : o.guard = none) (s y : Operand) {t e : TypeId} {i : TypeInfo} {z : Value} {bytes : Nat}
    (ho : o.op = .call { callee := .builtin .append, args := #[s, y], argTypes := #[t, t] }) (ht : P.underlying t = some (.slice e)) (hi : P.info? e = some i) (hz : i.zero = some z) (hsz : i.size = 1) (hby : i.bytes = bytes) (hzs : z.cells.size = 1) (hb16 : bytes ≤ 16)
    {w : World} {v x : Value} {g : Option Nat} {xs : List Value} (h : Row e w v g xs) (hn : xs.length ≤ 1000000) (hs : a.eval s = v) (hy : a.eval y = .slice (some ⟨w.heap.size, 0, none⟩) 1 1) (h1 : x.oneCell' = true)
    (hK : ∀ ad n cap w1, App e w w1 (.slice ad n cap) g (xs ++ [x]) → wpList P ops Q rest (a.put o.dst (.slice ad n cap)) w1) : wpList P ops Q (o :: rest) a (w.alloc (.cells #[x] e)) := by
  have hb0 := (Below.refl w.heap.size w).alloc (Nat.le_refl _) (.cells #[x] e)
  have hsize : (w.alloc (.cells #[x] e)).heap.size = w.heap.size + 1 := by simp
  have hnews : ∀ (j : Nat) u, [x][j]? = some u → (w.alloc (.cells #[x] e)).cell? ((⟨w.heap.size, 0, none⟩ : Addr).add j) = some u := World.news_of_block (cs := #[x]) (t := e) (fr := (0, 0)) (heap_alloc_new w _)
  have hone : ∀ u ∈ [x], u.oneCell' = true := fun u hu => by rw [List.mem_singleton.1 hu]; exact h1
  have hbb : (xs.length + 1) * bytes ≤ 140737488355328 := by
    have := Nat.mul_le_mul (show xs.length + 1 ≤ 1000001 by omega) hb16
    omega
  have grown : ∀ v' w', w'.ownsRow (w.alloc (.cells #[x] e)).heap.size e 1 v' (xs.length + 1) (xs ++ [x]) → (w.alloc (.cells #[x] e)).grownBy w' none → wpList P ops Q rest (a.put o.dst v') w' := by
    intro v' w' hown hgr
    have hbel : Below w.heap.size w w' := hb0.grown hgr (by simp) (fun k hk => by cases hk)
    rcases hown.2 with ⟨_, e0⟩ | ⟨k, cap, cur, rfl, hB, hg, a1, a2, a3, a4⟩
    · omega
    · have hl : (xs ++ [x]).length = xs.length + 1 := by simp
      refine hK _ _ _ w' ⟨⟨some k, ⟨.inr ⟨k, 0, cap, cur, by rw [hl], rfl, hg, by omega, by omega, by omega, fun j u hj => ?_⟩⟩, .inr ⟨k, rfl, by omega⟩⟩, Wo.ofBelow hbel⟩
      rw [← a4, List.getElem?_take] at hj
      split at hj
      · rw [Nat.zero_add, ← Array.getElem?_toList]; exact hj
      · cases hj
  rcases h.ex with ⟨ao, rfl, rfl, rfl⟩ | ⟨k, of, cap, cur, rfl, rfl, h3, h4, h5, h6, h7⟩
  · refine wpList_append_grows _ hgd s y t ho e i z 1 bytes ht hi hz hsz hby hzs (by omega) ao 0 0 [] hs (fun _ => ⟨rfl, rfl⟩) rfl (fun b _ j u hj => by simp at hj) ⟨w.heap.size, 0, none⟩ 1 1 [x] hy rfl hnews hone (by omega) (by unfold maxLen; omega) (by simpa using hbb) ?_
    simpa using grown
  · have hkl := block_lt h3
    have h3' : (w.alloc (.cells #[x] e)).heap[k]? = some (.cells cur e (0, 0)) := (hb0.block k hkl).trans h3
    refine wpList_append_arg _ hgd s y t ho e i z 1 bytes ht hi hz hsz hby hzs (by omega) k of xs.length cap xs hs (by omega) (fun j u hj => by rw [cell_of_row _ _ _ _ _ _ h3']; exact h7 j u hj) ⟨w.heap.size, 0, none⟩ 1 1 [x] hy rfl hnews hone (fun hc j hj => ?_) (by unfold maxLen; omega) hbb (fun hc => ?_) (fun _ => grown)
    · simp only [List.length_cons, List.length_nil] at hj
      refine ⟨?_, frozen_of_row _ _ _ _ _ h3'⟩
      rw [cell_of_row _ _ _ _ _ _ h3', Array.getElem?_eq_getElem (by omega)]; rfl
    · refine hK _ _ _ _ ⟨⟨some k, ⟨.inr ⟨k, of, cap, _, by simp, rfl, heap_setCell_same _ k _ cur e x h3', by simp; omega, h5, by simp; omega, fun j u hj => ?_⟩⟩, .inl rfl⟩, ?_⟩
      · rw [Nat.mul_one]
        by_cases e1 : j = xs.length
        · subst e1
          rw [Array.getElem?_setIfInBounds_self_of_lt (by omega)]
          simpa using hj
        · rw [Array.getElem?_setIfInBounds_ne (by omega)]
          refine h7 j u ?_
          have hl := (List.getElem?_eq_some_iff.1 hj).1
          simp at hl
          rwa [List.getElem?_append_left (by omega)] at hj
      · exact ((Wo.refl _ w).alloc _).setCell k _ x (.inl rfl)
end Go.Qu
