/-
  A book: the plain state, and how it lies in memory.
-/
import Derived.Test.YtkfnjmkajhfhlaaCb
namespace Go.Ct
open Go.RowKit Go.Wi
abbrev Ev := ByteArray × ByteArray × Bool
/-- The stream; marks and live notes, by room and user. -/
structure St where
  ev : List Ev
  mr : ByteArray → ByteArray → Int
  nt : ByteArray → ByteArray → Int → Option Bool
def St.new : St := ⟨[], fun _ _ => 0, fun _ _ _ => none⟩
/-- The place of a name. -/
def place : List Ev → ByteArray → Option Nat
  | [], _ => none
  | x :: l, e => if x.2.1 = e then some 1 else (place l e).map (· + 1)
theorem place_app : ∀ (l : List Ev) (x : Ev) (e : ByteArray), place (l ++ [x]) e = (place l e).or (if x.2.1 = e then some (l.length + 1) else none)
  | [], x, e => by simp [place]
  | y :: l, x, e => by
    simp only [List.cons_append, place]
    by_cases h : y.2.1 = e
    · simp [h]
    · simp only [h, if_false, place_app l x e]
      cases place l e <;> simp
theorem place_get : ∀ {l : List Ev} {e : ByteArray} {k : Nat}, place l e = some k → 1 ≤ k ∧ k ≤ l.length ∧ ∃ x, l[k - 1]? = some x ∧ x.2.1 = e
  | [], e, k, h => by cases h
  | y :: l, e, k, h => by
    simp only [place] at h
    split at h
    · rename_i h1
      injection h with h; subst h
      exact ⟨by omega, by simp, y, rfl, h1⟩
    · cases hp : place l e with
      | none => rw [hp] at h; cases h
      | some j =>
        rw [hp] at h
        simp at h; subst h
        obtain ⟨h1, h2, x, h3, h4⟩ := place_get hp
        refine ⟨by omega, by simp; omega, x, ?_, h4⟩
        obtain ⟨i, rfl⟩ : ∃ i, j = i + 1 := ⟨j - 1, by omega⟩
        simpa using h3
theorem place_names : ∀ (l l' : List Ev), l.map (·.2.1) = l'.map (·.2.1) → ∀ e, place l e = place l' e
  | [], [], _, _ => rfl
  | [], _ :: _, h, _ => by cases h
  | _ :: _, [], h, _ => by cases h
  | x :: l, y :: l', h, e => by
    simp only [List.map_cons, List.cons.injEq] at h
    simp only [place, h.1, place_names l l' h.2 e]
/-- The place of an event of this room; 0, if there is none. -/
def fnd (s : St) (r e : ByteArray) : Nat :=
  match place s.ev e with
  | none => 0
  | some k => match s.ev[k - 1]? with
    | none => 0
    | some x => if x.1 = r then k else 0
theorem fnd_get {s : St} {r e : ByteArray} (h : fnd s r e ≠ 0) : place s.ev e = some (fnd s r e) ∧ 1 ≤ fnd s r e ∧ fnd s r e ≤ s.ev.length ∧ ∃ t, s.ev[fnd s r e - 1]? = some (r, e, t) := by
  unfold fnd at *
  cases hp : place s.ev e with
  | none => simp [hp] at h
  | some k =>
    obtain ⟨h1, h2, x, h3, h4⟩ := place_get hp
    simp only [hp, h3] at h ⊢
    by_cases hx : x.1 = r
    · simp only [hx, if_true] at h ⊢
      exact ⟨trivial, h1, h2, x.2.2, by rw [h3]; rw [← hx, ← h4]⟩
    · simp [hx] at h
def St.add (s : St) (r e : ByteArray) : St := { s with ev := s.ev ++ [(r, e, false)] }
def St.page (s : St) (r u : ByteArray) (m : Int) (f : Int → Option Bool) : St :=
  { s with mr := fun r' u' => if r' = r ∧ u' = u then m else s.mr r' u', nt := fun r' u' => if r' = r ∧ u' = u then f else s.nt r' u' }
def evC (l : List Ev) : List Value := l.flatMap fun x => [.string x.1, .string x.2.1, .bool x.2.2]
theorem evC_len (l : List Ev) : (evC l).length = l.length * 3 := by
  induction l with
  | nil => rfl
  | cons x l ih => simp only [evC, List.flatMap_cons, List.length_append, List.length_cons, List.length_nil] at *; omega
theorem evC_app (l : List Ev) (x : Ev) : evC (l ++ [x]) = evC l ++ [.string x.1, .string x.2.1, .bool x.2.2] := by simp [evC]
theorem evC_get : ∀ {l : List Ev} {i : Nat} {x : Ev}, l[i]? = some x → (evC l)[i * 3]? = some (.string x.1) ∧ (evC l)[i * 3 + 1]? = some (.string x.2.1) ∧ (evC l)[i * 3 + 2]? = some (.bool x.2.2)
  | [], i, x, h => by simp at h
  | y :: l, 0, x, h => by
    simp at h; subst h
    simp [evC]
  | y :: l, i + 1, x, h => by
    have h1 : l[i]? = some x := by simpa using h
    obtain ⟨a, b, c⟩ := evC_get h1
    have e : evC (y :: l) = [.string y.1, .string y.2.1, .bool y.2.2] ++ evC l := rfl
    rw [e]
    refine ⟨?_, ?_, ?_⟩
    · rw [List.getElem?_append_right (by simp; omega)]; rw [← a]; congr 1; simp; omega
    · rw [List.getElem?_append_right (by simp; omega)]; rw [← b]; congr 1; simp; omega
    · rw [List.getElem?_append_right (by simp; omega)]; rw [← c]; congr 1; simp; omega
/-- Whose a block is. -/
inductive Tg where
  | no | book | row | places | rooms
  | users (r : ByteArray) | page (r u : ByteArray) | notes (r u : ByteArray)
structure Gh where
  sv : Value
  bp : Nat
  br : Nat
  G : ByteArray → Option Nat
  H : ByteArray → ByteArray → Option Nat
  N : ByteArray → ByteArray → Option Nat
  T : Nat → Tg
def ptrP (p : Nat) : Value := .pointer (some ⟨p, 0, none⟩)
def mapP (x : Nat) : Value := .map (some x)
def intP (k : Nat) : Value := .int .i64 k
end Go.Ct
namespace Go.Proofs
open Go.RowKit Go.Wi Go.Ct
/-- A book in memory. -/
structure Try.Bx (w : World) (b : Nat) (s : St) (n : Nat) (g : Gh) : Prop where
  bl : w.heap[b]? = some (.cells #[g.sv, .map (some g.bp), .map (some g.br)] 47 (0, 0))
  st : w.ownsRow 0 49 3 g.sv s.ev.length (evC s.ev)
  pl : Mp Try.kS w (some g.bp) n (fun e => (place s.ev e).map intP)
  rm : Mp Try.kS w (some g.br) n (fun r => (g.G r).map mapP)
  us : ∀ r x, g.G r = some x → Mp Try.kS w (some x) n (fun u => (g.H r u).map ptrP)
  pg : ∀ r u p, g.H r u = some p → Try.Pg w p (g.N r u) n (s.mr r u) (s.nt r u)
  no : ∀ r u, g.H r u = none → s.mr r u = 0 ∧ ∀ k, s.nt r u k = none
  gh : ∀ r u, g.G r = none → g.H r u = none
  nn : ∀ r u, g.H r u = none → g.N r u = none
  tb : g.T b = .book
  tr : ∀ x, g.sv.ownBlock = some x → g.T x = .row
  tp : g.T g.bp = .places
  tm : g.T g.br = .rooms
  tu : ∀ r x, g.G r = some x → g.T x = .users r
  tg : ∀ r u p, g.H r u = some p → g.T p = .page r u
  tn : ∀ r u x, g.N r u = some x → g.T x = .notes r u
  len : s.ev.length ≤ 5000
section
variable {w w' : World} {b n : Nat} {s : St} {g : Gh}
theorem Try.Bx.keep (h : Try.Bx w b s n g) (hk : ∀ x, g.T x ≠ .no → w'.heap[x]? = w.heap[x]?) : Try.Bx w' b s n g where
  bl := (hk b (by rw [h.tb]; simp)).trans h.bl
  st := by
    refine ⟨h.st.1, ?_⟩
    rcases h.st.2 with h0 | ⟨x, cap, cur, h1, h2, h3, h4⟩
    · exact .inl h0
    · exact .inr ⟨x, cap, cur, h1, h2, (hk x (by rw [h.tr x (by rw [h1]; rfl)]; simp)).trans h3, h4⟩
  pl := h.pl.keep fun x e => by injection e with e; subst e; exact hk _ (by rw [h.tp]; simp)
  rm := h.rm.keep fun x e => by injection e with e; subst e; exact hk _ (by rw [h.tm]; simp)
  us r x e := (h.us r x e).keep fun y e1 => by injection e1 with e1; subst e1; exact hk _ (by rw [h.tu r _ e]; simp)
  pg r u p e := (h.pg r u p e).keep (hk p (by rw [h.tg r u p e]; simp)) fun y e1 => hk y (by rw [h.tn r u y e1]; simp)
  no := h.no
  gh := h.gh
  nn := h.nn
  tb := h.tb
  tr := h.tr
  tp := h.tp
  tm := h.tm
  tu := h.tu
  tg := h.tg
  tn := h.tn
  len := h.len
theorem Try.Bx.rowLt (h : Try.Bx w b s n g) {x : Nat} (e : g.sv.ownBlock = some x) : x < w.heap.size := by
  rcases h.st.2 with ⟨h0, _⟩ | ⟨y, cap, cur, h1, h2, h3, h4⟩
  · rw [h0] at e; cases e
  · rw [h1] at e
    simp [Value.ownBlock] at e; subst e
    exact block_lt h3
theorem Try.Bx.notesLt (h : Try.Bx w b s n g) {r u : ByteArray} {x : Nat} (e : g.N r u = some x) : x < w.heap.size := by
  cases hH : g.H r u with
  | none => rw [h.nn r u hH] at e; cases e
  | some p => exact (h.pg r u p hH).mp.lt e
theorem Try.Bx.mono (h : Try.Bx w b s n g) {n' : Nat} (hn : n ≤ n') : Try.Bx w b s n' g where
  bl := h.bl
  st := h.st
  pl := h.pl.mono hn
  rm := h.rm.mono hn
  us r x e := (h.us r x e).mono hn
  pg r u p e := ⟨(h.pg r u p e).bl, (h.pg r u p e).mp.mono hn⟩
  no := h.no
  gh := h.gh
  nn := h.nn
  tb := h.tb
  tr := h.tr
  tp := h.tp
  tm := h.tm
  tu := h.tu
  tg := h.tg
  tn := h.tn
  len := h.len
theorem Try.Bx.below (h : Try.Bx w b s n g) (hb : Below w.heap.size w w') : Try.Bx w' b s n { g with T := fun x => if x < w.heap.size then g.T x else .no } := by
  have hlt : ∀ x, g.T x ≠ .no → x < w.heap.size → (if x < w.heap.size then g.T x else Tg.no) = g.T x := fun x _ h2 => by simp [h2]
  have h1 : Try.Bx w b s n { g with T := fun x => if x < w.heap.size then g.T x else .no } := by
    refine ⟨h.bl, h.st, h.pl, h.rm, h.us, h.pg, h.no, h.gh, h.nn, ?_, fun x e => ?_, ?_, ?_, fun r x e => ?_, fun r u p e => ?_, fun r u x e => ?_, h.len⟩
    · simp only [block_lt h.bl, if_true]; exact h.tb
    · simp only [h.rowLt e, if_true]; exact h.tr x e
    · simp only [h.pl.lt rfl, if_true]; exact h.tp
    · simp only [h.rm.lt rfl, if_true]; exact h.tm
    · simp only [(h.us r x e).lt rfl, if_true]; exact h.tu r x e
    · simp only [(h.pg r u p e).lt, if_true]; exact h.tg r u p e
    · simp only [h.notesLt e, if_true]; exact h.tn r u x e
  refine h1.keep fun x e => ?_
  by_cases hx : x < w.heap.size
  · exact hb.block x hx
  · simp [hx] at e
end
end Go.Proofs
