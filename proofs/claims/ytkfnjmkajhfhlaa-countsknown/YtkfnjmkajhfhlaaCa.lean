/-
  Maps as functions: whatever their keys and elements are; a nil map is one of nothing.
-/
import Derived.Test.YtkfnjmkajhfhlaaProg
import Derived.WalkKit
import Derived.WalkLawsBesides
import Derived.WalkSpells
import Derived.Maps.RangeWalk
import Derived.Maps.OwnSet
import Derived.Sort.MapsRangeIn
import Derived.Laws.IdiomRangeMap
namespace Go.Ct
open Go.RowKit Go.Maps Go.WideElems Go.MapKept Go.ChangeMaps
/-- Any element, as it is. -/
def vR (v : Value) : Option (DataW Value × List MemPlace) := some (.held v, [])
def noteV (h : Bool) : Value := .agg #[.bool h]
/-- A kind of keys. -/
structure Ky (P : Program) (k : TypeId) (κ : Type) where
  lit : κ → Lit
  val : κ → Value
  ok : κ → Prop
  keyed : Keyed P k
  is : ∀ x, ok x → keyOf P k (val x) = some (lit x)
  inv : ∀ v l, keyOf P k v = some l → ∃ x, ok x ∧ v = val x ∧ l = lit x
  inj : ∀ x y, lit x = lit y → x = y
noncomputable def strKy {P : Program} {k : TypeId} (hk : P.underlying k = some .string) : Ky P k ByteArray where
  lit s := .string s.data.toList
  val s := .string s
  ok s := s.size ≤ maxLen
  keyed := string_keyed hk
  is x hx := WideMaps.keyOf_string_mk hk hx
  inv v l h := by
    obtain ⟨s, rfl⟩ := Maps.keyOf_string_inv hk h
    refine ⟨s, ?_⟩
    simp only [keyOf, hk, mapKey] at h
    split at h
    · rename_i h1
      injection h with h
      exact ⟨h1, rfl, h.symm⟩
    · cases h
  inj x y h := by
    injection h with h
    cases x; cases y
    simp at h
    rw [h]
noncomputable def intKy {P : Program} {k : TypeId} (hk : P.underlying k = some (.int .i64)) : Ky P k Int where
  lit a := .int .i64 a
  val a := .int .i64 a
  ok a := (Lit.int .i64 a).wf = true
  keyed := int_keyed hk
  is x hx := Maps.keyOf_int_mk hk hx
  inv v l h := by
    obtain ⟨x, rfl, rfl, hw⟩ := Maps.keyOf_int_inv hk h
    exact ⟨x, hw, rfl, rfl⟩
  inj x y h := by injection h
section
variable {P : Program} {k : TypeId} {κ : Type}
def upd [DecidableEq κ] {α : Type} (f : κ → Option α) (x : κ) (o : Option α) : κ → Option α := fun y => if y = x then o else f y
@[simp] theorem upd_same [DecidableEq κ] {α : Type} (f : κ → Option α) (x : κ) (o : Option α) : upd f x o x = o := by simp [upd]
theorem upd_ne [DecidableEq κ] {α : Type} (f : κ → Option α) {x y : κ} (o : Option α) (h : y ≠ x) : upd f x o y = f y := by simp [upd, h]
/-- What is read as f. -/
structure Rd (K : Ky P k κ) (D : DataW Value) (f : κ → Option Value) : Prop where
  no : ∀ x, K.ok x → f x = none → Maps.has D (K.lit x) = false
  yes : ∀ x v, f x = some v → Maps.has D (K.lit x) = true ∧ ∀ z, D.atKey (K.lit x) z = .held v
  dom : ∀ x v, f x = some v → K.ok x
theorem Rd.put [DecidableEq κ] {K : Ky P k κ} {D : DataW Value} {f : κ → Option Value} (h : Rd K D f) (hm : IsMap D) {x : κ} (hx : K.ok x) (v : Value) : Rd K (D.put (K.lit x) (.held v)) (upd f x (some v)) := by
  have hk := K.keyed.key (K.is x hx)
  refine ⟨fun y hy e => ?_, fun y u e => ?_, fun y u e => ?_⟩
  · by_cases hyx : y = x
    · subst hyx; simp at e
    · rw [upd_ne f _ hyx] at e
      rw [has_put_other (fun e1 => hyx (K.inj _ _ e1))]
      exact h.no y hy e
  · by_cases hyx : y = x
    · subst hyx
      simp at e; subst e
      exact ⟨has_put_same hm hk _, fun z => atKey_put_same hm hk _ z⟩
    · rw [upd_ne f _ hyx] at e
      have hne : K.lit y ≠ K.lit x := fun e1 => hyx (K.inj _ _ e1)
      rw [has_put_other hne]
      exact ⟨(h.yes y u e).1, fun z => by rw [atKey_put_other hne]; exact (h.yes y u e).2 z⟩
  · by_cases hyx : y = x
    · subst hyx; exact hx
    · rw [upd_ne f _ hyx] at e
      exact h.dom y u e
theorem Rd.del [DecidableEq κ] {K : Ky P k κ} {D : DataW Value} {f : κ → Option Value} (h : Rd K D f) (x : κ) : Rd K (D.del (K.lit x)) (upd f x none) := by
  refine ⟨fun y hy e => ?_, fun y u e => ?_, fun y u e => ?_⟩
  · by_cases hyx : y = x
    · subst hyx; exact has_del_same
    · rw [upd_ne f _ hyx] at e
      rw [has_del_other (fun e1 => hyx (K.inj _ _ e1))]
      exact h.no y hy e
  · by_cases hyx : y = x
    · subst hyx; simp at e
    · rw [upd_ne f _ hyx] at e
      have hne : K.lit y ≠ K.lit x := fun e1 => hyx (K.inj _ _ e1)
      rw [has_del_other hne]
      exact ⟨(h.yes y u e).1, fun z => by rw [atKey_del_other hne]; exact (h.yes y u e).2 z⟩
  · by_cases hyx : y = x
    · subst hyx; simp at e
    · rw [upd_ne f _ hyx] at e
      exact h.dom y u e
/-- A map that lies at o (none: nil), of at most n entries. -/
structure Mp (K : Ky P k κ) (w : World) (o : Option Nat) (n : Nat) (f : κ → Option Value) : Prop where
  ex : (o = none ∧ ∀ x, f x = none) ∨ ∃ b D, o = some b ∧ w.ownsMap P k vR b n D ∧ Rd K D f
variable {K : Ky P k κ} {w w' : World} {o : Option Nat} {n : Nat} {f : κ → Option Value}
theorem Mp.nil (K : Ky P k κ) (w : World) (n : Nat) : Mp K w none n (fun _ => none) := ⟨.inl ⟨rfl, fun _ => rfl⟩⟩
theorem Mp.made (K : Ky P k κ) (w : World) : Mp K (w.alloc (.map #[] 0)) (some w.heap.size) 0 (fun _ => none) :=
  ⟨.inr ⟨_, _, rfl, World.ownsMap_made w P k vR, ⟨fun _ _ _ => rfl, fun _ _ e => (by cases e), fun _ _ e => (by cases e)⟩⟩⟩
theorem Mp.cong {f' : κ → Option Value} (h : Mp K w o n f) (hf : ∀ x, f x = f' x) : Mp K w o n f' := by
  have : f = f' := funext hf
  subst this; exact h
theorem Mp.mono {n' : Nat} (h : Mp K w o n f) (hn : n ≤ n') : Mp K w o n' f := by
  rcases h.ex with h1 | ⟨b, D, h1, h2, h3⟩
  · exact ⟨.inl h1⟩
  · exact ⟨.inr ⟨b, D, h1, h2.mono hn, h3⟩⟩
theorem Mp.lt (h : Mp K w o n f) {b : Nat} (hb : o = some b) : b < w.heap.size := by
  rcases h.ex with ⟨h1, _⟩ | ⟨b', D, h1, h2, h3⟩
  · rw [h1] at hb; cases hb
  · rw [h1] at hb; cases hb; exact h2.lt
theorem Mp.keep (h : Mp K w o n f) (hk : ∀ b, o = some b → w'.heap[b]? = w.heap[b]?) : Mp K w' o n f := by
  rcases h.ex with h1 | ⟨b, D, h1, ⟨es, clock, hb, h2⟩, h3⟩
  · exact ⟨.inl h1⟩
  · exact ⟨.inr ⟨b, D, h1, ⟨es, clock, (hk b h1).trans hb, h2⟩, h3⟩⟩
theorem Mp.dom (h : Mp K w o n f) {x : κ} {v : Value} (e : f x = some v) : K.ok x := by
  rcases h.ex with ⟨_, h1⟩ | ⟨b, D, h1, h2, h3⟩
  · rw [h1] at e; cases e
  · exact h3.dom x v e
/-- 'm[x]'. -/
theorem Mp.look (h : Mp K w o n f) {t e : TypeId} (ht : P.underlying t = some (.map k e)) {z : Value} (hz : (zeroValue e).run P w = .ok z w) {x : κ} (hx : K.ok x) :
    (Instr.lookup t (.map o) (K.val x) false).run P w = .ok ((f x).getD z) w := by
  rcases h.ex with ⟨rfl, h1⟩ | ⟨b, D, rfl, h2, h3⟩
  · rw [h1]
    exact Maps.look_nil false K.keyed ht hz (K.is x hx)
  · obtain ⟨v, ps, hrun, hR⟩ := h2.lookup K.keyed ht hz (zd := .held z) (zp := []) rfl (K.is x hx)
    rw [hrun]
    simp only [vR, Option.some.injEq, Prod.mk.injEq] at hR
    have hv : v = (f x).getD z := by
      cases hf : f x with
      | none =>
        have := hR.1
        rw [atKey_of_not_has (h3.no x hx hf)] at this
        injection this
      | some u =>
        have := hR.1
        rw [(h3.yes x u hf).2] at this
        injection this
    rw [hv]
/-- The keys that there are. -/
theorem keys_list (K : Ky P k κ) : ∀ es : List (Lit × DataW Value), (∀ p ∈ es, ∃ x, K.ok x ∧ p.1 = K.lit x) → ∃ L : List κ, L.map K.lit = es.map (·.1) ∧ ∀ x ∈ L, K.ok x
  | [], _ => ⟨[], rfl, by simp⟩
  | p :: es, h => by
    obtain ⟨x, hx, e⟩ := h p (by simp)
    obtain ⟨L, h1, h2⟩ := keys_list K es fun q hq => h q (by simp [hq])
    exact ⟨x :: L, by simp [h1, e], by simpa using ⟨hx, h2⟩⟩
theorem Mp.list (h : Mp K w o n f) {t e : TypeId} (ht : P.underlying t = some (.map k e)) : ∃ L : List κ, L.Nodup ∧ (∀ x, x ∈ L ↔ (f x).isSome) ∧ L.length ≤ n ∧ ∀ ty, (Builtin.len_ #[t] ty #[.map o]).run P w = .ok (.int .i64 (L.length : Nat)) w := by
  rcases h.ex with ⟨rfl, h1⟩ | ⟨b, D, rfl, h2, h3⟩
  · exact ⟨[], by simp, fun x => by simp [h1], by simp, fun ty => Maps.len_nil ht ty⟩
  · have hlen := fun ty => h2.len ht ty
    have hsz := h2.size_le
    have hent := h2.entries K.keyed
    obtain ⟨es, clock, hb, F, hs, hD⟩ := h2
    obtain ⟨es1, rfl, hpw, _⟩ := hent
    have hkeys : ∀ p ∈ es1, ∃ x, K.ok x ∧ p.1 = K.lit x := fun p hp => by
      injection hD with hD
      rw [hD] at hp
      obtain ⟨v, hv⟩ := Maps.fit_keys F p (mem_sorted.1 hp)
      obtain ⟨x, h1, _, h2⟩ := K.inv v _ hv
      exact ⟨x, h1, h2⟩
    obtain ⟨L, hL, hok⟩ := keys_list K es1 hkeys
    have hll : L.length = es1.length := by have := congrArg List.length hL; simpa using this
    refine ⟨L, ?_, fun x => ?_, ?_, fun ty => ?_⟩
    · have h5 : (es1.map (·.1)).Nodup := List.pairwise_map.2 hpw
      rw [← hL] at h5
      exact (List.pairwise_map.1 h5).imp fun h e => h (by rw [e])
    · have h6 : x ∈ L ↔ Maps.has (.map es1) (K.lit x) = true ∧ K.ok x := by
        constructor
        · intro hx
          refine ⟨?_, hok x hx⟩
          have : K.lit x ∈ es1.map (·.1) := by rw [← hL]; exact List.mem_map.2 ⟨x, hx, rfl⟩
          obtain ⟨p, hp, e⟩ := List.mem_map.1 this
          rw [has_eq]
          exact List.any_eq_true.2 ⟨p, hp, by rw [e]; exact WideAt.sameKey_self (K.keyed.key (K.is x (hok x hx)))⟩
        · rintro ⟨hx, _⟩
          rw [has_eq] at hx
          obtain ⟨p, hp, e⟩ := List.any_eq_true.1 hx
          have e1 := WideAt.sameKey_eq e
          have : K.lit x ∈ L.map K.lit := by rw [hL, ← e1]; exact List.mem_map.2 ⟨p, hp, rfl⟩
          obtain ⟨y, hy, e2⟩ := List.mem_map.1 this
          rw [← K.inj _ _ e2]; exact hy
      rw [h6]
      cases hf : f x with
      | none =>
        constructor
        · rintro ⟨h7, h8⟩
          rw [h3.no x h8 hf] at h7; cases h7
        · intro h7; cases h7
      | some u => exact ⟨fun _ => rfl, fun _ => ⟨(h3.yes x u hf).1, h3.dom x u hf⟩⟩
    · rw [hll]; exact hsz
    · rw [hll]; exact hlen ty
/-- 'm[x] = v'. -/
theorem Mp.store [DecidableEq κ] {b : Nat} (h : Mp K w (some b) n f) {t e : TypeId} (ht : P.underlying t = some (.map k e)) (hn : n < maxLen) {x : κ} (hx : K.ok x) (v : Value) :
    ∃ w', (Instr.mapUpdate t (.map (some b)) (K.val x) v).run P w = .ok () w' ∧ Mp K w' (some b) (n + 1) (upd f x (some v)) ∧ w.mapTurned w' b := by
  rcases h.ex with ⟨h1, _⟩ | ⟨b', D, h1, h2, h3⟩
  · cases h1
  · injection h1 with h1; subst h1
    obtain ⟨w1, hrun, hown, htu⟩ := h2.store K.keyed ht hn (K.is x hx) (d := .held v) (ps := []) rfl
    exact ⟨w1, hrun, ⟨.inr ⟨_, _, rfl, hown, h3.put h2.isMap hx v⟩⟩, htu⟩
/-- 'delete(m, x)'. -/
theorem Mp.drop [DecidableEq κ] (h : Mp K w o n f) {t e : TypeId} (ht : P.underlying t = some (.map k e)) {x : κ} (hx : K.ok x) :
    ∃ w', (∀ ty, (Builtin.delete_ #[t, k] ty #[.map o, K.val x]).run P w = .ok (.tuple #[]) w') ∧ Mp K w' o n (upd f x none) ∧ w.grownBy w' o ∧ w'.heap.size = w.heap.size ∧ ∀ a, w'.frozen? a = w.frozen? a := by
  rcases h.ex with ⟨rfl, h1⟩ | ⟨b, D, rfl, h2, h3⟩
  · refine ⟨w, fun ty => Maps.drop_nil K.keyed ht (K.is x hx) ty, ⟨.inl ⟨rfl, fun y => ?_⟩⟩, World.grownBy.refl _ _, rfl, fun _ => rfl⟩
    simp [upd, h1]
  · obtain ⟨w1, hrun, hown, htu⟩ := h2.drop K.keyed ht (K.is x hx) 0
    refine ⟨w1, fun ty => hrun, ⟨.inr ⟨b, _, rfl, hown, h3.del x⟩⟩, htu.grown, ?_, htu.frozen⟩
    obtain ⟨es, c, es', c', _, rfl⟩ := htu
    simp [setBlock]
/-- 'for .. := range m' under way: the keys that are still to come. -/
structure Rg (K : Ky P k κ) (w : World) (o : Option Nat) (r : Nat) (n : Nat) (f : κ → Option Value) (left : κ → Bool) (cnt : Nat) : Prop where
  ex : (o = none ∧ (∀ x, f x = none) ∧ (∀ x, left x = false) ∧ cnt = 0 ∧ ∃ a s c, w.heap[r]? = some (.mapIter none a s c)) ∨ ∃ b D lf, o = some b ∧ w.ranges P k vR b r n D lf cnt ∧ Rd K D f ∧ (∀ x, K.ok x → lf (K.lit x) = left x) ∧ ∀ x, left x = true → K.ok x
def leftIn (w : World) (o : Option Nat) (r : Nat) : Nat := match o with | none => 0 | some b => w.rangeLeft b r
variable {r cnt : Nat} {left : κ → Bool}
theorem Rg.left_eq (h : Rg K w o r n f left cnt) : leftIn w o r = cnt := by
  rcases h.ex with ⟨rfl, _, _, rfl, _⟩ | ⟨b, D, lf, rfl, h2, _⟩
  · rfl
  · exact h2.left_eq
theorem Rg.mp (h : Rg K w o r n f left cnt) : Mp K w o n f := by
  rcases h.ex with ⟨rfl, h1, _⟩ | ⟨b, D, lf, rfl, h2, h3, _⟩
  · exact ⟨.inl ⟨rfl, h1⟩⟩
  · exact ⟨.inr ⟨b, D, rfl, h2.owns, h3⟩⟩
theorem Rg.lt (h : Rg K w o r n f left cnt) : r < w.heap.size := by
  rcases h.ex with ⟨_, _, _, _, a, s, c, h1⟩ | ⟨b, D, lf, rfl, h2, h3, _⟩
  · exact (Array.getElem?_eq_some_iff.1 h1).1
  · exact h2.lt
theorem Rg.ne (h : Rg K w o r n f left cnt) {b : Nat} (hb : o = some b) : r ≠ b := by
  rcases h.ex with ⟨h1, _⟩ | ⟨b', D, lf, h1, h2, h3, _⟩
  · rw [h1] at hb; cases hb
  · rw [h1] at hb; cases hb; exact h2.ne
theorem Rg.keep (h : Rg K w o r n f left cnt) (hk : ∀ b, o = some b → w'.heap[b]? = w.heap[b]?) (hr : w'.heap[r]? = w.heap[r]?) : Rg K w' o r n f left cnt := by
  rcases h.ex with ⟨h1, h2, h3, h4, a, s, c, h5⟩ | ⟨b, D, lf, rfl, ⟨es, clock, since, seen, c0, g1, g2, g3, g4, g5, g6⟩, h3⟩
  · exact ⟨.inl ⟨h1, h2, h3, h4, a, s, c, hr.trans h5⟩⟩
  · exact ⟨.inr ⟨b, D, lf, rfl, ⟨es, clock, since, seen, c0, (hk b rfl).trans g1, g2, g3, g4, hr.trans g5, g6⟩, h3⟩⟩
/-- 'range m'. -/
theorem Mp.range (h : Mp K w o n f) {t e : TypeId} (ht : P.underlying t = some (.map k e)) :
    ∃ w' cnt, (Instr.range t (.map o)).run P w = .ok (.pointer (some ⟨w.heap.size, 0, none⟩)) w' ∧ Rg K w' o w.heap.size n f (fun x => (f x).isSome) cnt ∧ w.grownBy w' none ∧ w'.heap.size = w.heap.size + 1 := by
  rcases h.ex with ⟨rfl, h1⟩ | ⟨b, D, rfl, h2, h3⟩
  · exact ⟨_, 0, run_range_nilMap w t k e ht, ⟨.inl ⟨rfl, h1, fun x => by simp [h1], rfl, 0, #[], 0, heap_alloc_new w _⟩⟩, World.grownBy_alloc w _ none, by simp⟩
  · obtain ⟨w1, hrun, hrg, hg, hs⟩ := h2.range K.keyed ht
    refine ⟨w1, _, hrun, ⟨.inr ⟨b, D, _, rfl, hrg, h3, fun x hx => ?_, fun x hx => ?_⟩⟩, hg, hs⟩
    · cases hf : f x with
      | none => exact h3.no x hx hf
      | some v => exact (h3.yes x v hf).1
    · cases hf : f x with
      | none => rw [hf] at hx; cases hx
      | some v => exact h3.dom x v hf
theorem run_next_nil {w : World} {r a c : Nat} {s : Array Nat} (h : w.heap[r]? = some (.mapIter none a s c)) (ty : TypeId) : (Instr.next (.pointer (some ⟨r, 0, none⟩)) false ty).run P w = .ok (.tuple #[.bool false]) w := by
  simp only [Instr.next, getObj, Sem.run_bind, Sem.run, h, Result.andThen]
  rfl
/-- The step. -/
theorem Rg.next [DecidableEq κ] (h : Rg K w o r n f left cnt) (ty : TypeId) :
    ((∀ x, left x = false) ∧ (Instr.next (.pointer (some ⟨r, 0, none⟩)) false ty).run P w = .ok (.tuple #[.bool false]) w) ∨
    ∃ x v w' cnt', K.ok x ∧ left x = true ∧ f x = some v ∧ (Instr.next (.pointer (some ⟨r, 0, none⟩)) false ty).run P w = .ok (.tuple #[.bool true, K.val x, v]) w' ∧ Rg K w' o r n f (fun y => left y && decide (y ≠ x)) cnt' ∧ cnt' < cnt ∧ w.grownBy w' (some r) ∧ w'.heap.size = w.heap.size ∧
      (Instr.entry (.pointer (some ⟨r, 0, none⟩))).run P w' = .ok (.tuple #[K.val x, v]) w' := by
  rcases h.ex with ⟨rfl, h1, h2, h3, a, s, c, h4⟩ | ⟨b, D, lf, rfl, h2, h3, h4, h5⟩
  · exact .inl ⟨h2, run_next_nil h4 ty⟩
  · rcases h2.next K.keyed ty with ⟨_, hl, hrun⟩ | ⟨key, v, kl, y, w', cnt', hkey, hlk, hv, hat, hrun, hrg, hlt, hgr, hsz, hen⟩
    · refine .inl ⟨fun x => ?_, hrun⟩
      cases hx : left x with
      | false => rfl
      | true => rw [← h4 x (h5 x hx), hl] at hx; cases hx
    · obtain ⟨x, hx, rfl, rfl⟩ := K.inv _ _ hkey
      simp only [vR, Option.some.injEq] at hv
      have hy : y = (.held v, []) := hv.symm
      subst hy
      have hfx : f x = some v := by
        cases hf : f x with
        | none =>
          have := hat .nil
          rw [atKey_of_not_has (h3.no x hx hf)] at this
          cases this
        | some u =>
          have := hat .nil
          rw [(h3.yes x u hf).2] at this
          simp at this
          rw [this]
      refine .inr ⟨x, v, w', cnt', hx, by rw [← h4 x hx]; exact hlk, hfx, hrun, ⟨.inr ⟨b, D, _, rfl, hrg, h3, fun y hy => ?_, fun y hy => ?_⟩⟩, hlt, hgr, hsz, hen⟩
      · simp only [h4 y hy]
        congr 1
        by_cases hyx : y = x
        · subst hyx; simp [WideAt.sameKey_self (K.keyed.key hkey)]
        · simp [hyx, sameKey_ne fun e => hyx (K.inj _ _ e)]
      · simp at hy; exact h5 y hy.1
/-- 'delete(m, x)' in the round. -/
theorem Rg.drop [DecidableEq κ] (h : Rg K w o r n f left cnt) {t e : TypeId} (ht : P.underlying t = some (.map k e)) {x : κ} (hx : K.ok x) :
    ∃ w' cnt', (∀ ty, (Builtin.delete_ #[t, k] ty #[.map o, K.val x]).run P w = .ok (.tuple #[]) w') ∧ Rg K w' o r n (upd f x none) (fun y => left y && decide (y ≠ x)) cnt' ∧ cnt' ≤ cnt ∧ w.grownBy w' o ∧ w'.heap.size = w.heap.size ∧ ∀ a, w'.frozen? a = w.frozen? a := by
  rcases h.ex with ⟨rfl, h1, h2, h3, h4⟩ | ⟨b, D, lf, rfl, h2, h3, h4, h5⟩
  · exact ⟨w, cnt, fun ty => Maps.drop_nil K.keyed ht (K.is x hx) ty, ⟨.inl ⟨rfl, fun y => by simp [upd, h1], fun y => by simp [h2], h3, h4⟩⟩, Nat.le_refl _, World.grownBy.refl _ _, rfl, fun _ => rfl⟩
  · obtain ⟨w1, cnt1, hrun, hrg, hle, htu⟩ := h2.drop K.keyed ht (K.is x hx) 0
    refine ⟨w1, cnt1, fun ty => hrun, ⟨.inr ⟨b, _, _, rfl, hrg, h3.del x, fun y hy => ?_, fun y hy => ?_⟩⟩, hle, htu.grown, ?_, htu.frozen⟩
    · simp only [h4 y hy]
      congr 1
      by_cases hyx : y = x
      · subst hyx; simp [WideAt.sameKey_self (K.keyed.key (K.is y hy))]
      · simp [hyx, sameKey_ne fun e => hyx (K.inj _ _ e)]
    · simp at hy; exact h5 y hy.1
    · obtain ⟨es, c, es', c', _, rfl⟩ := htu
      simp [setBlock]
/-- The step, for the walk. -/
theorem wpNext [DecidableEq κ] {ops : Array Oper} {rest : List Oper} {op : Oper} {a : Act} {Q : Exit → Act → World → Prop} (hg : op.guard = none) (it : Operand) (hop : op.op = Op.next it false)
    (hit : a.eval it = .pointer (some ⟨r, 0, none⟩)) (h : Rg K w o r n f left cnt)
    (hDone : (∀ x, left x = false) → wpList P ops Q rest (a.put op.dst (.tuple #[.bool false])) w)
    (hMore : ∀ x v w' cnt', K.ok x → left x = true → f x = some v → Rg K w' o r n f (fun y => left y && decide (y ≠ x)) cnt' → cnt' < cnt → w.grownBy w' (some r) → w'.heap.size = w.heap.size →
      (Instr.entry (.pointer (some ⟨r, 0, none⟩))).run P w' = .ok (.tuple #[K.val x, v]) w' → wpList P ops Q rest (a.put op.dst (.tuple #[.bool true, K.val x, v])) w') :
    wpList P ops Q (op :: rest) a w := by
  refine wpList_plain hg fun K' hK' => ?_
  unfold Oper.wp
  rcases h.next op.type with ⟨hl, hrun⟩ | ⟨x, v, w', cnt', h1, h2, h3, hrun, h4, h5, h6, h7, h8⟩
  · simp [execOp, hop, hit, hrun, Result.andThen]
    exact hK' _ _ (hDone hl)
  · simp [execOp, hop, hit, hrun, Result.andThen]
    exact hK' _ _ (hMore x v w' cnt' h1 h2 h3 h4 h5 h6 h7 h8)
/-- The step, for the walk, where elements have a form. -/
theorem wpNextV [DecidableEq κ] {β : Type} (mkK : κ → Value) (hmk : ∀ x, K.val x = mkK x) (mkV : β → Value) (rel : κ → β → Prop) (hV : ∀ x v, f x = some v → ∃ c, v = mkV c ∧ rel x c) {ops : Array Oper} {rest : List Oper} {op : Oper} {a : Act} {Q : Exit → Act → World → Prop} (hg : op.guard = none) (it : Operand) (hop : op.op = Op.next it false)
    (hit : a.eval it = .pointer (some ⟨r, 0, none⟩)) (h : Rg K w o r n f left cnt)
    (hDone : (∀ x, left x = false) → wpList P ops Q rest (a.put op.dst (.tuple #[.bool false])) w)
    (hMore : ∀ x c w' cnt', K.ok x → left x = true → rel x c → Rg K w' o r n f (fun y => left y && decide (y ≠ x)) cnt' → cnt' < cnt → w.grownBy w' (some r) → w'.heap.size = w.heap.size →
      (Instr.entry (.pointer (some ⟨r, 0, none⟩))).run P w' = .ok (.tuple #[mkK x, mkV c]) w' → wpList P ops Q rest (a.put op.dst (.tuple #[.bool true, mkK x, mkV c])) w') :
    wpList P ops Q (op :: rest) a w :=
  wpNext hg it hop hit h hDone fun x v w' cnt' h1 h2 h3 h4 h5 h6 h7 h8 => by
    obtain ⟨c, rfl, hr⟩ := hV x v h3
    rw [hmk x] at h8 ⊢
    exact hMore x c w' cnt' h1 h2 hr h4 h5 h6 h7 h8
end
end Go.Ct
