/-
  A book: New, find, mark, mayLive.
-/
import Derived.Test.YtkfnjmkajhfhlaaCc
import Derived.BigQuiet
namespace Go.Proofs
open Go.RowKit Go.Wi Go.Ct
theorem Ct.str_ne {a b : ByteArray} (h : a ≠ b) : (a.toList == b.toList) = false := by
  rw [ByteArray.toList_eq, ByteArray.toList_eq]
  refine beq_false_of_ne fun e => h ?_
  cases a; cases b
  simp at e
  rw [e]
section
variable {w : World} {b n : Nat} {s : St} {g : Gh}
/-- The cells of the stream's i-th event. -/
theorem Try.Bx.evAt (h : Try.Bx w b s n g) {i : Nat} {x : Ev} (hi : s.ev[i]? = some x) : ∃ v cap, g.sv = .slice (some ⟨v, 0, none⟩) s.ev.length cap ∧ g.T v = .row ∧ w.cell? ⟨v, i * 3, none⟩ = some (.string x.1) ∧ w.cell? ⟨v, i * 3 + 1, none⟩ = some (.string x.2.1) ∧ w.cell? ⟨v, i * 3 + 2, none⟩ = some (.bool x.2.2) ∧ w.frozen? ⟨v, i * 3 + 2, none⟩ = false := by
  have hil : i < s.ev.length := (List.getElem?_eq_some_iff.1 hi).1
  rcases h.st.2 with ⟨h0, h1⟩ | ⟨v, cap, cur, h1, h2, h3, h4, h5, h6, h7⟩
  · omega
  · obtain ⟨a1, a2, a3⟩ := evC_get hi
    have key : ∀ j u, (evC s.ev)[j]? = some u → w.cell? ⟨v, j, none⟩ = some u := fun j u hu => by
      rw [cell_of_row _ _ _ _ _ _ h3]
      rw [← h7, List.getElem?_take] at hu
      split at hu
      · simpa using hu
      · cases hu
    refine ⟨v, cap, h1, h.tr v (by rw [h1]; rfl), key _ _ a1, key _ _ a2, key _ _ a3, frozen_of_row _ _ _ _ _ h3⟩
end
set_option maxHeartbeats 1000000 in
set_option maxRecDepth 20000 in
theorem Try.new_any (w : World) : Calls Try.prog 7 #[] w fun e w' => ∃ b g, e = .returned (.pointer (some ⟨b, 0, none⟩)) ∧ Try.Bx w' b St.new 0 g ∧ (∀ x, g.T x ≠ .no → w.heap.size ≤ x) ∧ Below w.heap.size w w' := by
  have hmm := @run_makeMap Try.prog
  go_enter Try.func7, Try.ntmps7
  go_wp2
  go_ret
  have e0 : (w.alloc (.map #[] 0)).heap.size = w.heap.size + 1 := by simp
  have e1 : ((w.alloc (.map #[] 0)).alloc (.map #[] 0)).heap.size = w.heap.size + 2 := by simp
  have p0 := Mp.made Try.kS w
  have p1 := Mp.made Try.kS (w.alloc (.map #[] 0))
  rw [e0] at p1
  have hb := heap_alloc_new ((w.alloc (.map #[] 0)).alloc (.map #[] 0)) (.cells #[.slice none 0 0, .map (some w.heap.size), .map (some (w.heap.size + 1))] 47)
  rw [e1] at hb
  refine ⟨w.heap.size + 2, ⟨.slice none 0 0, w.heap.size, w.heap.size + 1, fun _ => none, fun _ _ => none, fun _ _ => none, fun x => if x = w.heap.size then .places else if x = w.heap.size + 1 then .rooms else if x = w.heap.size + 2 then .book else .no⟩, rfl, ?_, fun x e => ?_, (((Below.refl _ w).alloc (Nat.le_refl _) _).alloc (by omega) _).alloc (by omega) _⟩
  · refine ⟨hb, World.ownsRow_nil _ _ _ _, ?_, ?_, fun r x e => (by cases e), fun r u p e => (by cases e), fun r u _ => ⟨rfl, fun _ => rfl⟩, fun _ _ _ => rfl, fun _ _ _ => rfl, by simp, fun x e => (by cases e), by simp, by simp, fun r x e => (by cases e), fun r u p e => (by cases e), fun r u x e => (by cases e), by simp [St.new]⟩
    · exact (p0.keep fun x e => by injection e with e; subst e; rw [Ct.alloc_old _ (by omega), Ct.alloc_old _ (by omega)])
    · exact (p1.keep fun x e => by injection e with e; subst e; rw [Ct.alloc_old _ (by omega)])
  · simp only at e
    by_cases h1 : x = w.heap.size
    · omega
    · by_cases h2 : x = w.heap.size + 1
      · omega
      · by_cases h3 : x = w.heap.size + 2
        · omega
        · simp [h1, h2, h3] at e
set_option maxHeartbeats 1000000 in
set_option maxRecDepth 20000 in
theorem Try.find_any {w : World} {b n : Nat} {s : St} {g : Gh} (h : Try.Bx w b s n g) (r e : ByteArray) (he : e.size ≤ maxLen) :
    Calls Try.prog 17 #[.pointer (some ⟨b, 0, none⟩), .string r, .string e] w fun z w' => z = .returned (.int .i64 (fnd s r e : Nat)) ∧ w' = w := by
  have c0 : w.cell? ⟨b, 0, none⟩ = some g.sv := cell_of_row _ _ 0 _ _ _ h.bl
  have c1 : w.cell? ⟨b, 1, none⟩ = some (.map (some g.bp)) := cell_of_row _ _ 1 _ _ _ h.bl
  have hlk : (Instr.lookup 43 (.map (some g.bp)) (.string e) false).run Try.prog w = .ok (((place s.ev e).map intP).getD (.int .i64 0)) w := h.pl.look Try.uPlaces (Try.zInt w) (x := e) he
  unfold fnd
  have hlen := h.len
  cases hp : place s.ev e with
  | none =>
    rw [hp] at hlk
    simp only [Option.map_none, Option.getD_none] at hlk
    clear h
    go_enter Try.func17, Try.ntmps17
    go_wp2
    go_ret
    exact ⟨rfl, rfl⟩
  | some k =>
    obtain ⟨h1, h2, x, h3, h4⟩ := place_get hp
    obtain ⟨i, rfl⟩ : ∃ i, k = i + 1 := ⟨k - 1, by omega⟩
    have h3' : s.ev[i]? = some x := by simpa using h3
    obtain ⟨v, cap, hsv, _, e1, _⟩ := h.evAt h3'
    rw [hp] at hlk
    simp only [Option.map_some, Option.getD_some, intP] at hlk
    rw [hsv] at c0
    simp only [h3]
    generalize s.ev.length = l at *
    clear h h3 h3' hp hsv h4
    have q0 : ((i + 1 : Nat) : Int) = (i : Int) + 1 := by omega
    rw [q0] at hlk
    have q1 : (i : Int) < (l : Int) := by omega
    have q2 : ¬ ((i : Int) + 1 = 0) := by omega
    by_cases hx : x.1 = r
    · simp only [hx, if_true, q0] at e1 ⊢
      go_enter Try.func17, Try.ntmps17
      go_wp2
      go_ret
      exact ⟨rfl, rfl⟩
    · have hne := Ct.str_ne hx
      simp only [hx, if_false]
      generalize x.1 = y at *
      go_enter Try.func17, Try.ntmps17
      go_wp2
      go_ret
      exact ⟨rfl, rfl⟩
/-- Where a page is looked up. -/
theorem Try.Bx.looks {w : World} {b n : Nat} {s : St} {g : Gh} (h : Try.Bx w b s n g) (r u : ByteArray) (hr : r.size ≤ maxLen) (hu : u.size ≤ maxLen) :
    (Instr.lookup 44 (.map (some g.br)) (.string r) false).run Try.prog w = .ok (.map (g.G r)) w ∧ (Instr.lookup 58 (.map (g.G r)) (.string u) false).run Try.prog w = .ok (.pointer ((g.H r u).map fun p => ⟨p, 0, none⟩)) w := by
  refine ⟨?_, ?_⟩
  · have := h.rm.look Try.uRooms (Try.zPages w) (x := r) hr
    refine Eq.trans this ?_
    cases g.G r <;> rfl
  · cases hG : g.G r with
    | none =>
      rw [h.gh r u hG]
      exact (Mp.nil Try.kS w 0).look Try.uPages (Try.zPage w) (x := u) hu
    | some x =>
      have := (h.us r x hG).look Try.uPages (Try.zPage w) (x := u) hu
      refine Eq.trans this ?_
      cases g.H r u <;> rfl
set_option maxHeartbeats 1000000 in
set_option maxRecDepth 20000 in
theorem Try.mark_any {w : World} {b n : Nat} {s : St} {g : Gh} (h : Try.Bx w b s n g) (u r : ByteArray) (hr : r.size ≤ maxLen) (hu : u.size ≤ maxLen) :
    Calls Try.prog 22 #[.pointer (some ⟨b, 0, none⟩), .string u, .string r] w fun z w' => z = .returned (.int .i64 (s.mr r u)) ∧ w' = w := by
  have c2 : w.cell? ⟨b, 2, none⟩ = some (.map (some g.br)) := cell_of_row _ _ 2 _ _ _ h.bl
  obtain ⟨h1, h2⟩ := h.looks r u hr hu
  cases hH : g.H r u with
  | none =>
    rw [hH] at h2
    rw [(h.no r u hH).1]
    clear h
    go_enter Try.func22, Try.ntmps22
    go_wp2
    go_ret
    exact ⟨rfl, rfl⟩
  | some p =>
    rw [hH] at h2
    have c3 : w.cell? ⟨p, 0, none⟩ = some (.int .i64 (s.mr r u)) := cell_of_row _ _ 0 _ _ _ (h.pg r u p hH).bl
    generalize s.mr r u = m at *
    clear h
    go_enter Try.func22, Try.ntmps22
    go_wp2
    go_ret
    exact ⟨rfl, rfl⟩
set_option maxHeartbeats 1000000 in
set_option maxRecDepth 20000 in
theorem Try.mayLive_any {w : World} {b n : Nat} {s : St} {g : Gh} (h : Try.Bx w b s n g) (u r e : ByteArray) (t : Bool) (i : Nat) (hi : s.ev[i]? = some (r, e, t)) (hr : r.size ≤ maxLen) (hu : u.size ≤ maxLen) :
    Calls Try.prog 18 #[.pointer (some ⟨b, 0, none⟩), .string u, .int .i64 ((i : Int) + 1)] w fun z w' => z = .returned (.bool (!t && decide (s.mr r u < (i : Int) + 1))) ∧ Below w.heap.size w w' := by
  have hil := (List.getElem?_eq_some_iff.1 hi).1
  have hlen := h.len
  obtain ⟨v, cap, hsv, _, e1, e2, e3, _⟩ := h.evAt hi
  have c0 : w.cell? ⟨b, 0, none⟩ = some g.sv := cell_of_row _ _ 0 _ _ _ h.bl
  rw [hsv] at c0
  have hbl := block_lt h.bl
  have hmk := Try.mark_any (h.below ((Below.refl w.heap.size w).alloc (Nat.le_refl _) (.cells #[.string r, .string e, .bool t] 49))) u r hr hu
  generalize s.ev.length = l at *
  have q1 : (i : Int) < (l : Int) := by omega
  simp only at e1 e2 e3
  clear h hsv hi
  cases t with
  | true =>
    go_enter Try.func18, Try.ntmps18
    go_wp2
    go_ret
    exact ⟨rfl, (Below.refl _ w).alloc (Nat.le_refl _) _⟩
  | false =>
    go_enter Try.func18, Try.ntmps18
    go_wp2_with (first
      | (go_at_call 22; refine hmk.mono ?_; clear hmk; rintro z w2 ⟨rfl, rfl⟩)
      | fail)
    go_ret
    exact ⟨by simp, (Below.refl _ w).alloc (Nat.le_refl _) _⟩
end Go.Proofs
