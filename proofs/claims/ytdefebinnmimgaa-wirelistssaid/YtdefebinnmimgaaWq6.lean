/-
  WireLists: what its walk wants.
-/
import Derived.Test.YtdefebinnmimgaaWp6
namespace Go.Wi
open Go.RowKit Go.Proofs
theorem lists_int (n : Nat) (hn : n ≤ 214748364) (r : List UInt8) : (Rs.mk (cnt n ++ r) 0 none).int = (unzig n, ⟨cnt n ++ r, (cnt n).length, none⟩) := by
  have hb : -9223372036854775808 ≤ unzig n ∧ unzig n ≤ 9223372036854775807 := by unfold unzig; split <;> omega
  have := int_read [] r (unzig n) hb.1 hb.2
  rw [zig_unzig] at this
  simpa using this
theorem lists_cnt (n : Nat) (hn : n ≤ 214748364) (r : List UInt8) : (Rs.mk (cnt n ++ r) 0 none).cnt = (n, ⟨cnt n ++ r, (cnt n).length, none⟩) := by
  have := cnt_read [] r n (by omega)
  simpa using this
theorem lists_thing (n : Nat) (hn : n ≤ 214748364) (r : List UInt8) : Wi.thing ⟨cnt n ++ r, 0, none⟩ (n : Int) = (n, ⟨cnt n ++ r, (cnt n).length, none⟩) := by
  unfold Wi.thing
  rw [lists_cnt n hn r, if_neg (by simp only; omega)]
theorem lists_none (n : Nat) (hn : n ≤ 214748364) (r : List UInt8) (m : Int) (hm : m < n) : (Wi.thing ⟨cnt n ++ r, 0, none⟩ m).1 = 0 ∧ (Wi.thing ⟨cnt n ++ r, 0, none⟩ m).2.f = some 0 := by
  unfold Wi.thing
  rw [lists_cnt n hn r, if_pos (.inr (by simpa using hm))]
  exact ⟨rfl, rfl⟩
theorem cut_thing : Wi.thing ⟨[5], 0, none⟩ 9 = (5, ⟨[5], 1, none⟩) := by kernel_rfl
theorem cut_text : (Rs.mk [5] 1 none).text.2.f = some 1 := by kernel_rfl
/-- What lies behind the first lists. -/
theorem ys_split {ll : List (List ByteArray)} {k : Nat} (h : k < ll.length) : ys ll = ys (ll.take k) ++ (cnt ll[k].length ++ (xs ll[k] ++ ys (ll.drop (k + 1)))) := by
  have e2 : ll = ll.take k ++ (ll[k] :: ll.drop (k + 1)) := by rw [← List.drop_eq_getElem_cons h, List.take_append_drop]
  conv => lhs; rw [e2, ys_app]
  show _ ++ (yb ll[k] ++ _) = _
  unfold yb
  simp only [List.append_assoc]
  rfl
theorem ys_next {ll : List (List ByteArray)} {k : Nat} (h : k < ll.length) : ys (ll.take (k + 1)) = ys (ll.take k) ++ (cnt ll[k].length ++ xs ll[k]) := by
  rw [← List.take_append_getElem h, ys_app]
  simp [ys, yb]
end Go.Wi
namespace Go.Proofs
open Go.RowKit Go.Wi
theorem Try.newWriter_one (w : World) :
    Calls Try.prog 13 #[] w fun e w' => ∃ x, e = .returned (.pointer (some ⟨x, 0, none⟩)) ∧ Try.Wt 88 w' (fun k => k = x) x [] ∧ w.heap.size ≤ x ∧ x < w'.heap.size ∧ Below w.heap.size w w' := by
  go_enter Try.func13, Try.ntmps13
  go_wp2
  go_ret
  refine ⟨w.heap.size, rfl, ⟨⟨_, heap_alloc_new w _, World.ownsRow_nil _ _ _ _, by simp [Value.ownBlock], fun k e => by cases e⟩, rfl, fun k e => by subst e; simp⟩, Nat.le_refl _, by simp, (Below.refl _ w).alloc (Nat.le_refl _) _⟩
theorem Wi.Lent.keep {B : Nat} {w w' : World} {v : Value} {ll : List (List ByteArray)} (h : Wi.Lent B w v ll) (hk : ∀ g, B ≤ g → g < w.heap.size → w'.heap[g]? = w.heap[g]?) (hs : w.heap.size ≤ w'.heap.size) : Wi.Lent B w' v ll := by
  obtain ⟨g, c, h1, h2, h3, h4, h5⟩ := h.ex
  have hc : ∀ g i, (B ≤ g ∧ g < w.heap.size) → w'.cell? ⟨g, i, none⟩ = w.cell? ⟨g, i, none⟩ := fun g i hg => World.cell?_of_block (w := w) (a := ⟨g, i, none⟩) (hk g hg.1 hg.2)
  refine ⟨g, c, h1, h2, ⟨h3.1, by omega⟩, fun j hj => ?_, fun j hj1 hj2 => ?_⟩
  · obtain ⟨gj, cj, k1, k2, k3, k4, k5⟩ := h4 j hj
    exact ⟨gj, cj, (hc g j h3).trans k1, k2, ⟨k3.1, by omega⟩, fun i hi => (hc gj i k3).trans (k4 i hi), fun i hi1 hi2 => (hc gj i k3).trans (k5 i hi1 hi2)⟩
  · obtain ⟨x, k1, k2, k3⟩ := h5 j hj1 hj2
    exact ⟨x, (hc g j h3).trans k1, ⟨k2.1, by omega⟩, (hc x 0 k2).trans k3⟩
theorem Try.RS.of {B : Nat} {w0 w : World} {x : Nat} {s : Rs} {g : Nat} {O : Obj} (h : Try.RB B w0 w x s) (hg : w.heap[g]? = some O) (hgB : g < B) : Try.RS B w0 w x s (.slice .none 0 0) [] g O := by
  obtain ⟨oR, h1, h2⟩ := h.ex
  exact ⟨⟨oR, h1, h2, World.ownsRow_nil _ _ _ _, (fun k e => by cases e), hg, (fun e => by have := h2 _ e; omega), (fun e => by cases e)⟩, h.bel⟩
end Go.Proofs
