/-
  A region that draws its order, of operations that read, and of one at its end, behind all others, that may do anything.
-/
import Derived.Deep.QuietTactic
import Derived.KernelRfl
namespace Go.Lq
section
variable {P : Program} {ops : Array Oper} {C : World → Prop} {md : Region.Mode}
/-- Operation n is left. -/
def wpL (P : Program) (md : Region.Mode) (ops : Array Oper) (C : World → Prop) (n : Nat) (Q : Act → Prop) : Nat → Array Bool → Act → Prop
  | 0, listed, a => (Region.ready md ops listed = [n] ∧ Region.ready md ops (listed.setIfInBounds n true) = []) ∧ Q a
  | fuel + 1, listed, a => Region.ready md ops listed ≠ [] ∧ ∀ i ∈ Region.ready md ops listed, qOp P ops C i (wpL P md ops C n Q fuel (listed.setIfInBounds i true)) a
theorem wpAny_of_L {n : Nat} {Q : Act → Prop} {Q' : Exit → Act → World → Prop} (hQ : ∀ a w, C w → Q a → wpOp P ops Q' n (fun a' w' => Q' .normal a' w') a w) : ∀ (fuel : Nat) (listed : Array Bool) (a : Act) (w : World), C w →
    wpL P md ops C n Q fuel listed a → wpAny P md ops Q' (fuel + 1) listed a w
  | 0, listed, a, w, hw, h => by
    refine ⟨fun h0 => ?_, fun i hi => ?_⟩
    · rw [h.1.1] at h0
      cases h0
    · rw [h.1.1, List.mem_singleton] at hi
      subst hi
      exact wpOp_mono (fun a' w' hh => ⟨h.1.2, hh⟩) (hQ a w hw h.2)
  | fuel + 1, _, _, _, hw, h => ⟨fun h0 => absurd h0 h.1, fun i hi => wpOp_of_qOp hw (fun a' w' hw' => wpAny_of_L hQ fuel _ a' w' hw') (h.2 i hi)⟩
/-- All others stand ahead of operation n. -/
def lastB (md : Region.Mode) (ops : Array Oper) (n : Nat) : Bool := match ops[n]? with
  | none => false
  | some o => (List.range n).all fun i => o.after.any fun e => Region.binds md e && e.on == i
theorem not_ready {n i : Nat} (hn : lastB md ops n = true) (hi : i < n) {listed : Array Bool} (hr : i ∈ Region.ready md ops listed) : n ∉ Region.ready md ops listed := fun h => by
  obtain ⟨_, o, ho, hall⟩ := mem_ready.1 h
  unfold lastB at hn
  rw [ho] at hn
  have h1 := List.all_eq_true.1 hn i (List.mem_range.2 hi)
  obtain ⟨e, he, hb⟩ := Array.any_eq_true'.1 h1
  simp only [Bool.and_eq_true, beq_iff_eq] at hb
  have h2 := hall e he hb.1
  have h3 := (mem_ready.1 hr).1
  rw [hb.2] at h2
  rcases Nat.lt_or_ge i listed.size with h' | h'
  · simp [h'] at h2 h3; rw [h2] at h3; cases h3
  · simp [Array.getElem?_eq_none h'] at h2
theorem wpL_first {n : Nat} {Q : Act → Prop} {i : Nat} {oi : Oper} {v : Value} (hn : lastB md ops n = true) (hin : i < n) (hi : ops[i]? = some oi) (hsel : ∀ (j : Nat) (o : Oper) cs b, ops[j]? = some o → o.op ≠ .select cs b) :
    ∀ (fuel : Nat) (listed : Array Bool) (a : Act),
      (∀ j oj, ops[j]? = some oj → j ≠ i → listed.getD j true = false → (∀ e ∈ oj.after, Region.binds md e = true → e.on ≠ i) → oi.apart ops oj = true) →
      i ∈ Region.ready md ops listed → YieldsIn P ops C oi v a →
      wpL P md ops C n Q fuel (listed.setIfInBounds i true) (a.put oi.dst v) → wpL P md ops C n Q (fuel + 1) listed a := by
  intro fuel
  induction fuel with
  | zero =>
    intro listed a _ hr hy H
    refine ⟨fun h => (by rw [h] at hr; cases hr), fun j hj => ?_⟩
    by_cases hji : j = i
    · subst hji; exact hy.qOp hi H
    · have := ready_mono hj hji
      rw [H.1.1, List.mem_singleton] at this
      subst this
      exact absurd hj (not_ready hn hin hr)
  | succ fuel ih =>
    intro listed a hfree hr hy H
    refine ⟨fun h => (by rw [h] at hr; cases hr), fun j hj => ?_⟩
    by_cases hji : j = i
    · subst hji; exact hy.qOp hi H
    · have h1 := H.2 j (ready_mono hj hji)
      obtain ⟨hjun, oj, hoj, hall⟩ := mem_ready.1 hj
      have hnot : ∀ e ∈ oj.after, Region.binds md e = true → e.on ≠ i := fun e he hb heq => by
        have h1 := hall e he hb
        have h0 := (mem_ready.1 hr).1
        rw [heq] at h1
        rcases Nat.lt_or_ge i listed.size with h' | h'
        · simp [h'] at h0 h1; rw [h0] at h1; cases h1
        · simp [Array.getElem?_eq_none h'] at h1
      have h2 := qOp_put hoj (hfree j oj hoj hji hjun hnot) (fun cs b => hsel i oi cs b hi) (fun cs b => hsel j oj cs b hoj) hy h1
      have hfree' : ∀ k ok, ops[k]? = some ok → k ≠ i → (listed.setIfInBounds j true).getD k true = false →
          (∀ e ∈ ok.after, Region.binds md e = true → e.on ≠ i) → oi.apart ops ok = true := fun k ok hk hki hun hno => by
        refine hfree k ok hk hki ?_ hno
        by_cases hjk : j = k
        · subst hjk; exact hjun
        · rw [getD_set_ne true hjk] at hun; exact hun
      refine qOp_mono (fun a' h3 => ih (listed.setIfInBounds j true) a' hfree' (ready_mono hr (Ne.symm hji)) h3.1 ?_) h2
      rw [Array.setIfInBounds_comm _ _ hji]
      exact h3.2
/-- In the order of the text. -/
def lexL (md : Region.Mode) (ops : Array Oper) (n : Nat) : Nat → Nat → Array Bool → Bool
  | 0, _, listed => decide (Region.ready md ops listed = [n]) && decide (Region.ready md ops (listed.setIfInBounds n true) = [])
  | fuel + 1, k, listed => decide (k < n) && (Region.ready md ops listed).contains k && Region.free md ops listed k && lexL md ops n fuel (k + 1) (listed.setIfInBounds k true)
theorem wpL_lex {n : Nat} {Q : Act → Prop} (hn : lastB md ops n = true) (hs : Region.noSelect ops = true) : ∀ (l : List Oper) (k : Nat) (listed : Array Bool) (a : Act), (∀ j, j < l.length → l[j]? = ops[k + j]?) →
    lexL md ops n l.length k listed = true → wpQuiet P ops C Q l a → wpL P md ops C n Q l.length listed a
  | [], _, _, _, _, hB, h => by
    simp only [List.length_nil, lexL, Bool.and_eq_true, decide_eq_true_eq] at hB
    exact ⟨hB, h⟩
  | o :: l, k, listed, a, hl, hB, h => by
    have h0 : ops[k]? = some o := by simpa using (hl 0 (by simp)).symm
    simp only [List.length_cons, lexL, Bool.and_eq_true, decide_eq_true_eq] at hB
    obtain ⟨⟨⟨hk, hr⟩, hf⟩, hB'⟩ := hB
    have hst : qOp P ops C k (wpQuiet P ops C Q l) a := by unfold qOp; simp only [h0]; exact h
    obtain ⟨v, hy, hK⟩ := yieldsIn_of_qOp h0 hst
    exact wpL_first hn hk h0 (Region.noSelect_spec hs) l.length listed a (Region.free_spec h0 hf) (by simpa using hr) hy
      (wpL_lex hn hs l (k + 1) _ _ (fun j hj => by have := hl (j + 1) (by simpa using hj); simpa [Nat.add_assoc, Nat.add_comm 1 j] using this) hB' hK)
def lastLex (ops : Array Oper) (n : Nat) : Bool := lastB .any ops n && Region.noSelect ops && lexL .any ops n n 0 (Array.replicate ops.size false) && decide (ops.size = n + 1)
theorem wp_region_last {id : Nat} {Q : Exit → Act → World → Prop} {a : Act} {w : World} {ops : Array Oper} (n : Nat) (hm : P.follows .mixedOrders = true) (hB : lastLex ops n = true)
    (h : wpQuiet P ops (fun w' => ∃ k, w' = w.drewN k) (fun a' => ∀ w', (∃ k, w' = w.drewN k) → wpOp P ops Q n (fun a w => Q .normal a w) a' w') ops.toList.dropLast a) : (Code.region id ops true).wp P Q a w := by
  simp only [lastLex, Bool.and_eq_true, decide_eq_true_eq] at hB
  obtain ⟨⟨⟨h1, h2⟩, h3⟩, h4⟩ := hB
  refine wp_region_any hm ?_
  have hlen : ops.toList.dropLast.length = n := by simp [h4]
  have h5 := wpL_lex (P := P) (C := fun w' => ∃ k, w' = w.drewN k) (md := .any) h1 h2 ops.toList.dropLast 0 (Array.replicate ops.size false) a (fun j hj => by
    rw [List.getElem?_dropLast, if_pos (by simpa using hj)]
    simp) (by rw [hlen]; exact h3) h
  rw [hlen] at h5
  have h6 := wpAny_of_L (Q' := Q) (fun a' w' hw' hh => hh w' hw') n _ a { w with drawn := w.drawn + 1 } ⟨1, rfl⟩ h5
  rw [h4] at h6 ⊢
  exact h6
theorem wpOp_last {Q : Exit → Act → World → Prop} {n : Nat} {K : Act → World → Prop} {a : Act} {w : World} {o : Oper} (h1 : ops[n]? = some o) (h2 : o.guard = none) (h : o.wp P a w K Q) : wpOp P ops Q n K a w := by
  unfold wpOp
  simp only [h1]
  rw [if_pos (by simp [Region.wanted, h2])]
  exact .inl h
end
end Go.Lq
