/-
  A region that draws its order, all of whose operations but the last one leave what was there as it was; what the last one waits for, it may wait for by way of others.
-/
import Derived.Test.YtlfiebapfgpchaaGreatDoorSqIi
namespace Go.Lq
section
variable {P : Program} {ops : Array Oper} {C : World → Prop}
variable {md : Region.Mode}
/-- n waits for i, be it by way of others. -/
def anc (md : Region.Mode) (ops : Array Oper) : Nat → Nat → Nat → Bool
  | 0, _, _ => false
  | f + 1, n, i => match ops[n]? with
    | none => false
    | some o => o.after.any fun e => Region.binds md e && (e.on == i || anc md ops f e.on i)
theorem anc_spec {listed : Array Bool} (hcl : Closed md ops listed) : ∀ (f j i : Nat), anc md ops f j i = true → listed.getD j false = true → listed.getD i false = true
  | 0, _, _, h, _ => by cases h
  | f + 1, j, i, h, hj => by
    unfold anc at h
    cases ho : ops[j]? with
    | none => rw [ho] at h; cases h
    | some o =>
      rw [ho] at h
      obtain ⟨e, he, hb⟩ := Array.any_eq_true'.1 h
      simp only [Bool.and_eq_true, Bool.or_eq_true, beq_iff_eq] at hb
      have h1 := hcl j o ho hj e he hb.1
      rcases hb.2 with h2 | h2
      · rw [← h2]; exact h1
      · exact anc_spec hcl f e.on i h2 h1
/-- All others stand ahead of operation n. -/
def lastBN (md : Region.Mode) (ops : Array Oper) (n : Nat) : Bool := (List.range n).all fun i => anc md ops (n + 1) n i
theorem not_readyN {n i : Nat} (hn : lastBN md ops n = true) (hi : i < n) {listed : Array Bool} (hcl : Closed md ops listed) (hr : i ∈ Region.ready md ops listed) : n ∉ Region.ready md ops listed := fun h => by
  obtain ⟨_, o, ho, hall⟩ := mem_ready.1 h
  have h1 := List.all_eq_true.1 hn i (List.mem_range.2 hi)
  unfold anc at h1
  rw [ho] at h1
  obtain ⟨e, he, hb⟩ := Array.any_eq_true'.1 h1
  simp only [Bool.and_eq_true, Bool.or_eq_true, beq_iff_eq] at hb
  have h4 := hall e he hb.1
  have h2 : listed.getD i false = true := by
    rcases hb.2 with h5 | h5
    · rw [← h5]; exact h4
    · exact anc_spec hcl _ _ _ h5 h4
  have h3 := (mem_ready.1 hr).1
  rcases Nat.lt_or_ge i listed.size with h' | h'
  · simp [h'] at h2 h3; rw [h2] at h3; cases h3
  · simp [Array.getElem?_eq_none h'] at h2
theorem wpL_firstN {n : Nat} {Q : Act → Prop} {i : Nat} {oi : Oper} {v : Value} (hn : ∀ (i : Nat) (listed : Array Bool), Closed md ops listed → i < n → i ∈ Region.ready md ops listed → n ∉ Region.ready md ops listed) (hin : i < n) (hi : ops[i]? = some oi) (hsel : ∀ (j : Nat) (o : Oper) cs b, ops[j]? = some o → o.op ≠ .select cs b) :
    ∀ (fuel : Nat) (listed : Array Bool) (a : Act), Closed md ops listed →
      (∀ j oj, ops[j]? = some oj → j ≠ i → listed.getD j true = false → (∀ e ∈ oj.after, Region.binds md e = true → e.on ≠ i) → oi.apart ops oj = true) →
      i ∈ Region.ready md ops listed → YieldsIn P ops C oi v a →
      wpL P md ops C n Q fuel (listed.setIfInBounds i true) (a.put oi.dst v) → wpL P md ops C n Q (fuel + 1) listed a := by
  intro fuel
  induction fuel with
  | zero =>
    intro listed a hcl _ hr hy H
    refine ⟨fun h => (by rw [h] at hr; cases hr), fun j hj => ?_⟩
    by_cases hji : j = i
    · subst hji; exact hy.qOp hi H
    · have := ready_mono hj hji
      rw [H.1.1, List.mem_singleton] at this
      subst this
      exact absurd hj (hn i listed hcl hin hr)
  | succ fuel ih =>
    intro listed a hcl hfree hr hy H
    refine ⟨fun h => (by rw [h] at hr; cases hr), fun j hj => ?_⟩
    by_cases hji : j = i
    · subst hji; exact hy.qOp hi H
    · have h1 := H.2 j (ready_mono hj hji)
      obtain ⟨hjun, oj, hoj, hall⟩ := mem_ready.1 hj
      have hnot : ∀ e ∈ oj.after, Region.binds md e = true → e.on ≠ i := fun e he hb heq => by
        have h1 := hall e he hb
        have h0 := (mem_ready.1 hr).1
        rw [heq] at h1
        rcases Nat.lt_or_ge i listed.size with h' | h'
        · simp [h'] at h0 h1; rw [h0] at h1; cases h1
        · simp [Array.getElem?_eq_none h'] at h1
      have h2 := qOp_put hoj (hfree j oj hoj hji hjun hnot) (fun cs b => hsel i oi cs b hi) (fun cs b => hsel j oj cs b hoj) hy h1
      have hfree' : ∀ k ok, ops[k]? = some ok → k ≠ i → (listed.setIfInBounds j true).getD k true = false →
          (∀ e ∈ ok.after, Region.binds md e = true → e.on ≠ i) → oi.apart ops ok = true := fun k ok hk hki hun hno => by
        refine hfree k ok hk hki ?_ hno
        by_cases hjk : j = k
        · subst hjk; exact hjun
        · rw [getD_set_ne true hjk] at hun; exact hun
      refine qOp_mono (fun a' h3 => ih (listed.setIfInBounds j true) a' (hcl.set hj) hfree' (ready_mono hr (Ne.symm hji)) h3.1 ?_) h2
      rw [Array.setIfInBounds_comm _ _ hji]
      exact h3.2
theorem wpL_lexN {n : Nat} {Q : Act → Prop} (hn : ∀ (i : Nat) (listed : Array Bool), Closed md ops listed → i < n → i ∈ Region.ready md ops listed → n ∉ Region.ready md ops listed) (hs : Region.noSelect ops = true) : ∀ (l : List Oper) (k : Nat) (listed : Array Bool) (a : Act), Closed md ops listed → (∀ j, j < l.length → l[j]? = ops[k + j]?) →
    lexL md ops n l.length k listed = true → wpQuiet P ops C Q l a → wpL P md ops C n Q l.length listed a
  | [], _, _, _, _, _, hB, h => by
    simp only [List.length_nil, lexL, Bool.and_eq_true, decide_eq_true_eq] at hB
    exact ⟨hB, h⟩
  | o :: l, k, listed, a, hcl, hl, hB, h => by
    have h0 : ops[k]? = some o := by simpa using (hl 0 (by simp)).symm
    simp only [List.length_cons, lexL, Bool.and_eq_true, decide_eq_true_eq] at hB
    obtain ⟨⟨⟨hk, hr⟩, hf⟩, hB'⟩ := hB
    have hr' : k ∈ Region.ready md ops listed := by simpa using hr
    have hst : qOp P ops C k (wpQuiet P ops C Q l) a := by unfold qOp; simp only [h0]; exact h
    obtain ⟨v, hy, hK⟩ := yieldsIn_of_qOp h0 hst
    exact wpL_firstN hn hk h0 (Region.noSelect_spec hs) l.length listed a hcl (Region.free_spec h0 hf) hr' hy
      (wpL_lexN hn hs l (k + 1) _ _ (hcl.set hr') (fun j hj => by have := hl (j + 1) (by simpa using hj); simpa [Nat.add_assoc, Nat.add_comm 1 j] using this) hB' hK)
def lastLexN (ops : Array Oper) (n : Nat) : Bool := lastBN .any ops n && Region.noSelect ops && lexL .any ops n n 0 (Array.replicate ops.size false) && decide (ops.size = n + 1)
theorem wp_region_lastN {id : Nat} {Q : Exit → Act → World → Prop} {a : Act} {w : World} {ops : Array Oper} (C : World → Prop) (n : Nat) (hm : P.follows .mixedOrders = true) (hB : lastLexN ops n = true) (hC : C w.drew)
    (h : wpQuiet P ops C (fun a' => ∀ w', C w' → wpOp P ops Q n (fun a w => Q .normal a w) a' w') ops.toList.dropLast a) : (Code.region id ops true).wp P Q a w := by
  simp only [lastLexN, Bool.and_eq_true, decide_eq_true_eq] at hB
  obtain ⟨⟨⟨h1, h2⟩, h3⟩, h4⟩ := hB
  refine wp_region_any hm ?_
  have hlen : ops.toList.dropLast.length = n := by simp [h4]
  have hcl : Closed .any ops (Array.replicate ops.size false) := fun j o _ hj => by
    rw [Array.getD_eq_getD_getElem?, Array.getElem?_replicate] at hj
    split at hj <;> cases hj
  have h5 := wpL_lexN (P := P) (C := C) (md := .any) (fun i listed hc hi hr => not_readyN h1 hi hc hr) h2 ops.toList.dropLast 0 (Array.replicate ops.size false) a hcl (fun j hj => by
    rw [List.getElem?_dropLast, if_pos (by simpa using hj)]
    simp) (by rw [hlen]; exact h3) h
  rw [hlen] at h5
  have h6 := wpAny_of_L (Q' := Q) (fun a' w' hw' hh => hh w' hw') n _ a { w with drawn := w.drawn + 1 } hC h5
  rw [h4] at h6 ⊢
  exact h6
end
end Go.Lq
