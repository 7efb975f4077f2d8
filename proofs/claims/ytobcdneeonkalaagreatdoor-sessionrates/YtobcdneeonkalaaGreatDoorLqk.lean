/-
  A region that draws its order: operations that leave what was there as it was, and behind all of them others, in whatever order they come.
-/
import Derived.Test.YtobcdneeonkalaaGreatDoorLqn
namespace Go.Lq
section
variable {P : Program} {ops : Array Oper} {C : World → Prop} {md : Region.Mode}
def wpM (P : Program) (md : Region.Mode) (ops : Array Oper) (C : World → Prop) (Q : Array Bool → Act → Prop) : Nat → Array Bool → Act → Prop
  | 0, listed, a => Q listed a
  | fuel + 1, listed, a => Region.ready md ops listed ≠ [] ∧ ∀ i ∈ Region.ready md ops listed, qOp P ops C i (wpM P md ops C Q fuel (listed.setIfInBounds i true)) a
theorem wpAny_of_M {K : Nat} {Q : Array Bool → Act → Prop} {Q' : Exit → Act → World → Prop} (hQ : ∀ listed a w, C w → Q listed a → wpAny P md ops Q' K listed a w) : ∀ (fuel : Nat) (listed : Array Bool) (a : Act) (w : World), C w →
    wpM P md ops C Q fuel listed a → wpAny P md ops Q' (fuel + K) listed a w
  | 0, listed, a, w, hw, h => by rw [Nat.zero_add]; exact hQ listed a w hw h
  | fuel + 1, listed, a, w, hw, h => by
    rw [Nat.succ_add]
    exact ⟨fun h0 => absurd h0 h.1, fun i hi => wpOp_of_qOp hw (fun a' w' hw' => wpAny_of_M hQ fuel _ a' w' hw') (h.2 i hi)⟩
/-- Of the others none may come while one of the first n is left. -/
def Behind (md : Region.Mode) (ops : Array Oper) (n : Nat) : Prop := ∀ (i r : Nat) (listed : Array Bool), Closed md ops listed → i < n → n ≤ r → i ∈ Region.ready md ops listed → r ∉ Region.ready md ops listed
def AllUpto (n : Nat) (listed : Array Bool) : Prop := ∀ j, j < n → listed.getD j false = true
theorem wpM_first {n : Nat} {Q0 : Array Bool → Act → Prop} {i : Nat} {oi : Oper} {v : Value} (hn : Behind md ops n) (hin : i < n) (hi : ops[i]? = some oi) (hsel : ∀ (j : Nat) (o : Oper) cs b, ops[j]? = some o → o.op ≠ .select cs b) :
    ∀ (fuel : Nat) (listed : Array Bool) (a : Act), Closed md ops listed →
      (∀ j oj, ops[j]? = some oj → j ≠ i → listed.getD j true = false → (∀ e ∈ oj.after, Region.binds md e = true → e.on ≠ i) → oi.apart ops oj = true) →
      i ∈ Region.ready md ops listed → YieldsIn P ops C oi v a →
      wpM P md ops C (fun l a => AllUpto n l ∧ Q0 l a) fuel (listed.setIfInBounds i true) (a.put oi.dst v) → wpM P md ops C (fun l a => AllUpto n l ∧ Q0 l a) (fuel + 1) listed a := by
  intro fuel
  induction fuel with
  | zero =>
    intro listed a hcl _ hr hy H
    refine ⟨fun h => (by rw [h] at hr; cases hr), fun j hj => ?_⟩
    by_cases hji : j = i
    · subst hji; exact hy.qOp hi H
    · exfalso
      rcases Nat.lt_or_ge j n with hjn | hjn
      · have h1 := H.1 j hjn
        rw [getD_set_ne false (Ne.symm hji)] at h1
        have h2 := (mem_ready.1 hj).1
        rcases Nat.lt_or_ge j listed.size with h' | h'
        · simp [h'] at h1 h2; rw [h1] at h2; cases h2
        · simp [Array.getElem?_eq_none h'] at h1
      · exact hn i j listed hcl hin hjn hr hj
  | succ fuel ih =>
    intro listed a hcl hfree hr hy H
    refine ⟨fun h => (by rw [h] at hr; cases hr), fun j hj => ?_⟩
    by_cases hji : j = i
    · subst hji; exact hy.qOp hi H
    · have h1 := H.2 j (ready_mono hj hji)
      obtain ⟨hjun, oj, hoj, hall⟩ := mem_ready.1 hj
      have hnot : ∀ e ∈ oj.after, Region.binds md e = true → e.on ≠ i := fun e he hb heq => by
        have h1 := hall e he hb
        have h0 := (mem_ready.1 hr).1
        rw [heq] at h1
        rcases Nat.lt_or_ge i listed.size with h' | h'
        · simp [h'] at h0 h1; rw [h0] at h1; cases h1
        · simp [Array.getElem?_eq_none h'] at h1
      have h2 := qOp_put hoj (hfree j oj hoj hji hjun hnot) (fun cs b => hsel i oi cs b hi) (fun cs b => hsel j oj cs b hoj) hy h1
      have hfree' : ∀ k ok, ops[k]? = some ok → k ≠ i → (listed.setIfInBounds j true).getD k true = false →
          (∀ e ∈ ok.after, Region.binds md e = true → e.on ≠ i) → oi.apart ops ok = true := fun k ok hk hki hun hno => by
        refine hfree k ok hk hki ?_ hno
        by_cases hjk : j = k
        · subst hjk; exact hjun
        · rw [getD_set_ne true hjk] at hun; exact hun
      refine qOp_mono (fun a' h3 => ih (listed.setIfInBounds j true) a' (hcl.set hj) hfree' (ready_mono hr (Ne.symm hji)) h3.1 ?_) h2
      rw [Array.setIfInBounds_comm _ _ hji]
      exact h3.2
/-- In the order of the text: behind it, these are listed. -/
def lexM (md : Region.Mode) (ops : Array Oper) (n : Nat) : Nat → Nat → Array Bool → Option (Array Bool)
  | 0, _, listed => if (List.range n).all (fun j => listed.getD j false) then some listed else none
  | fuel + 1, k, listed => if decide (k < n) && (Region.ready md ops listed).contains k && Region.free md ops listed k then lexM md ops n fuel (k + 1) (listed.setIfInBounds k true) else none
theorem wpM_lex {n : Nat} {Q : Act → Prop} {fin : Array Bool} (hn : Behind md ops n) (hs : Region.noSelect ops = true) : ∀ (l : List Oper) (k : Nat) (listed : Array Bool) (a : Act), Closed md ops listed → (∀ j, j < l.length → l[j]? = ops[k + j]?) →
    lexM md ops n l.length k listed = some fin → wpQuiet P ops C Q l a → wpM P md ops C (fun l a => AllUpto n l ∧ (l = fin ∧ Q a)) l.length listed a
  | [], _, _, _, _, _, hB, h => by
    simp only [List.length_nil, lexM] at hB
    split at hB
    · rename_i hall
      injection hB with hB
      exact ⟨fun j hj => (List.all_eq_true.1 hall j (List.mem_range.2 hj)), hB, h⟩
    · cases hB
  | o :: l, k, listed, a, hcl, hl, hB, h => by
    have h0 : ops[k]? = some o := by simpa using (hl 0 (by simp)).symm
    simp only [List.length_cons, lexM] at hB
    split at hB
    · rename_i hc
      simp only [Bool.and_eq_true, decide_eq_true_eq] at hc
      obtain ⟨⟨hk, hr⟩, hf⟩ := hc
      have hr' : k ∈ Region.ready md ops listed := by simpa using hr
      have hst : qOp P ops C k (wpQuiet P ops C Q l) a := by unfold qOp; simp only [h0]; exact h
      obtain ⟨v, hy, hK⟩ := yieldsIn_of_qOp h0 hst
      exact wpM_first hn hk h0 (Region.noSelect_spec hs) l.length listed a hcl (Region.free_spec h0 hf) hr' hy
        (wpM_lex hn hs l (k + 1) _ _ (hcl.set hr') (fun j hj => by have := hl (j + 1) (by simpa using hj); simpa [Nat.add_assoc, Nat.add_comm 1 j] using this) hB hK)
    · cases hB
def behindB (md : Region.Mode) (ops : Array Oper) (n : Nat) : Bool := (List.range ops.size).all fun r => decide (r < n) || (List.range n).all fun i => anc md ops (ops.size + 1) r i
theorem behind_of {n : Nat} (h : behindB md ops n = true) : Behind md ops n := fun i r listed hcl hi hnr hr h' => by
  obtain ⟨_, o, ho, hall⟩ := mem_ready.1 h'
  have hrs : r < ops.size := (Array.getElem?_eq_some_iff.1 ho).1
  have h0 := List.all_eq_true.1 h r (List.mem_range.2 hrs)
  rw [Bool.or_eq_true, decide_eq_true_eq] at h0
  rcases h0 with h0 | h0
  · omega
  have h1 := List.all_eq_true.1 h0 i (List.mem_range.2 hi)
  unfold anc at h1
  rw [ho] at h1
  obtain ⟨e, he, hb⟩ := Array.any_eq_true'.1 h1
  simp only [Bool.and_eq_true, Bool.or_eq_true, beq_iff_eq] at hb
  have h4 := hall e he hb.1
  have h2 : listed.getD i false = true := by
    rcases hb.2 with h5 | h5
    · rw [← h5]; exact h4
    · exact anc_spec hcl _ _ _ h5 h4
  have h3 := (mem_ready.1 hr).1
  rcases Nat.lt_or_ge i listed.size with hz | hz
  · simp [hz] at h2 h3; rw [h2] at h3; cases h3
  · simp [Array.getElem?_eq_none hz] at h2
def lastLexK (ops : Array Oper) (n K : Nat) : Bool := behindB .any ops n && Region.noSelect ops && decide (ops.size = n + K)
/-- The first n operations leave what was there as it was, and come ahead of the others. -/
theorem wp_region_lastK {id : Nat} {Q : Exit → Act → World → Prop} {a : Act} {w : World} {ops : Array Oper} (C : World → Prop) (n K : Nat) (fin : Array Bool) (hm : P.follows .mixedOrders = true) (hB : lastLexK ops n K = true) (hL : lexM .any ops n n 0 (Array.replicate ops.size false) = some fin) (hC : C w.drew)
    (h : wpQuiet P ops C (fun a' => ∀ w', C w' → wpAny P .any ops Q K fin a' w') (ops.toList.take n) a) : (Code.region id ops true).wp P Q a w := by
  simp only [lastLexK, Bool.and_eq_true, decide_eq_true_eq] at hB
  obtain ⟨⟨h1, h2⟩, h4⟩ := hB
  refine wp_region_any hm ?_
  have hlen : (ops.toList.take n).length = n := by simp [h4]
  have hcl : Closed .any ops (Array.replicate ops.size false) := fun j o _ hj => by
    rw [Array.getD_eq_getD_getElem?, Array.getElem?_replicate] at hj
    split at hj <;> cases hj
  have h5 := wpM_lex (P := P) (C := C) (md := .any) (fin := fin) (behind_of h1) h2 (ops.toList.take n) 0 (Array.replicate ops.size false) a hcl (fun j hj => by
    rw [List.getElem?_take, if_pos (by rw [hlen] at hj; exact hj)]
    simp) (by rw [hlen]; exact hL) h
  rw [hlen] at h5
  have h6 := wpAny_of_M (Q' := Q) (K := K) (fun listed a' w' hw' hh => by obtain ⟨_, rfl, hh⟩ := hh; exact hh w' hw') n _ a { w with drawn := w.drawn + 1 } hC h5
  rw [h4] at h6 ⊢
  exact h6
/-- One of the others, if it alone may come. -/
theorem wpAny_one {K n : Nat} {Q : Exit → Act → World → Prop} {listed listed' : Array Bool} {a : Act} {w : World} {o : Oper} (hr : Region.ready .any ops listed = [n]) (hs : listed.setIfInBounds n true = listed') (h1 : ops[n]? = some o) (h2 : o.guard = none) (h : o.wp P a w (fun a' w' => wpAny P .any ops Q K listed' a' w') Q) : wpAny P .any ops Q (K + 1) listed a w := by
  subst hs
  refine ⟨fun h0 => (by rw [hr] at h0; cases h0), fun i hi => ?_⟩
  rw [hr, List.mem_singleton] at hi
  subst hi
  exact wpOp_last h1 h2 h
theorem wpAny_done {Q : Exit → Act → World → Prop} {listed : Array Bool} {a : Act} {w : World} (hr : Region.ready .any ops listed = []) (h : Q .normal a w) : wpAny P .any ops Q 0 listed a w := ⟨hr, h⟩
end
end Go.Lq
