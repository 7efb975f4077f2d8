/-
  What is read is sound, and is printed in no more bytes: lists, objects, values. Nothing of the program.
-/
import Derived.Test.YtelhjocmiamfiaaGreatDoorJgb
import Derived.Sort.Walk0
namespace Go.Jv
open Go.Lib
theorem prL_snoc (l : List V) (x : V) : (prL false (l ++ [x])).length = (prL false l).length + (if l.length = 0 then 0 else 1) + (pr x).length := by
  have ht : ∀ (l : List V), (prL true (l ++ [x])).length = (prL true l).length + 1 + (pr x).length := by
    intro l
    induction l with
    | nil => simp [prL, comma]; omega
    | cons y r ih => simp only [List.cons_append, prL, List.length_append]; omega
  cases l with
  | nil => simp [prL, comma]
  | cons y r =>
    have := ht r
    simp only [List.cons_append, prL, List.length_append, List.length_cons] at this ⊢
    rw [if_neg (by omega)]
    omega
theorem list_gd (t : ByteArray) (d : Nat) (val : Nat → R (V × Nat)) (hval : ∀ p x, val p = .ok x → p ≤ t.size → Gd d x.1 ∧ p + (pr x.1).length ≤ x.2 ∧ x.2 ≤ t.size) : ∀ (n p : Nat) (had : List V) (v : V) (q : Nat), listFrom t val n p had = .ok (v, q) → had.length ≤ 64 → (∀ u ∈ had, Gd d u) →
    ∃ l, v = .list l ∧ l.length ≤ 64 ∧ (∀ u ∈ l, Gd d u) ∧ (prL false l).length + p + 1 ≤ (prL false had).length + q ∧ q ≤ t.size
  | 0, p, had, v, q, h, _, _ => by rw [listFrom] at h; cases h
  | n + 1, p, had, v, q, h, h64, hgd => by
    rw [listFrom] at h
    obtain ⟨m, h1, h⟩ := bind_ok h
    obtain ⟨m1, m2, m3⟩ := more_in h1
    split at h
    · rename_i hm
      injection h with h
      injection h with h h'
      subst h h'
      have := m2 hm
      exact ⟨had, rfl, h64, hgd, by omega, m1⟩
    · rename_i hm
      obtain ⟨m4, m5, m6⟩ := m3 (by simpa using hm)
      obtain ⟨x, h2, h⟩ := bind_ok h
      obtain ⟨v1, v2, v3⟩ := hval _ _ h2 m1
      obtain ⟨l, r1, r2, r3, r4, r5⟩ := list_gd t d val hval n x.2 (had ++ [x.1]) v q h (by simp; omega) (fun u hu => by
        simp only [List.mem_append, List.mem_singleton] at hu
        rcases hu with hu | rfl
        · exact hgd u hu
        · exact v1)
      rw [prL_snoc] at r4
      exact ⟨l, r1, r2, r3, by omega, r5⟩
/-- How many bytes members are, without their commas. -/
def mem1 (k : ByteArray) (v : V) : Nat := (qText k).length + 1 + (pr v).length
def sumO : List ByteArray → List V → Nat
  | k :: ks, v :: vs => mem1 k v + sumO ks vs
  | _, _ => 0
theorem prO_len : ∀ (ks : List ByteArray) (vs : List V) (c : Bool), ks.length = vs.length → (prO c ks vs).length + (if c = false ∧ 0 < vs.length then 1 else 0) = sumO ks vs + vs.length
  | [], [], c, _ => by simp [prO, sumO]
  | [], _ :: _, _, h => by simp at h
  | _ :: _, [], _, h => by simp at h
  | k :: ks, v :: vs, c, h => by
    have ih := prO_len ks vs true (by simpa using h)
    simp only [prO, sumO, mem1, List.length_append, List.length_cons, List.length_nil] at ih ⊢
    cases c
    · simp [comma] at ih ⊢
      omega
    · simp [comma] at ih ⊢
      omega
theorem sumO_ins : ∀ (ks : List ByteArray) (vs : List V) (i : Nat) (k : ByteArray) (v : V), ks.length = vs.length → i ≤ ks.length → sumO (insertAt ks i k) (insertAt vs i v) = sumO ks vs + mem1 k v
  | ks, vs, 0, k, v, _, _ => by simp [insertAt, sumO]; omega
  | [], _, i + 1, _, _, _, hi => by simp at hi
  | _ :: _, [], _ + 1, _, _, h, _ => by simp at h
  | a :: ks, b :: vs, i + 1, k, v, h, hi => by
    have ih := sumO_ins ks vs i k v (by simpa using h) (by simpa using hi)
    simp only [insertAt, List.take_succ_cons, List.drop_succ_cons, List.cons_append, sumO] at ih ⊢
    omega
theorem ins_len {α : Type} (l : List α) (i : Nat) (x : α) (h : i ≤ l.length) : (insertAt l i x).length = l.length + 1 := by
  simp [insertAt]; omega
theorem ins_mem {α : Type} {l : List α} {i : Nat} {x y : α} (h : y ∈ insertAt l i x) : y = x ∨ y ∈ l := by
  simp only [insertAt, List.mem_append, List.mem_cons] at h
  rcases h with h | h | h
  · exact .inr (List.mem_of_mem_take h)
  · exact .inl h
  · exact .inr (List.mem_of_mem_drop h)
theorem bl_lt (a b : ByteArray) : Op.bytesLess a.data.toList b.data.toList = true ↔ a.data.toList < b.data.toList := by
  rw [Go.Proofs.bytesLess_eq]; exact decide_eq_true_iff
/-- Where the search ends among keys that rise. -/
theorem place_in {ks : List ByteArray} (hr : Rising ks) (k : ByteArray) : place ks k ≤ ks.length ∧ (∀ t (ht : t < ks.length), t < place ks k → Op.bytesLess ks[t].data.toList k.data.toList = true) ∧ ∀ t (ht : t < ks.length), place ks k ≤ t → Op.bytesLess ks[t].data.toList k.data.toList = false := by
  have hp : ∀ (l : List ByteArray), Rising l → ∃ m, m ≤ l.length ∧ (∀ t (ht : t < l.length), t < m → Op.bytesLess l[t].data.toList k.data.toList = true) ∧ ∀ t (ht : t < l.length), m ≤ t → Op.bytesLess l[t].data.toList k.data.toList = false := by
    intro l
    induction l with
    | nil => intro _; exact ⟨0, Nat.le_refl _, fun t ht => by simp at ht, fun t ht => by simp at ht⟩
    | cons a r ih =>
      intro hl
      obtain ⟨h1, h2⟩ := List.pairwise_cons.1 hl
      by_cases ha : Op.bytesLess a.data.toList k.data.toList = true
      · obtain ⟨m, m1, m2, m3⟩ := ih h2
        refine ⟨m + 1, by simp; omega, fun t ht hlt => ?_, fun t ht hge => ?_⟩
        · cases t with
          | zero => exact ha
          | succ t => exact m2 t (by simpa using ht) (by omega)
        · cases t with
          | zero => omega
          | succ t => exact m3 t (by simpa using ht) (by omega)
      · refine ⟨0, Nat.zero_le _, fun t ht hlt => by omega, fun t ht _ => ?_⟩
        have hak : ¬ a.data.toList < k.data.toList := fun e => ha ((bl_lt a k).2 e)
        cases t with
        | zero => simpa using ha
        | succ t =>
          have h3 := (bl_lt a _).1 (h1 _ (List.getElem_mem (by simpa using ht : t < r.length)))
          simp only [List.getElem_cons_succ]
          refine Bool.eq_false_iff.2 fun e => hak (List.lt_trans h3 ((bl_lt _ k).1 e))
  obtain ⟨m, m1, m2, m3⟩ := hp ks hr
  have e : place ks k = m := by
    unfold place
    refine bsGo_in _ m ks.length (fun t ht => ?_) (fun t h1 h2 => ?_) _ _ _ (by omega) (by omega) m1 (Nat.le_refl _)
    · rw [List.getD_eq_getElem?_getD, List.getElem?_eq_getElem (by omega : t < ks.length)]
      exact m2 t (by omega) ht
    · rw [List.getD_eq_getElem?_getD, List.getElem?_eq_getElem h2]
      exact m3 t h2 h1
  rw [e]
  exact ⟨m1, m2, m3⟩
theorem ins_rising {ks : List ByteArray} (hr : Rising ks) (k : ByteArray) (hne : ks[place ks k]? ≠ some k) : Rising (insertAt ks (place ks k) k) := by
  obtain ⟨p1, p2, p3⟩ := place_in hr k
  have hgt : ∀ t (ht : t < ks.length), place ks k ≤ t → Op.bytesLess k.data.toList ks[t].data.toList = true := fun t ht hge => by
    have h1 := p3 t ht hge
    have h1' : ¬ ks[t].data.toList < k.data.toList := fun e => by rw [(bl_lt _ k).2 e] at h1; cases h1
    rw [bl_lt]
    rcases Nat.lt_or_ge (place ks k) ks.length with hlt | hge2
    · have hq : ¬ ks[place ks k].data.toList < k.data.toList := fun e => by have := p3 _ hlt (Nat.le_refl _); rw [(bl_lt _ k).2 e] at this; cases this
      have hqk : k.data.toList < ks[place ks k].data.toList := by
        by_cases e : k.data.toList < ks[place ks k].data.toList
        · exact e
        · exfalso
          have e2 : ks[place ks k].data.toList = k.data.toList := List.le_antisymm (List.not_lt.1 e) (List.not_lt.1 hq)
          apply hne
          rw [List.getElem?_eq_getElem hlt]
          congr 1
          apply ByteArray.ext
          exact Array.toList_inj.1 e2
      rcases Nat.lt_or_ge (place ks k) t with h2 | h2
      · exact List.lt_trans hqk ((bl_lt _ _).1 (List.pairwise_iff_getElem.1 hr _ _ hlt ht h2))
      · have : t = place ks k := by omega
        subst this
        exact hqk
    · omega
  unfold Rising insertAt
  refine List.pairwise_append.2 ⟨hr.sublist (List.take_sublist _ _), List.pairwise_cons.2 ⟨fun y hy => ?_, hr.sublist (List.drop_sublist _ _)⟩, fun a ha b hb => ?_⟩
  · obtain ⟨j, hj, rfl⟩ := List.mem_iff_getElem.1 hy
    rw [List.getElem_drop]
    exact hgt _ (by simp at hj; omega) (by omega)
  · obtain ⟨i, hi, rfl⟩ := List.mem_iff_getElem.1 ha
    rw [List.getElem_take]
    have hi' : i < place ks k := by simp at hi; omega
    rcases List.mem_cons.1 hb with rfl | hb
    · exact p2 i (by omega) hi'
    · obtain ⟨j, hj, rfl⟩ := List.mem_iff_getElem.1 hb
      rw [List.getElem_drop]
      exact List.pairwise_iff_getElem.1 hr _ _ (by omega) (by simp at hj; omega) (by omega)
theorem key_gd {t : ByteArray} {p : Nat} {had : List ByteArray} {k : ByteArray × Nat} (h : key t p had = .ok k) : validD k.1.data.toList = true ∧ p + (qText k.1).length + 1 ≤ k.2 ∧ k.2 ≤ t.size ∧ had[place had k.1]? ≠ some k.1 := by
  unfold key at h
  obtain ⟨c, h1, h⟩ := bind_ok h
  split at h
  · cases h
  · obtain ⟨x, h2, h⟩ := bind_ok h
    obtain ⟨q1, q2, q3⟩ := quoted_gd h2
    split at h
    · cases h
    · rename_i hne
      obtain ⟨q, h3, h⟩ := bind_ok h
      obtain ⟨rfl, t3⟩ := take_ok h3
      injection h with h
      subst h
      have b1 := (run_le isBlank t x.2).1
      have b2 := run_le isBlank t (blanks t x.2 + 1)
      unfold blanks at *
      exact ⟨q1, by simp only; omega, by simp only; exact b2.2 (by omega), hne⟩
theorem obj_gd (t : ByteArray) (d : Nat) (val : Nat → R (V × Nat)) (hval : ∀ p x, val p = .ok x → p ≤ t.size → Gd d x.1 ∧ p + (pr x.1).length ≤ x.2 ∧ x.2 ≤ t.size) : ∀ (n p : Nat) (ks : List ByteArray) (had : List V) (v : V) (q : Nat), objFrom t val n p ks had = .ok (v, q) → ks.length = had.length → had.length ≤ 64 → Rising ks → (∀ k ∈ ks, validD k.data.toList = true) → (∀ u ∈ had, Gd d u) →
    ∃ ks' l, v = .obj ks' l ∧ ks'.length = l.length ∧ l.length ≤ 64 ∧ Rising ks' ∧ (∀ k ∈ ks', validD k.data.toList = true) ∧ (∀ u ∈ l, Gd d u) ∧ (prO false ks' l).length + p + 1 ≤ (prO false ks had).length + q ∧ q ≤ t.size
  | 0, p, ks, had, v, q, h, _, _, _, _, _ => by rw [objFrom] at h; cases h
  | n + 1, p, ks, had, v, q, h, hl, h64, hr, hk, hgd => by
    rw [objFrom] at h
    obtain ⟨m, h1, h⟩ := bind_ok h
    obtain ⟨m1, m2, m3⟩ := more_in h1
    split at h
    · rename_i hm
      injection h with h
      injection h with h h'
      subst h h'
      have := m2 hm
      exact ⟨ks, had, rfl, hl, h64, hr, hk, hgd, by omega, m1⟩
    · rename_i hm
      obtain ⟨m4, m5, m6⟩ := m3 (by simpa using hm)
      obtain ⟨k, h2, h⟩ := bind_ok h
      obtain ⟨k1, k2, k3, k4⟩ := key_gd h2
      obtain ⟨x, h3, h⟩ := bind_ok h
      obtain ⟨v1, v2, v3⟩ := hval _ _ h3 k3
      have hpl := (place_in hr k.1).1
      obtain ⟨ks', l, r1, r2, r3, r4, r5, r6, r7, r8⟩ := obj_gd t d val hval n x.2 _ _ v q h (by rw [ins_len _ _ _ hpl, ins_len _ _ _ (by omega)]; omega) (by rw [ins_len _ _ _ (by omega)]; omega) (ins_rising hr k.1 k4) (fun y hy => by
        rcases ins_mem hy with rfl | hy
        · exact k1
        · exact hk y hy) (fun u hu => by
        rcases ins_mem hu with rfl | hu
        · exact v1
        · exact hgd u hu)
      have e1 := prO_len ks had false hl
      have e2 := prO_len (insertAt ks (place ks k.1) k.1) (insertAt had (place ks k.1) x.1) false (by rw [ins_len _ _ _ hpl, ins_len _ _ _ (by omega)]; omega)
      rw [sumO_ins _ _ _ _ _ hl hpl, ins_len _ _ _ (by omega : place ks k.1 ≤ had.length)] at e2
      unfold mem1 at e2
      refine ⟨ks', l, r1, r2, r3, r4, r5, r6, ?_, r8⟩
      simp at e1 e2
      split at m4 <;> split at e1 <;> omega
theorem value_gd (t : ByteArray) : ∀ (d p : Nat) (x : V × Nat), value t d p = .ok x → p ≤ t.size → Gd d x.1 ∧ p + (pr x.1).length ≤ x.2 ∧ x.2 ≤ t.size := by
  intro d
  induction d with
  | zero =>
    intro p x h hp
    rw [value] at h
    obtain ⟨c, h1, h⟩ := bind_ok h
    split at h
    · obtain ⟨w1, w2, w3⟩ := word_gd hp h; exact ⟨w1 _, w2, w3⟩
    · split at h
      · obtain ⟨w1, w2, w3⟩ := number_gd hp h; exact ⟨w1 _, w2, w3⟩
      · split at h
        · obtain ⟨y, h2, h⟩ := bind_ok h
          obtain ⟨q1, q2, q3⟩ := quoted_gd h2
          injection h with h
          subst h
          exact ⟨q1, by simp only [pr]; exact q2, q3⟩
        · split at h
          · cases h
          · split at h
            · cases h
            · cases h
  | succ d ih =>
    intro p x h hp
    rw [value] at h
    obtain ⟨c, h1, h⟩ := bind_ok h
    obtain ⟨n1, -⟩ := next_ok h1
    split at h
    · obtain ⟨w1, w2, w3⟩ := word_gd hp h; exact ⟨w1 _, w2, w3⟩
    · split at h
      · obtain ⟨w1, w2, w3⟩ := number_gd hp h; exact ⟨w1 _, w2, w3⟩
      · split at h
        · obtain ⟨y, h2, h⟩ := bind_ok h
          obtain ⟨q1, q2, q3⟩ := quoted_gd h2
          injection h with h
          subst h
          exact ⟨q1, by simp only [pr]; exact q2, q3⟩
        · split at h
          · obtain ⟨l, r1, r2, r3, r4, r5⟩ := list_gd t d (value t d) ih 66 (p + 1) [] x.1 x.2 h (by simp) (fun u hu => by simp at hu)
            rw [r1]
            refine ⟨⟨r2, r3⟩, ?_, r5⟩
            simp [pr, prL] at r4 ⊢
            omega
          · split at h
            · obtain ⟨ks, l, r1, r2, r3, r4, r5, r6, r7, r8⟩ := obj_gd t d (value t d) ih 66 (p + 1) [] [] x.1 x.2 h rfl (by simp) List.Pairwise.nil (fun u hu => by simp at hu) (fun u hu => by simp at hu)
              rw [r1]
              refine ⟨⟨r2, r3, r4, r5, r6⟩, ?_, r8⟩
              simp [pr, prO] at r7 ⊢
              omega
            · cases h
theorem parse_gd {t : ByteArray} {v : V} (h : parse t = .ok v) : Gd 10 v ∧ (pr v).length ≤ t.size ∧ t.size ≤ 4096 := by
  unfold parse at h
  split at h
  · cases h
  · rename_i hs
    unfold wholeText at h
    obtain ⟨x, h1, h⟩ := bind_ok h
    obtain ⟨v1, v2, v3⟩ := value_gd t 10 _ x h1 ((run_le isBlank t 0).2 (Nat.zero_le _))
    split at h
    · cases h
    · injection h with h
      subst h
      exact ⟨v1, by omega, by omega⟩
end Go.Jv
