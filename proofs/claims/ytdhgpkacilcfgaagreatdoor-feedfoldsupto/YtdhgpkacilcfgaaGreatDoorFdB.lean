/-
  FEED, plain: the stable sort as it goes: blocks of twenty, put together by turning parts round.
-/
import Derived.Sort.Defs
namespace Go.Fd
open Go.Sort
section
variable {α : Type} [Inhabited α] (lt : α → α → Bool)
/-- So many of two places are swapped, from the i-th on. -/
def swapR (a b n i : Nat) (d : Array α) : Array α := if i < n then swapR a b n (i + 1) (swp d (a + i) (b + i)) else d
termination_by n - i
def rot (m i j : Nat) (d : Array α) : Array α :=
  if i = j then swapR (m - i) m i 0 d
  else if j < i then (if _h : j = 0 then d else rot m (i - j) j (swapR (m - i) m j 0 d))
  else (if _h : i = 0 then d else rot m i (j - i) (swapR (m - i) (m + j - i) i 0 d))
termination_by i + j
/-- The three searches by halves. -/
def bs1 (a i j : Nat) (d : Array α) : Nat := if i < j then (if lt d[(i + j) / 2]! d[a]! then bs1 a ((i + j) / 2 + 1) j d else bs1 a i ((i + j) / 2) d) else i
termination_by j - i
def bs2 (m i j : Nat) (d : Array α) : Nat := if i < j then (if lt d[m]! d[(i + j) / 2]! then bs2 m i ((i + j) / 2) d else bs2 m ((i + j) / 2 + 1) j d) else i
termination_by j - i
def bs3 (p i j : Nat) (d : Array α) : Nat := if i < j then (if lt d[p - (i + j) / 2]! d[(i + j) / 2]! then bs3 p i ((i + j) / 2) d else bs3 p ((i + j) / 2 + 1) j d) else i
termination_by j - i
def shR (e k : Nat) (d : Array α) : Array α := if k < e then shR e (k + 1) (swp d k (k + 1)) else d
termination_by e - k
def shL (e : Nat) : Nat → Array α → Array α
  | 0, d => d
  | k + 1, d => if e < k + 1 then shL e k (swp d (k + 1) k) else d
/-- Two sorted parts, put together. -/
def sym : Nat → Nat → Nat → Nat → Array α → Array α
  | 0, _, _, _, d => d
  | f + 1, a, m, b, d =>
    if m - a = 1 then shR (bs1 lt a m b d - 1) a d
    else if b - m = 1 then shL (bs2 lt m a m d) m d
    else
      let mid := (a + b) / 2
      let s := if mid < m then bs3 lt (mid + m - 1) (mid + m - b) mid d else bs3 lt (mid + m - 1) a m d
      let e := mid + m - s
      let d1 := if s < m ∧ m < e then rot m (m - s) (e - m) d else d
      let d2 := if a < s ∧ s < mid then sym f a s mid d1 else d1
      if mid < e ∧ e < b then sym f mid e b d2 else d2
def insB (n a : Nat) (d : Array α) : Array α := if a + 20 ≤ n then insB n (a + 20) (insertionSort lt d a (a + 20)) else insertionSort lt d a n
termination_by n - a
def merI (n bs a : Nat) (d : Array α) : Array α :=
  if h : a + 2 * bs ≤ n ∧ 0 < bs then merI n bs (a + 2 * bs) (sym lt n a (a + bs) (a + 2 * bs) d)
  else if a + bs < n then sym lt n a (a + bs) n d else d
termination_by n - a
def merO (n bs : Nat) (d : Array α) : Array α := if h : bs < n ∧ 0 < bs then merO n (bs * 2) (merI lt n bs 0 d) else d
termination_by n - bs
def stabA (d : Array α) : Array α := merO lt d.size 20 (insB lt d.size 0 d)
end
section
variable {α : Type} [Inhabited α] {lt : α → α → Bool}
theorem swapR_size {a b n : Nat} : ∀ (k i : Nat) (d : Array α), n - i = k → (swapR a b n i d).size = d.size
  | k, i, d, hk => by
    unfold swapR
    split
    · rw [swapR_size (k - 1) (i + 1) _ (by omega)]; simp [swp]
    · rfl
theorem swapR_sz (a b n i : Nat) (d : Array α) : (swapR a b n i d).size = d.size := swapR_size _ i d rfl
theorem rot_size : ∀ (k m i j : Nat) (d : Array α), i + j ≤ k → (rot m i j d).size = d.size
  | 0, m, i, j, d, hk => by
    unfold rot
    rw [if_pos (by omega), swapR_sz]
  | k + 1, m, i, j, d, hk => by
    unfold rot
    split
    · rw [swapR_sz]
    · split
      · split
        · rfl
        · rw [rot_size k _ _ _ _ (by omega), swapR_sz]
      · split
        · rfl
        · rw [rot_size k _ _ _ _ (by omega), swapR_sz]
theorem rot_sz (m i j : Nat) (d : Array α) : (rot m i j d).size = d.size := rot_size _ m i j d (Nat.le_refl _)
theorem shR_size {e : Nat} : ∀ (k i : Nat) (d : Array α), e - i = k → (shR e i d).size = d.size
  | k, i, d, hk => by
    unfold shR
    split
    · rw [shR_size (k - 1) (i + 1) _ (by omega)]; simp [swp]
    · rfl
theorem shL_size {e : Nat} : ∀ (k : Nat) (d : Array α), (shL e k d).size = d.size
  | 0, d => rfl
  | k + 1, d => by
    unfold shL
    split
    · rw [shL_size k]; simp [swp]
    · rfl
theorem sym_size : ∀ (f a m b : Nat) (d : Array α), (sym lt f a m b d).size = d.size
  | 0, _, _, _, _ => rfl
  | f + 1, a, m, b, d => by
    unfold sym
    split
    · exact shR_size _ _ _ rfl
    · split
      · exact shL_size _ _
      · have h1 : ∀ (c : Prop) [Decidable c] (x y z : Nat), (if c then rot x y z d else d).size = d.size := fun c _ x y z => by split <;> simp [rot_sz]
        have h2 : ∀ (c : Prop) [Decidable c] (x y z : Nat) (d' : Array α), d'.size = d.size → (if c then sym lt f x y z d' else d').size = d.size := fun c _ x y z d' h => by split <;> simp [sym_size, h]
        exact h2 _ _ _ _ _ (h2 _ _ _ _ _ (h1 _ _ _ _))
end
section
variable {α : Type} [Inhabited α] {lt : α → α → Bool}
theorem insInner_sz (a : Nat) : ∀ (j : Nat) (d : Array α), (insInner lt a j d).size = d.size
  | 0, d => rfl
  | j + 1, d => by
    unfold insInner
    split
    · rw [insInner_sz a j]; simp [swp]
    · rfl
theorem insOuter_sz (a b : Nat) : ∀ (k i : Nat) (d : Array α), b - i = k → (insOuter lt a b i d).size = d.size
  | k, i, d, hk => by
    unfold insOuter
    split
    · rw [insOuter_sz a b (k - 1) (i + 1) _ (by omega), insInner_sz]
    · rfl
theorem ins_sz (d : Array α) (a b : Nat) : (insertionSort lt d a b).size = d.size := insOuter_sz a b _ _ d rfl
theorem insB_sz (n : Nat) : ∀ (k a : Nat) (d : Array α), n - a ≤ k → (insB lt n a d).size = d.size
  | 0, a, d, hk => by
    unfold insB
    rw [if_neg (by omega), ins_sz]
  | k + 1, a, d, hk => by
    unfold insB
    split
    · rw [insB_sz n k _ _ (by omega), ins_sz]
    · rw [ins_sz]
theorem merI_sz (n bs : Nat) : ∀ (k a : Nat) (d : Array α), n - a ≤ k → (merI lt n bs a d).size = d.size
  | 0, a, d, hk => by
    unfold merI
    rw [dif_neg (by omega)]
    split <;> simp [sym_size]
  | k + 1, a, d, hk => by
    unfold merI
    split
    · rw [merI_sz n bs k _ _ (by omega), sym_size]
    · split <;> simp [sym_size]
theorem merO_sz (n : Nat) : ∀ (k bs : Nat) (d : Array α), n - bs ≤ k → (merO lt n bs d).size = d.size
  | 0, bs, d, hk => by
    unfold merO
    rw [dif_neg (by omega)]
  | k + 1, bs, d, hk => by
    unfold merO
    split
    · rw [merO_sz n k _ _ (by omega), merI_sz _ _ _ _ _ (Nat.le_refl _)]
    · rfl
theorem stabA_sz (d : Array α) : (stabA lt d).size = d.size := by
  unfold stabA
  rw [merO_sz _ _ _ _ (Nat.le_refl _), insB_sz _ _ _ _ (Nat.le_refl _)]
end
/-- Of less than twenty: by putting in alone. -/
theorem stabA_few {α : Type} [Inhabited α] (lt : α → α → Bool) (d : Array α) (h : d.size < 20) : stabA lt d = insertionSort lt d 0 d.size := by
  unfold stabA insB merO
  rw [dif_neg (by omega), if_neg (by omega)]
theorem stabA_one {α : Type} [Inhabited α] (lt : α → α → Bool) (d : Array α) (h : d.size ≤ 1) : stabA lt d = d := by
  rw [stabA_few lt d (by omega)]
  unfold insertionSort insOuter
  rw [if_neg (by omega)]
end Go.Fd
