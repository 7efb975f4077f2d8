/-
  LIMITS, READ: the plain reader at brackets, items, members, blanks. Nothing of the program.
-/
import Derived.Test.YtaogkleinbgceaaGreatDoorJma
namespace Go.Jv
open Go.Lib
def openT : Nat → ByteArray
  | 0 => emp
  | n + 1 => openT n ++ ⟨#[91]⟩
def shutT : Nat → ByteArray
  | 0 => emp
  | n + 1 => shutT n ++ ⟨#[93]⟩
def deepT (n : Nat) : ByteArray := openT n ++ ⟨#[49]⟩ ++ shutT n
def listT : Nat → ByteArray
  | 0 => ⟨#[91, 49]⟩
  | n + 1 => listT n ++ ⟨#[44, 49]⟩
def two (n : Nat) : ByteArray := ⟨#[UInt8.ofNat (48 + n / 10), UInt8.ofNat (48 + n % 10)]⟩
def membT : Nat → ByteArray
  | 0 => ⟨#[123, 34, 48, 48, 34, 58, 49]⟩
  | n + 1 => membT n ++ ⟨#[44, 34]⟩ ++ two (n + 1) ++ ⟨#[34, 58, 49]⟩
def okAt (r : R V) (c : Bool) (p e : Nat) : Bool :=
  match r with
  | .ok _ => c
  | .bad q f => !c && q == p && f == e
theorem deep_all : ∀ d, d < 14 → okAt (parse (deepT d)) (decide (d ≤ 10)) 10 eDepth = true := by
  have h : (List.range 14).all (fun d => okAt (parse (deepT d)) (decide (d ≤ 10)) 10 eDepth) = true := by kernel_rfl
  intro d hd
  exact List.all_eq_true.1 h d (List.mem_range.2 hd)
/-- Blanks, a 1, blanks. -/
def longT (n p : Nat) : ByteArray := ⟨((List.replicate n 32).set p 49).toArray⟩
theorem getb {t : ByteArray} {j : Nat} (h : j < t.size) : t.get! j = t.data[j]'h := by simp [ByteArray.get!, getElem!_pos, h]
theorem longT_size (n p : Nat) : (longT n p).size = n := by simp [longT, ByteArray.size]
theorem longT_get (n p j : Nat) (h : j < n) : (longT n p).get! j = if p = j then 49 else 32 := by
  have hs : j < (longT n p).size := by rw [longT_size]; exact h
  rw [getb hs]
  simp [longT, List.getElem_set]
theorem run_to (f : UInt8 → Bool) (t : ByteArray) : ∀ (k a : Nat), a + k ≤ t.size → (∀ j, a ≤ j → j < a + k → f (t.get! j) = true) → run f t a = run f t (a + k) := by
  intro k
  induction k with
  | zero => intro a _ _; rfl
  | succ k ih =>
    intro a h1 h2
    rw [Go.Proofs.Jv.run_step f t a (by omega) (h2 a (by omega) (by omega)), ih (a + 1) (by omega) (fun j hj hk => h2 j (by omega) (by omega))]
    congr 1
    omega
theorem long_all (n p : Nat) (hp : p < n) (hn : n ≤ 4096) : ∃ v, parse (longT n p) = .ok v := by
  have hz := longT_size n p
  have hg := longT_get n p
  generalize longT n p = t at *
  subst hz
  have hgp : t.get! p = 49 := by rw [hg p hp, if_pos rfl]
  have hgn : ∀ j, j < t.size → j ≠ p → t.get! j = 32 := fun j hj hne => by rw [hg j hj, if_neg (Ne.symm hne)]
  have hb0 : blanks t 0 = p := by
    have h1 := run_to isBlank t p 0 (by omega) (fun j _ hj => by rw [hgn j (by omega) (by omega)]; rfl)
    rw [Nat.zero_add] at h1
    exact h1.trans (Go.Proofs.Jv.run_stop isBlank t p (fun _ => by rw [hgp]; rfl))
  have hb1 : blanks t (p + 1) = t.size := by
    have h1 := run_to isBlank t (t.size - (p + 1)) (p + 1) (by omega) (fun j h0 hj => by rw [hgn j (by omega) (by omega)]; rfl)
    rw [show p + 1 + (t.size - (p + 1)) = t.size by omega] at h1
    exact h1.trans (Go.Proofs.Jv.run_stop isBlank t _ (fun h => absurd h (Nat.lt_irrefl _)))
  have hr : run isOfNumber t p = p + 1 := by
    rw [Go.Proofs.Jv.run_step _ _ _ hp (by rw [hgp]; rfl)]
    exact Go.Proofs.Jv.run_stop _ _ _ (fun h => by rw [hgn _ h (by omega)]; rfl)
  have hsub : sub t p (p + 1) = ⟨#[49]⟩ := by
    have h1 : (t.data.extract p (p + 1)) = #[49] := by
      apply Array.ext
      · have : t.data.size = t.size := rfl
        simp; omega
      · intro i hi1 hi2
        have hi : i = 0 := by simp at hi2; exact hi2
        subst hi
        have := getb hp
        rw [hgp] at this
        simp only [Array.getElem_extract, Nat.add_zero, ← this]
        rfl
    unfold sub
    apply ByteArray.ext
    rw [ByteArray.data_extract, h1]
  have hin : isNumber ⟨#[49]⟩ = true := by kernel_rfl
  have hno : numOf ⟨#[49]⟩ = some 1 := by kernel_rfl
  have hl : isLetter 49 = false := by rfl
  have hd : (isDigit 49 || (49 : UInt8) == 45) = true := by rfl
  refine ⟨.int 1, ?_⟩
  unfold parse wholeText value number
  rw [if_neg (by omega), hb0]
  simp only [next, R.bind, if_pos hp, hgp, hl, hd, hr, hsub, hin, hno, if_true, Bool.false_eq_true, if_false, hb1, Nat.lt_irrefl]
end Go.Jv
