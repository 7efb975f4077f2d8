/-
  THE SEARCH, AS THE Go TEXT GOES THROUGH IT: plain functions, nothing of the program.
-/
import Derived.Test.YtjfhpgafglmhdabDoorPlain
namespace Go.Sg
def extF (p : List UInt8) (tab : Nat → Nat) (c : UInt8) : Nat → Nat → Nat
  | 0, _ => 0
  | f + 1, h => if 0 < h ∧ (h = p.length ∨ p.getD h 0 ≠ c) then extF p tab c f (tab (h - 1)) else if p.getD h 0 = c then h + 1 else h
def ext (p : List UInt8) (tab : Nat → Nat) (c : UInt8) (h : Nat) : Nat := extF p tab c (h + 1) h
theorem extF_fuel (p : List UInt8) (tab : Nat → Nat) (c : UInt8) : ∀ (f h : Nat), h < f → (∀ i, i < h → tab i ≤ i) → extF p tab c f h = ext p tab c h
  | 0, _, hf, _ => by omega
  | f + 1, h, hf, ht => by
    unfold ext
    rw [extF, extF]
    split
    · rename_i hc
      have h1 := ht (h - 1) (by omega)
      rw [extF_fuel p tab c f (tab (h - 1)) (by omega) (fun i hi => ht i (by omega)), extF_fuel p tab c h (tab (h - 1)) (by omega) (fun i hi => ht i (by omega))]
    · rfl
theorem ext_step (p : List UInt8) (tab : Nat → Nat) (c : UInt8) (h : Nat) (ht : ∀ i, i < h → tab i ≤ i) :
    ext p tab c h = if 0 < h ∧ (h = p.length ∨ p.getD h 0 ≠ c) then ext p tab c (tab (h - 1)) else if p.getD h 0 = c then h + 1 else h := by
  conv => lhs; unfold ext; rw [extF]
  split
  · rename_i hc
    have h1 := ht (h - 1) (by omega)
    rw [extF_fuel p tab c h (tab (h - 1)) (by omega) (fun i hi => ht i (by omega))]
  · rfl
theorem ext_le (p : List UInt8) (tab : Nat → Nat) (c : UInt8) : ∀ (h : Nat), (∀ i, i < h → tab i ≤ i) → ext p tab c h ≤ h + 1 := by
  intro h
  induction h using Nat.strongRecOn with
  | _ h ih =>
    intro ht
    rw [ext_step p tab c h ht]
    split
    · rename_i hc
      have h1 := ht (h - 1) (by omega)
      have := ih (tab (h - 1)) (by omega) (fun i hi => ht i (by omega))
      omega
    · split <;> omega
theorem ext_le_len (p : List UInt8) (tab : Nat → Nat) (c : UInt8) (hp : 0 < p.length) : ∀ (h : Nat), h ≤ p.length → (∀ i, i < h → tab i ≤ i) → ext p tab c h ≤ p.length := by
  intro h
  induction h using Nat.strongRecOn with
  | _ h ih =>
    intro hl ht
    rw [ext_step p tab c h ht]
    split
    · rename_i hc
      have h1 := ht (h - 1) (by omega)
      exact ih (tab (h - 1)) (by omega) (by omega) (fun i hi => ht i (by omega))
    · rename_i hc
      split <;> omega
theorem ext_congr (p : List UInt8) (t1 t2 : Nat → Nat) (c : UInt8) : ∀ (h : Nat), (∀ i, i < h → t1 i = t2 i ∧ t1 i ≤ i) → ext p t1 c h = ext p t2 c h := by
  intro h
  induction h using Nat.strongRecOn with
  | _ h ih =>
    intro ht
    rw [ext_step p t1 c h (fun i hi => (ht i hi).2), ext_step p t2 c h (fun i hi => by rw [← (ht i hi).1]; exact (ht i hi).2)]
    by_cases hc : 0 < h ∧ (h = p.length ∨ p.getD h 0 ≠ c)
    · rw [if_pos hc, if_pos hc, ← (ht (h - 1) (by omega)).1]
      have h1 := (ht (h - 1) (by omega)).2
      exact ih (t1 (h - 1)) (by omega) (fun i hi => ht i (by omega))
    · rw [if_neg hc, if_neg hc]
/-- The table of borders, its first n + 1 rows. -/
def tabTo (p : List UInt8) : Nat → List Nat
  | 0 => [0]
  | n + 1 => tabTo p n ++ [ext p (fun i => (tabTo p n).getD i 0) (p.getD (n + 1) 0) ((tabTo p n).getD n 0)]
def sh (p : List UInt8) (i : Nat) : Nat := (tabTo p i).getD i 0
theorem tabTo_len (p : List UInt8) : ∀ n, (tabTo p n).length = n + 1
  | 0 => rfl
  | n + 1 => by rw [tabTo, List.length_append, tabTo_len p n]; rfl
theorem tabTo_at (p : List UInt8) : ∀ n i, i ≤ n → (tabTo p n).getD i 0 = sh p i
  | 0, i, h => by
    obtain rfl : i = 0 := (by omega)
    rfl
  | n + 1, i, h => by
    by_cases hi : i = n + 1
    · subst hi; rfl
    · rw [← tabTo_at p n i (by omega), tabTo, List.getD, List.getElem?_append_left (by rw [tabTo_len]; omega)]
      rfl
theorem sh_le (p : List UInt8) : ∀ n, sh p n ≤ n := by
  intro n
  induction n using Nat.strongRecOn with
  | _ n ih =>
    match n, ih with
    | 0, _ => exact Nat.le_refl _
    | n + 1, ih =>
      have e : sh p (n + 1) = ext p (fun i => (tabTo p n).getD i 0) (p.getD (n + 1) 0) ((tabTo p n).getD n 0) := by
        unfold sh
        rw [tabTo, List.getD, List.getElem?_append_right (by rw [tabTo_len]; omega), tabTo_len]
        simp
      have hn : (tabTo p n).getD n 0 = sh p n := tabTo_at p n n (by omega)
      have h1 := ih n (by omega)
      rw [e, hn]
      have := ext_le p (fun i => (tabTo p n).getD i 0) (p.getD (n + 1) 0) (sh p n) (fun i hi => by
        show (tabTo p n).getD i 0 ≤ i
        rw [tabTo_at p n i (by omega)]; exact ih i (by omega))
      omega
theorem sh_succ (p : List UInt8) (n : Nat) : sh p (n + 1) = ext p (sh p) (p.getD (n + 1) 0) (sh p n) := by
  have e : sh p (n + 1) = ext p (fun i => (tabTo p n).getD i 0) (p.getD (n + 1) 0) ((tabTo p n).getD n 0) := by
    unfold sh
    rw [tabTo, List.getD, List.getElem?_append_right (by rw [tabTo_len]; omega), tabTo_len]
    simp
  have hn : (tabTo p n).getD n 0 = sh p n := tabTo_at p n n (by omega)
  have h1 := sh_le p n
  rw [e, hn]
  exact ext_congr p _ _ _ _ (fun i hi => by
    have := tabTo_at p n i (by omega)
    exact ⟨this, by show (tabTo p n).getD i 0 ≤ i; rw [this]; exact sh_le p i⟩)
/-- How many bytes of the part stand at the end of a text's first k bytes. -/
def haveAt (p t : List UInt8) : Nat → Nat
  | 0 => 0
  | k + 1 => ext p (sh p) (t.getD k 0) (haveAt p t k)
theorem haveAt_le (p t : List UInt8) (hp : 0 < p.length) : ∀ k, haveAt p t k ≤ p.length ∧ haveAt p t k ≤ k
  | 0 => ⟨Nat.zero_le _, Nat.le_refl _⟩
  | k + 1 => by
    obtain ⟨h1, h2⟩ := haveAt_le p t hp k
    refine ⟨ext_le_len p _ _ hp _ h1 (fun i _ => sh_le p i), ?_⟩
    have := ext_le p (sh p) (t.getD k 0) (haveAt p t k) (fun i _ => sh_le p i)
    unfold haveAt
    omega
/-- S6, as the Go text reckons it: from place k on, n places. -/
def hasGo (text : ByteArray) (p t : List UInt8) : Nat → Nat → Bool
  | 0, _ => false
  | n + 1, k => if haveAt p t (k + 1) = p.length ∧ edgeN text (k + 1 - p.length) = true ∧ edgeN text (k + 1) = true then true else hasGo text p t n (k + 1)
def hasB (text part : ByteArray) : Bool := if part.size = 0 then false else hasGo text (fold part).data.toList (fold text).data.toList text.size 0
theorem hasGo_at (text : ByteArray) (p t : List UInt8) (m k : Nat) (h : k < m) : hasGo text p t (m - k) k = if haveAt p t (k + 1) = p.length ∧ edgeN text (k + 1 - p.length) = true ∧ edgeN text (k + 1) = true then true else hasGo text p t (m - (k + 1)) (k + 1) := by
  obtain ⟨n, hn⟩ : ∃ n, m - k = n + 1 := ⟨m - k - 1, by omega⟩
  have hn' : m - (k + 1) = n := by omega
  rw [hn, hn', hasGo]
end Go.Sg
