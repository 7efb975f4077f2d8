/-
  A state of tocsinlaw05 in memory; same.
-/
import Derived.Test.YtdlhonoppnfmpaaKa
namespace Go.Proofs
open Go.RowKit Go.Dk
def Dk.str (b : List UInt8) : Value := .string ⟨b.toArray⟩
def Dk.strs (l : List (List UInt8)) : List Value := l.map Dk.str
theorem Dk.strs_at {l : List (List UInt8)} {i : Nat} {d : List UInt8} (h : l[i]? = some d) : (Dk.strs l)[i]? = some (.string ⟨d.toArray⟩) := by simp [Dk.strs, h, Dk.str]
theorem Dk.strs_snoc (l : List (List UInt8)) (d : List UInt8) : Dk.strs (l ++ [d]) = Dk.strs l ++ [.string ⟨d.toArray⟩] := by simp [Dk.strs, Dk.str]
/-- A state; its row in a block that is one of P. -/
def Try.Sta (w : World) (P : Nat → Prop) (v : Value) (snap : List UInt8) (recs : List (List UInt8)) : Prop :=
  ∃ rv, v = .agg #[.string ⟨snap.toArray⟩, rv] ∧ w.ownsRow 0 9 1 rv recs.length (Dk.strs recs) ∧ ∀ k, rv.ownBlock = some k → P k
theorem Try.Sta.mono {w w' : World} {P P' : Nat → Prop} {v : Value} {snap : List UInt8} {recs : List (List UInt8)} (h : Try.Sta w P v snap recs) (hk : ∀ k, k < w.heap.size → P k → w'.heap[k]? = w.heap[k]? ∧ P' k) : Try.Sta w' P' v snap recs := by
  obtain ⟨rv, h1, h2, h3⟩ := h
  exact ⟨rv, h1, Dk.row_heap h2 fun k e => (hk k (h2.lt k e).2 (h3 k e)).1, fun k e => (hk k (h2.lt k e).2 (h3 k e)).2⟩
theorem Try.Sta.below {w w' : World} {P : Nat → Prop} {v : Value} {snap : List UInt8} {recs : List (List UInt8)} (h : Try.Sta w P v snap recs) (hb : Below w.heap.size w w') : Try.Sta w' P v snap recs :=
  h.mono fun k hk hp => ⟨hb.block k hk, hp⟩
theorem Dk.row_form {w : World} {B : Nat} {e : TypeId} {v : Value} {n : Nat} {xs : List Value} (h : w.ownsRow B e 1 v n xs) : ∃ ad cap, v = .slice ad n cap ∧ n ≤ cap ∧ cap ≤ maxLen ∧ (ad = none → cap = 0) ∧ ∀ (i : Nat) (u : Value), xs[i]? = some u → ∃ g, ad = some ⟨g, 0, none⟩ ∧ B ≤ g ∧ g < w.heap.size ∧ w.cell? ⟨g, i, none⟩ = some u := by
  obtain ⟨hl, h | ⟨g, cap, cur, rfl, hg, hb, h1, h2, h3, h4⟩⟩ := h
  · obtain ⟨rfl, rfl⟩ := h
    have : xs = [] := List.eq_nil_of_length_eq_zero (by omega)
    subst this
    exact ⟨none, 0, rfl, Nat.le_refl _, Nat.zero_le _, fun _ => rfl, fun i u hu => by simp at hu⟩
  · refine ⟨some ⟨g, 0, none⟩, cap, rfl, h1, h2, (fun e => by cases e), fun i u hu => ⟨g, rfl, hg, Dk.block_lt hb, ?_⟩⟩
    rw [cell_of_row _ _ _ _ _ _ hb]
    rw [← h4, List.getElem?_take] at hu
    split at hu
    · simpa using hu
    · cases hu
theorem Try.conv_src {W : World} {g o n c : Nat} {b : List UInt8} (h : Dk.Src W (.slice (some ⟨g, o, none⟩) n c) b) : (convert 22 9 (.slice (some ⟨g, o, none⟩) n c)).run Try.prog W = .ok (.string ⟨b.toArray⟩) W := by
  obtain ⟨hn, hc⟩ := h.cell
  subst hn
  refine run_convert_bytes_back (P := Try.prog) W 22 9 5 ⟨g, o, none⟩ c b Try.underlying22 Try.underlying5 Try.underlying9 (fun j hj => ?_)
  rcases hc with rfl | ⟨sb, so, e, -, hc⟩
  · simp at hj
  · cases e
    rw [Addr.add_mid]
    exact hc j _ (Dk.byteCell hj)
/-- Where a record lies that was cut out of a row. -/
theorem Dk.cut_at {R : List UInt8} (g : Nat) : ∀ (recs : List (List UInt8)) (p e : Nat), Go.Dk.cut R p = (recs, e) → ∀ (i : Nat) (d : List UInt8), recs[i]? = some d → ∃ o, (Dk.recCs g p recs)[i]? = some (.slice (some ⟨g, o, none⟩) d.length d.length) ∧ (R.drop o).take d.length = d ∧ o + d.length ≤ R.length
  | [], _, _, _, i, d, hi => by simp at hi
  | d0 :: r, p, e, h, i, d, hi => by
    cases hra : recAt R p with
    | none => rw [cut_none hra] at h; cases h
    | some d' =>
      rw [cut_some hra] at h
      injection h with h1 h2
      injection h1 with h3 h4
      subst h3
      obtain ⟨k1, k2, k3, k4⟩ := recAt_some hra
      cases i with
      | zero =>
        simp at hi
        subst hi
        exact ⟨p + 7, rfl, k4.symm, k1⟩
      | succ i =>
        simp at hi
        obtain ⟨o, h5, h6⟩ := Dk.cut_at g r (p + 7 + d'.length) e (by rw [← h4, ← h2]) i d hi
        exact ⟨o, by simpa [Dk.recCs] using h5, h6⟩
set_option maxHeartbeats 1000000 in
set_option maxRecDepth 20000 in
theorem Try.same_any {w : World} {P P' : Nat → Prop} {va vb : Value} {snap : List UInt8} {recs : List (List UInt8)} (hl : recs.length < 1000000) (ha : Try.Sta w P va snap recs) (hb : Try.Sta w P' vb snap recs) :
    Calls Try.prog 15 #[va, vb] w fun r w' => r = .returned (.bool true) ∧ Below w.heap.size w w' := by
  obtain ⟨ra, rfl, hra, -⟩ := ha
  obtain ⟨rb, rfl, hrb, -⟩ := hb
  obtain ⟨aa, ca, rfl, -, -, -, hca⟩ := Dk.row_form hra
  obtain ⟨ab, cb, rfl, -, -, -, hcb⟩ := Dk.row_form hrb
  clear hra hrb
  have Hca : Hid _ := hca
  have Hcb : Hid _ := hcb
  clear hca hcb
  go_enter Try.func15, Try.ntmps15
  go_wp2
  go_loopw [5] (fun i wr => ∃ k : Nat, k ≤ recs.length ∧ i = .int .i64 k ∧ wr.cell? ⟨w.heap.size, 1, none⟩ = some (.slice aa recs.length ca) ∧ wr.cell? ⟨w.heap.size + 1, 1, none⟩ = some (.slice ab recs.length cb) ∧ Below w.heap.size w wr) (fun i _ => recs.length - (intOf i).toNat)
  case atStart =>
    refine ⟨0, by omega, rfl, ?_, ?_, ((Below.refl w.heap.size w).alloc (Nat.le_refl _) _).alloc (by simp) _⟩
    · simp
    · simp
  case round =>
    obtain ⟨k, hk, rfl, c1, c2, hbel⟩ := hrel
    by_cases hkl : k < recs.length
    · have q0 : (k : Int) < (recs.length : Int) := by omega
      obtain ⟨d, hd⟩ : ∃ d, recs[k]? = some d := ⟨_, List.getElem?_eq_getElem hkl⟩
      obtain ⟨ga, rfl, -, hga, hva⟩ := Hca.out k _ (Dk.strs_at hd)
      obtain ⟨gb, rfl, -, hgb, hvb⟩ := Hcb.out k _ (Dk.strs_at hd)
      have hva' := (hbel.cell (p := ⟨ga, k, none⟩) hga).trans hva
      have hvb' := (hbel.cell (p := ⟨gb, k, none⟩) hgb).trans hvb
      clear hva hvb
      go_wp2
      go_region
      go_wp2
      go_roundw
      case rel => exact ⟨k + 1, by omega, by go_num, c1, c2, hbel.drew⟩
      case measure => simp [intOf]; omega
    · have q0 : ¬ (k : Int) < (recs.length : Int) := by omega
      go_wp2
      go_ret
      exact ⟨rfl, hbel⟩
end Go.Proofs
