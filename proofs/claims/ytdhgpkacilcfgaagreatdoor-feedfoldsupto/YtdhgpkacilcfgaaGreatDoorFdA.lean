/-
  FEED: counts that lie somewhere.
-/
import Derived.Test.YtdhgpkacilcfgaaGreatDoorVc
import Derived.Test.YtdhgpkacilcfgaaGreatDoorCa
namespace Go.Fd
open Go.RowKit Go.Wi
/-- A room, and how much is not read there. -/
structure Cn where
  room : ByteArray
  un : Int
  hi : Int
  deriving DecidableEq, Inhabited
def cnE (c : Cn) : List Value := [.string c.room, .int .i64 c.un, .int .i64 c.hi]
def cnCells (l : List Cn) : List Value := l.flatMap cnE
theorem cnE_len (c : Cn) : (cnE c).length = 3 := rfl
theorem cnE_one (c : Cn) : ∀ u ∈ cnE c, u.oneCell' = true := by
  intro u hu
  simp [cnE] at hu
  rcases hu with rfl | rfl | rfl <;> rfl
theorem cnCells_len : ∀ l : List Cn, (cnCells l).length = l.length * 3
  | [] => rfl
  | c :: l => by
    have := cnCells_len l
    simp only [cnCells, List.flatMap_cons, List.length_append, List.length_cons, cnE_len] at this ⊢
    omega
theorem cnCells_app (a b : List Cn) : cnCells (a ++ b) = cnCells a ++ cnCells b := by simp [cnCells]
theorem cnCells_one {l : List Cn} : ∀ u ∈ cnCells l, u.oneCell' = true := by
  intro u hu
  obtain ⟨c, _, hu⟩ := List.mem_flatMap.1 hu
  exact cnE_one c u hu
theorem cnCells_at : ∀ (l : List Cn) (i t : Nat) (_ : t < 3) (hi : i < l.length), (cnCells l)[i * 3 + t]? = (cnE l[i])[t]?
  | c :: l, 0, t, ht, _ => by
    simp only [cnCells, List.flatMap_cons]
    rw [List.getElem?_append_left (by rw [cnE_len]; omega)]
    simp
  | c :: l, i + 1, t, ht, hi => by
    have := cnCells_at l i t ht (by simpa using hi)
    simp only [cnCells, List.flatMap_cons] at this ⊢
    rw [List.getElem?_append_right (by rw [cnE_len]; omega), cnE_len, show (i + 1) * 3 + t - 3 = i * 3 + t by omega, this]
    simp
/-- Counts that lie somewhere. -/
structure Cs (w : World) (V : Value) (l : List Cn) : Prop where
  ex : ∃ ad cap, V = .slice ad l.length cap ∧ l.length ≤ cap ∧ (ad = none → cap = 0) ∧ (l = [] ∨ ∃ g o, ad = some ⟨g, o, none⟩ ∧ g < w.heap.size ∧ ∀ (j : Nat) (u : Value), (cnCells l)[j]? = some u → w.cell? ⟨g, o + j, none⟩ = some u)
theorem Cs.nil (w : World) : Cs w (.slice none 0 0) [] := ⟨none, 0, rfl, Nat.le_refl _, fun _ => rfl, .inl rfl⟩
theorem Cs.keep {w w' : World} {V : Value} {l : List Cn} (h : Cs w V l) (hk : ∀ k, V.ownBlock = some k → w'.heap[k]? = w.heap[k]?) : Cs w' V l := by
  obtain ⟨ad, cap, rfl, hc, hn, h1⟩ := h.ex
  refine ⟨ad, cap, rfl, hc, hn, ?_⟩
  rcases h1 with h1 | ⟨g, o, rfl, hg, h1⟩
  · exact .inl h1
  · have e := hk g rfl
    refine .inr ⟨g, o, rfl, ?_, fun j u hu => (World.cell?_of_block (w := w) (a := ⟨g, o + j, none⟩) e).trans (h1 j u hu)⟩
    rw [Array.getElem?_eq_getElem hg] at e
    exact block_lt e
theorem Cs.below {w w' : World} {V : Value} {l : List Cn} {B : Nat} (h : Cs w V l) (g : Below B w w') (hB : ∀ k, V.ownBlock = some k → k < B) : Cs w' V l :=
  h.keep fun k hk => g.block k (hB k hk)
/-- In which nothing that was there has turned. -/
theorem Cs.past {w w' : World} {V : Value} {l : List Cn} (h : Cs w V l) (g : Below w.heap.size w w') : Cs w' V l := by
  obtain ⟨ad, cap, rfl, hc, hn, h1⟩ := h.ex
  refine ⟨ad, cap, rfl, hc, hn, ?_⟩
  rcases h1 with h1 | ⟨b, o, rfl, hg, h1⟩
  · exact .inl h1
  · exact .inr ⟨b, o, rfl, Nat.lt_of_lt_of_le hg g.size, fun j u hu => (World.cell?_of_block (w := w) (a := ⟨b, o + j, none⟩) (g.block b hg)).trans (h1 j u hu)⟩
theorem Cs.ofRow {w : World} {V : Value} {B n : Nat} {T : TypeId} {l : List Cn} (h : w.ownsRow B T 3 V n (cnCells l)) : Cs w V l := by
  have hl := h.1
  rw [cnCells_len] at hl
  obtain rfl : n = l.length := by omega
  rcases h.2 with ⟨rfl, h0⟩ | ⟨g, cap, cur, rfl, hB, hg, h1, h2, h3, h4⟩
  · exact ⟨none, 0, by rw [h0], by omega, fun _ => rfl, .inl (List.eq_nil_of_length_eq_zero h0)⟩
  · refine ⟨some ⟨g, 0, none⟩, cap, rfl, h1, (fun e => by cases e), .inr ⟨g, 0, rfl, block_lt hg, fun j u hu => ?_⟩⟩
    rw [← h4] at hu
    rw [cell_of_row _ _ _ _ _ _ hg]
    rw [List.getElem?_take] at hu
    split at hu
    · simpa using hu
    · cases hu
theorem Cs.nz {w : World} {V : Value} {l : List Cn} (h : Cs w V l) : V = .slice none 0 0 ∨ ∃ ad m c, V = .slice (some ad) m c := by
  obtain ⟨ad, cap, rfl, hc, hn, h1⟩ := h.ex
  cases ad with
  | none =>
    have := hn rfl
    subst this
    left
    rw [show l.length = 0 by omega]
  | some a => exact .inr ⟨a, _, _, rfl⟩
theorem Cs.is {w : World} {V : Value} {l : List Cn} (h : Cs w V l) : ∃ ad cap, V = .slice ad l.length cap := by
  obtain ⟨ad, cap, e, _⟩ := h.ex
  exact ⟨ad, cap, e⟩
/-- Behind the first one. -/
theorem Cs.tail {w : World} {ad : Option Addr} {n cap : Nat} {c : Cn} {l : List Cn} (h : Cs w (.slice ad n cap) (c :: l)) : ∃ g o, ad = some ⟨g, o, none⟩ ∧ Cs w (.slice (some ⟨g, o + 3, none⟩) l.length (cap - 1)) l := by
  obtain ⟨ad', cap', e, hc, hn, h1⟩ := h.ex
  injection e with e1 e2 e3
  subst e1 e3
  rcases h1 with h1 | ⟨g, o, rfl, hg, h1⟩
  · cases h1
  · refine ⟨g, o, rfl, _, _, rfl, by simp at hc; omega, (fun e => by cases e), .inr ⟨g, o + 3, rfl, hg, fun j u hu => ?_⟩⟩
    have := h1 (3 + j) u (by
      simp only [cnCells, List.flatMap_cons] at hu ⊢
      rw [List.getElem?_append_right (by rw [cnE_len]; omega), cnE_len, show 3 + j - 3 = j by omega]
      exact hu)
    rw [← Nat.add_assoc] at this
    exact this
/-- Where the cells of the i-th one lie. -/
theorem Cs.at {w : World} {ad : Option Addr} {n cap : Nat} {l : List Cn} (h : Cs w (.slice ad n cap) l) {i : Nat} (hi : i < l.length) : ∃ g o, ad = some ⟨g, o, none⟩ ∧ w.cell? ⟨g, o + i * 3, none⟩ = some (.string l[i].room) ∧ w.cell? ⟨g, o + i * 3 + 1, none⟩ = some (.int .i64 l[i].un) ∧ w.cell? ⟨g, o + i * 3 + 2, none⟩ = some (.int .i64 l[i].hi) := by
  obtain ⟨ad', cap', e, hc, hn, h1⟩ := h.ex
  injection e with e1 e2 e3
  subst e1 e3
  rcases h1 with rfl | ⟨g, o, rfl, hg, h1⟩
  · simp at hi
  · exact ⟨g, o, rfl, h1 _ _ (cnCells_at l i 0 (by omega) hi), (Nat.add_assoc o _ 1) ▸ h1 _ _ (cnCells_at l i 1 (by omega) hi), (Nat.add_assoc o _ 2) ▸ h1 _ _ (cnCells_at l i 2 (by omega) hi)⟩

/-- Of two texts: which is ahead. -/
def cmpS (a b : ByteArray) : Int := if Op.bytesLess a.toList b.toList = true then -1 else if (!a.toList == b.toList) = true then 1 else 0
theorem less_self : ∀ l : List UInt8, Op.bytesLess l l = false
  | [] => rfl
  | x :: l => by simp [Op.bytesLess, less_self l]
theorem toList_inj {a b : ByteArray} (h : a.toList = b.toList) : a = b := by
  rw [ByteArray.toList_eq, ByteArray.toList_eq] at h
  cases a; cases b
  simp at h
  rw [h]
theorem cmpS_self (a : ByteArray) : cmpS a a = 0 := by
  unfold cmpS
  rw [less_self]
  simp
theorem cmpS_eq {a b : ByteArray} : cmpS a b = 0 ↔ a = b := by
  constructor
  · intro h
    unfold cmpS at h
    split at h
    · cases h
    · split at h
      · cases h
      · rename_i h2
        exact toList_inj (by simpa using h2)
  · rintro rfl; exact cmpS_self a
def cmpI (a b : Int) : Int := if a < b then -1 else if b < a then 1 else 0
theorem cmpI_eq {a b : Int} : cmpI a b = 0 ↔ a = b := by
  unfold cmpI
  split
  · omega
  · split <;> omega
def cnC (x y : Cn) : Int := cmpS x.room y.room
def cnAll (x y : Cn) : Int := if cmpS x.room y.room ≠ 0 then cmpS x.room y.room else if cmpI x.un y.un ≠ 0 then cmpI x.un y.un else cmpI x.hi y.hi
end Go.Fd
