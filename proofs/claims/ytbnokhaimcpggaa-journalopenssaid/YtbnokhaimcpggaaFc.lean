/-
  A disk that holds a journal.
-/
import Derived.Test.YtbnokhaimcpggaaFb
import Derived.Test.YtbnokhaimcpggaaEt
namespace Go.Dk
theorem of_bytes {h : Hd} (h0 : h.side < 256) (h1 : h.gen < 4294967296) (h2 : h.size < 4294967296) (h3 : h.sum < 4294967296) : Hd.of h.bytes = h := by
  have e0 : (h.bytes.getD 6 0) = UInt8.ofNat h.side := rfl
  have e1 : (h.bytes.drop 8).take 4 = le 4 h.gen := rfl
  have e2 : (h.bytes.drop 12).take 4 = le 4 h.size := rfl
  have e3 : (h.bytes.drop 16).take 4 = le 4 h.sum := rfl
  have hp : (256 : Nat) ^ 4 = 4294967296 := by decide
  unfold Hd.of
  rw [e0, e1, e2, e3, num_le, num_le, num_le, hp, Nat.mod_eq_of_lt h1, Nat.mod_eq_of_lt h2, Nat.mod_eq_of_lt h3, UInt8.toNat_ofNat_of_lt' (by show h.side < 256; exact h0)]
def recB (d : List UInt8) : List UInt8 := 1 :: (le 2 d.length ++ le 4 (fnv d) ++ d)
theorem recB_len (d : List UInt8) : (recB d).length = 7 + d.length := by simp [recB, le_len]; omega
def body (snap : List UInt8) (recs : List (List UInt8)) : List UInt8 := snap ++ recs.flatMap recB
theorem sub_eq {row r : List UInt8} {p o m : Nat} (hr : o + m ≤ r.length) (_hl : p + r.length ≤ row.length) (hb : ∀ q, q < r.length → row[p + q]? = r[q]?) : (row.drop (p + o)).take m = (r.drop o).take m := by
  apply List.ext_getElem?
  intro q
  rw [List.getElem?_take, List.getElem?_take]
  split
  · rw [List.getElem?_drop, List.getElem?_drop, Nat.add_assoc, hb (o + q) (by omega)]
  · rfl
theorem recAt_of {row : List UInt8} {p : Nat} {d : List UInt8} (h0 : 0 < d.length) (h6 : d.length ≤ 6000) (hl : p + (7 + d.length) ≤ row.length) (hb : ∀ q, q < (recB d).length → row[p + q]? = (recB d)[q]?) : recAt row p = some d := by
  have hrl := recB_len d
  have e1 : (row.drop (p + 1)).take 2 = le 2 d.length := by
    rw [sub_eq (r := recB d) (by omega) (by omega) hb]; rfl
  have e3 : (row.drop (p + 3)).take 4 = le 4 (fnv d) := by
    rw [sub_eq (r := recB d) (by omega) (by omega) hb]; rfl
  have e7 : (row.drop (p + 7)).take d.length = d := by
    rw [sub_eq (r := recB d) (by omega) (by omega) hb]
    have : (recB d).drop 7 = d := rfl
    rw [this, List.take_length]
  have hf : row[p]? = some 1 := by have := hb 0 (by omega); rw [Nat.add_zero] at this; rw [this]; rfl
  have p2 : (256 : Nat) ^ 2 = 65536 := by decide
  have p4 : (256 : Nat) ^ 4 = 4294967296 := by decide
  have hfl := fnv_lt d
  have n1 : num (le 2 d.length) = d.length := by rw [num_le]; exact Nat.mod_eq_of_lt (by omega)
  have n3 : num (le 4 (fnv d)) = fnv d := by rw [num_le]; exact Nat.mod_eq_of_lt (by omega)
  unfold recAt
  rw [e1, e3, n1, n3, e7, hf, if_neg (by simp; omega), if_neg (by omega), if_neg (by simp)]
theorem recAt_zero {row : List UInt8} {p : Nat} (h : row[p]? = some 0 ∨ row.length ≤ p) : recAt row p = none := by
  unfold recAt
  rw [if_pos]
  rcases h with h | h
  · right; rw [h]; decide
  · left; omega
theorem cut_body {row : List UInt8} : ∀ (rs : List (List UInt8)) (p : Nat), (∀ d ∈ rs, 0 < d.length ∧ d.length ≤ 6000) → p + (rs.flatMap recB).length ≤ row.length → (∀ q, q < (rs.flatMap recB).length → row[p + q]? = (rs.flatMap recB)[q]?) → (p + (rs.flatMap recB).length < row.length → row[p + (rs.flatMap recB).length]? = some 0) → cut row p = (rs, p + (rs.flatMap recB).length)
  | [], p, _, hl, _, hz => by
    simp only [List.flatMap_nil, List.length_nil, Nat.add_zero] at hl hz ⊢
    exact cut_none (recAt_zero (by by_cases h : p < row.length; exact .inl (hz h); exact .inr (by omega)))
  | d :: rs, p, hr, hl, hb, hz => by
    have hd := hr d (by simp)
    have hrl := recB_len d
    simp only [List.flatMap_cons, List.length_append] at hl hb hz ⊢
    have h1 : recAt row p = some d := recAt_of (row := row) (p := p) (d := d) hd.1 hd.2 (by omega) (fun q hq => by rw [hb q (by omega), List.getElem?_append_left hq])
    have ih := cut_body (row := row) rs (p + (7 + d.length)) (fun e he => hr e (by simp [he])) (by omega) (fun q hq => by
      rw [Nat.add_assoc, hb _ (by rw [hrl]; omega), List.getElem?_append_right (by rw [hrl]; omega), hrl, show 7 + d.length + q - (7 + d.length) = q by omega]) (fun h => by
      have := hz (by rw [hrl]; omega)
      rw [hrl] at this
      rw [Nat.add_assoc]
      exact this)
    rw [cut_some h1, show p + 7 + d.length = p + (7 + d.length) by omega, ih, hrl]
    simp only [Nat.add_assoc]
/-- A disk that holds the journal of generation g in area a, and no fuse is set. -/
structure Holds (s : DS) (g a : Nat) (snap : List UInt8) (recs : List (List UInt8)) : Prop where
  fs : s.fset = false
  sy : s.W = []
  len : s.view.length = 64 * s.n
  n8 : 8 ≤ s.n
  n4 : s.n ≤ 4096
  a1 : a ≤ 1
  g1 : 1 ≤ g
  g2 : g ≤ 999999999
  head : blk s.view (g % 2) = Hd.bytes ⟨a, g, snap.length, fnv snap⟩
  other : blk s.view (1 - g % 2) = List.replicate 64 0 ∨ ∃ H, headIn s.view s.n (1 - g % 2) = some H ∧ H.gen < g ∧ H.side = 1 - a
  small : (body snap recs).length ≤ 64 * half s.n
  rl : ∀ d ∈ recs, 0 < d.length ∧ d.length ≤ 6000
  bytes : ∀ q, q < (body snap recs).length → s.view[abeg s.n a + q]? = (body snap recs)[q]?
  zero : (body snap recs).length < 64 * half s.n → s.view[abeg s.n a + (body snap recs).length]? = some 0
theorem Holds.snap {s : DS} {g a : Nat} {snap : List UInt8} {recs : List (List UInt8)} (h : Holds s g a snap recs) : (area s.view s.n a).take snap.length = snap := by
  have hb : (body snap recs).length = snap.length + (recs.flatMap recB).length := by simp [body]
  have hs := h.small
  apply List.ext_getElem?
  intro q
  rw [List.getElem?_take]
  by_cases hq : q < snap.length
  · rw [if_pos hq, area_get, if_pos (by omega), h.bytes q (by omega), body, List.getElem?_append_left hq]
  · rw [if_neg hq, List.getElem?_eq_none (by omega)]
theorem Holds.right {s : DS} {g a : Nat} {snap : List UInt8} {recs : List (List UInt8)} (h : Holds s g a snap recs) : headIn s.view s.n (g % 2) = some ⟨a, g, snap.length, fnv snap⟩ := by
  have hb : (body snap recs).length = snap.length + (recs.flatMap recB).length := by simp [body]
  have hs := h.small
  have hf := fnv_lt snap
  have hhl : half s.n ≤ 2047 := by have := h.n4; unfold half; omega
  have ho := of_bytes (h := ⟨a, g, snap.length, fnv snap⟩) (by have := h.a1; show a < 256; omega) (by have := h.g2; show g < 4294967296; omega) (by show snap.length < 4294967296; omega) hf
  have hS : headS (blk s.view (g % 2)) (g % 2) = some ⟨a, g, snap.length, fnv snap⟩ := by
    rw [h.head]
    unfold headS
    rw [ho, if_neg]
    have := h.a1; have := h.g1; have := h.g2
    simp only [not_or, Nat.not_lt, Decidable.not_not]
    exact ⟨h.a1, h.g1, h.g2, trivial, trivial⟩
  unfold headIn
  rw [hS]
  simp only
  rw [if_neg (by show ¬ 64 * half s.n < snap.length; omega), if_neg (by rw [Decidable.not_not]; show fnv ((area s.view s.n a).take snap.length) = fnv snap; rw [h.snap])]
theorem Holds.cut {s : DS} {g a : Nat} {snap : List UInt8} {recs : List (List UInt8)} (h : Holds s g a snap recs) : cut (area s.view s.n a) snap.length = (recs, (body snap recs).length) := by
  have hb : (body snap recs).length = snap.length + (recs.flatMap recB).length := by simp [body]
  have hs := h.small
  have hal : (area s.view s.n a).length = 64 * half s.n := by
    have := abeg_le (n := s.n) (by have := h.n8; omega) h.a1
    unfold area
    rw [List.length_take, List.length_drop, h.len]
    unfold abeg at this
    omega
  rw [cut_body recs snap.length h.rl (by omega) (fun q hq => ?_) (fun hz => ?_), hb]
  · rw [area_get, if_pos (by omega), h.bytes _ (by omega), body, List.getElem?_append_right (by omega), show snap.length + q - snap.length = q by omega]
  · have := h.zero (by omega)
    rw [hb] at this
    rw [area_get, if_pos (by omega)]
    exact this
end Go.Dk
