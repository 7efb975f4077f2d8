/-
  A new disk, formatted; what Open and Format see of a journal.
-/
import Derived.Test.YtbnokhaimcpggaaFe
import Derived.Test.YtbnokhaimcpggaaEx
namespace Go.Dk
open Go.Proofs.Dk in
theorem holds_new {s : DS} (fs : s.fset = false) (hz : s.view = List.replicate (64 * s.n) 0) (h8 : 8 ≤ s.n) (h4 : s.n ≤ 4096) : Holds (formatN s) 1 0 [] [] := by
  obtain ⟨s2, hs2⟩ : ∃ s2, s2 = ((s.op (.wr 0 [])).1.op .sy).1 := ⟨_, rfl⟩
  have e1 := op_free s (.wr 0 []) fs
  have f2 : s2.fset = false := by rw [hs2]; exact (op_free _ _ e1.2).2
  have n2 : s2.n = s.n := by rw [hs2, DS.op_n, DS.op_n]
  have v2 : s2.view = List.replicate (64 * s.n) 0 := by
    rw [hs2, (op_sy_view e1.2).1, op_wr_view fs, hz]
    apply List.ext_getElem?
    intro j
    have hpl : (pad ([] : List UInt8)).length = 64 := rfl
    rw [get_put (by rw [hpl, List.length_replicate]; omega), hpl]
    by_cases h1 : j < 64
    · rw [if_neg (by omega), if_pos (by omega), pad_get (by simp) (by omega), List.getElem?_replicate, if_pos (by omega)]; rfl
    · rw [if_neg (by omega), if_neg (by omega)]
  have hl2 : s2.view.length = 64 * s2.n := by rw [v2, List.length_replicate, n2]
  unfold formatN
  rw [← hs2]
  obtain ⟨H, hH⟩ : ∃ H, H = nextH 1 0 [] := ⟨_, rfl⟩
  have hHs : H.side = 0 := by rw [hH]; rfl
  have hHg : H.gen = 1 := by rw [hH]; rfl
  have hHb : H = ⟨0, 1, ([] : List UInt8).length, fnv []⟩ := hH
  rw [← hH]
  obtain ⟨s1, hs1, f1, n1, hv, hf, hn, hW⟩ := compact_eq f2 H []
  rw [hHs] at hs1
  have hh0 : 0 < half s2.n := by unfold half; omega
  obtain ⟨-, -, i3, i4, i5⟩ := into_get f2 hl2 (by omega) (show 0 ≤ 1 by omega) (p := 0) (b := []) (by omega) (by simp)
  rw [← hs1] at i3 i4 i5
  have hget := fun j => head_get (c := H.bytes.set 0 0) (b := H.bytes) i3 (show H.gen % 2 < s2.n by omega) (by rw [List.length_set]; exact hd_len H) (hd_len H) j
  rw [← hv, hHg] at hget
  have hlen : (s2.compact H []).1.view.length = 64 * s2.n := by
    rw [hv, length_put, length_put, i3]
    · rw [pad_length (by rw [List.length_set, hd_len]; omega), i3]; omega
    · rw [length_put (by rw [pad_length (by rw [List.length_set, hd_len]; omega), i3]; omega), pad_length (by rw [hd_len]; omega), i3]; omega
  have h2b : 128 ≤ abeg s2.n 0 := by unfold abeg; omega
  refine ⟨hf, hW, by rw [hn]; exact hlen, by omega, by omega, by omega, by omega, by omega, ?_, .inl ?_, by simp [body], by simp, by simp [body], ?_⟩
  · rw [← hHb]
    apply List.ext_getElem?
    intro j
    rw [get_blk]
    split
    · rw [hget, if_pos (by omega), show 64 * (1 % 2) + j - 64 * (1 % 2) = j by omega]
    · rw [List.getElem?_eq_none (by rw [hd_len]; omega)]
  · apply List.ext_getElem?
    intro j
    rw [get_blk, List.getElem?_replicate]
    split
    · rw [hget, if_neg (by omega), i5 _ (.inl (by omega)), v2, List.getElem?_replicate, if_pos (by omega)]
    · rfl
  · intro _
    rw [hn, hget, if_neg (by omega)]
    simp only [body, List.flatMap_nil, List.append_nil, List.length_nil, Nat.add_zero]
    have := i4 0 (by omega)
    rw [Nat.add_zero] at this
    rw [this, if_neg (by omega), if_neg (by simp), if_pos (by unfold span; omega)]
theorem of_zero : (Hd.of (List.replicate 64 0)).side = 0 ∧ (Hd.of (List.replicate 64 0)).gen = 0 := ⟨rfl, rfl⟩
open Go.Proofs.Dk in
/-- What counting sees. -/
theorem Holds.looks {s : DS} {g a : Nat} {snap : List UInt8} {recs : List (List UInt8)} (h : Holds s g a snap recs) : ∃ x y, Looks s 0 x ∧ Looks s 1 y ∧ heads x y = some ⟨a, g, snap.length, fnv snap⟩ := by
  have hr : Looks s (g % 2) (some ⟨a, g, snap.length, fnv snap⟩) := .inr ⟨_, rfl, h.right⟩
  have ho : ∃ o, Looks s (1 - g % 2) o ∧ ∀ H, o = some H → H.gen < g := by
    rcases h.other with h1 | ⟨H, h1, h2, h3⟩
    · refine ⟨none, .inl ⟨rfl, ?_, ?_⟩, fun H e => by cases e⟩
      · rw [h1, of_zero.1]; omega
      · rw [h1, of_zero.2]; omega
    · exact ⟨some H, .inr ⟨H, rfl, h1⟩, fun H' e => by cases e; exact h2⟩
  obtain ⟨o, ho, hlt⟩ := ho
  rcases (show g % 2 = 0 ∨ g % 2 = 1 by omega) with e | e
  · rw [e] at hr ho
    refine ⟨_, o, hr, ho, ?_⟩
    cases o with
    | none => rfl
    | some H =>
      have := hlt H rfl
      show (if H.gen < g then _ else _) = _
      rw [if_pos this]
  · rw [e] at hr ho
    refine ⟨o, _, ho, hr, ?_⟩
    cases o with
    | none => rfl
    | some H =>
      have := hlt H rfl
      show (if g < H.gen then _ else _) = _
      rw [if_neg (by omega)]
theorem Looks_new {s : DS} (hz : s.view = List.replicate (64 * s.n) 0) (h8 : 8 ≤ s.n) (k : Nat) (hk : k ≤ 1) : Go.Proofs.Dk.Looks s k none := by
  have e : blk s.view k = List.replicate 64 0 := by
    rw [hz]
    apply List.ext_getElem?
    intro j
    rw [get_blk, List.getElem?_replicate, List.getElem?_replicate]
    split
    · rw [if_pos (by omega)]
    · rfl
  refine .inl ⟨rfl, ?_, ?_⟩
  · rw [e, of_zero.1]; omega
  · rw [e, of_zero.2]; omega
end Go.Dk
