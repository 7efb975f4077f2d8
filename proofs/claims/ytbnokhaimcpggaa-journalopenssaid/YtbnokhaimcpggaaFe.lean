/-
  A journal with a new snapshot.
-/
import Derived.Test.YtbnokhaimcpggaaFd
import Derived.Test.YtbnokhaimcpggaaEv
namespace Go.Dk
open Go.Proofs.Dk in
theorem compact_eq {s : DS} (hf : s.fset = false) (H : Hd) (b : List UInt8) : ∃ s1, s1 = (s.into H.side 0 b).1 ∧ s1.fset = false ∧ s1.n = s.n ∧ (s.compact H b).1.view = put (put s1.view (H.gen % 2) (pad (H.bytes.set 0 0))) (H.gen % 2) (pad H.bytes) ∧ (s.compact H b).1.fset = false ∧ (s.compact H b).1.n = s.n ∧ (s.compact H b).1.W = [] := by
  refine ⟨_, rfl, ?_⟩
  have e1 : (s.into H.side 0 b).2 = true ∧ (s.into H.side 0 b).1.fset = false := run_free _ _ hf
  have n1 : (s.into H.side 0 b).1.n = s.n := run_n _ _
  obtain ⟨r1, hr1⟩ : ∃ r1, r1 = s.into H.side 0 b := ⟨_, rfl⟩
  unfold DS.compact DS.layH
  rw [← hr1] at e1 n1 ⊢
  have e2 := op_free r1.1 .sy e1.2
  have v2 := op_sy_view e1.2
  have n2 : (r1.1.op .sy).1.n = s.n := by rw [DS.op_n, n1]
  simp only [andThen, e1.1, if_true, e2.1]
  have e3 := op_free (r1.1.op .sy).1 (.wr (H.gen % 2) (H.bytes.set 0 0)) e2.2
  have v3 := op_wr_view e2.2 (H.gen % 2) (H.bytes.set 0 0)
  simp only [e3.1, if_true]
  have e4 := op_free _ .sy e3.2
  have v4 := op_sy_view e3.2
  simp only [e4.1, if_true]
  have e5 := op_free _ (.wr (H.gen % 2) H.bytes) e4.2
  have v5 := op_wr_view e4.2 (H.gen % 2) H.bytes
  simp only [e5.1, if_true]
  have e6 := op_free _ .sy e5.2
  have v6 := op_sy_view e5.2
  refine ⟨e1.2, n1, ?_, e6.2, by simp only [DS.op_n, n1], v6.2.1⟩
  rw [v6.1, v5, v4.1, v3, v2.1]
theorem head_get {v : List UInt8} {n k : Nat} {c b : List UInt8} (hl : v.length = 64 * n) (hk : k < n) (hc : c.length = 64) (hb : b.length = 64) (j : Nat) : (put (put v k (pad c)) k (pad b))[j]? = if 64 * k ≤ j ∧ j < 64 * k + 64 then b[j - 64 * k]? else v[j]? := by
  rw [pad64 hc, pad64 hb, get_put (by rw [length_put (by rw [hc, hl]; omega), hb, hl]; omega), hb, get_put (by rw [hc, hl]; omega), hc]
  by_cases h1 : j < 64 * k
  · rw [if_pos h1, if_pos h1, if_neg (by omega)]
  · rw [if_neg h1]
    by_cases h2 : j < 64 * k + 64
    · rw [if_pos h2, if_pos (by omega)]
    · rw [if_neg h2, if_neg h1, if_neg h2, if_neg (by omega)]
open Go.Proofs.Dk in
theorem Holds.compact {s : DS} {g a : Nat} {snap : List UInt8} {recs : List (List UInt8)} (h : Holds s g a snap recs) (b : List UInt8) (hg : g < 999999999) (hb : b.length ≤ 64 * half s.n) :
    Holds (s.compact (nextH a g b) b).1 (g + 1) (1 - a) b [] := by
  obtain ⟨H, hH⟩ : ∃ H, H = nextH a g b := ⟨_, rfl⟩
  have hHs : H.side = 1 - a := by rw [hH]; rfl
  have hHg : H.gen = g + 1 := by rw [hH]; rfl
  have hHb : H = ⟨1 - a, g + 1, b.length, fnv b⟩ := hH
  rw [← hH]
  obtain ⟨s1, hs1, f1, n1, hv, hf, hn, hW⟩ := compact_eq h.fs H b
  rw [hHs] at hs1
  have hn2 : 2 ≤ s.n := by have := h.n8; omega
  have hh0 : 0 < half s.n := by have := h.n8; unfold half; omega
  have ha1 : 1 - a ≤ 1 := by omega
  obtain ⟨-, -, i3, i4, i5⟩ := into_get h.fs h.len hn2 ha1 (p := 0) (b := b) (by omega) (by omega)
  rw [← hs1] at i3 i4 i5
  have hget := fun j => head_get (c := H.bytes.set 0 0) (b := H.bytes) i3 (show H.gen % 2 < s.n by omega) (by rw [List.length_set]; exact hd_len H) (hd_len H) j
  rw [← hv, hHg] at hget
  have hlen : (s.compact H b).1.view.length = 64 * s.n := by
    rw [hv, length_put, length_put, i3]
    · rw [pad_length (by rw [List.length_set, hd_len]; omega), i3]; omega
    · rw [length_put (by rw [pad_length (by rw [List.length_set, hd_len]; omega), i3]; omega), pad_length (by rw [hd_len]; omega), i3]; omega
  have h2b : ∀ c, 128 ≤ abeg s.n c := fun c => by unfold abeg; omega
  have hbe := abeg_le hn2 h.a1
  have hap : ∀ q, q < 64 * half s.n → abeg s.n a + q < abeg s.n (1 - a) ∨ abeg s.n (1 - a) + 64 * half s.n ≤ abeg s.n a + q := fun q hq => by
    have := h.a1
    unfold abeg
    rcases (show a = 0 ∨ a = 1 by omega) with rfl | rfl
    · left; omega
    · right; omega
  have hk1 : blk (s.compact H b).1.view ((g + 1) % 2) = H.bytes := by
    apply List.ext_getElem?
    intro j
    rw [get_blk]
    split
    · rw [hget, if_pos (by omega), show 64 * ((g + 1) % 2) + j - 64 * ((g + 1) % 2) = j by omega]
    · rw [List.getElem?_eq_none (by rw [hd_len]; omega)]
  have hk0 : blk (s.compact H b).1.view (g % 2) = blk s.view (g % 2) := by
    apply List.ext_getElem?
    intro j
    rw [get_blk, get_blk]
    split
    · rw [hget, if_neg (by omega), i5 _ (.inl (by have := h2b (1 - a); omega))]
    · rfl
  have har : area (s.compact H b).1.view s.n a = area s.view s.n a := by
    apply List.ext_getElem?
    intro q
    rw [area_get, area_get]
    split
    · rename_i hq
      rw [hget, if_neg (by have := h2b a; omega), i5 _ (hap q hq)]
    · rfl
  refine ⟨hf, hW, by rw [hn]; exact hlen, by rw [hn]; exact h.n8, by rw [hn]; exact h.n4, ha1, by omega, by omega, by rw [hk1, hHb], ?_, by rw [hn]; simpa [body] using hb, by simp, ?_, ?_⟩
  · right
    have hr := h.right
    refine ⟨⟨a, g, snap.length, fnv snap⟩, ?_, by show g < g + 1; omega, by have := h.a1; show a = 1 - (1 - a); omega⟩
    rw [show 1 - (g + 1) % 2 = g % 2 by omega, hn, ← hr]
    unfold headIn
    rw [hk0]
    have hS : headS (blk s.view (g % 2)) (g % 2) = some ⟨a, g, snap.length, fnv snap⟩ := by
      unfold headIn at hr
      cases hS : headS (blk s.view (g % 2)) (g % 2) with
      | none => rw [hS] at hr; cases hr
      | some H' =>
        rw [hS] at hr
        simp only at hr
        split at hr
        · cases hr
        · split at hr
          · cases hr
          · exact hr
    rw [hS]
    simp only [har]
  · have e : body b [] = b := by simp [body]
    rw [hn, e]
    intro q hq
    rw [hget, if_neg (by have := h2b (1 - a); omega), i4 q (by omega), if_neg (by omega), if_pos (by omega), Nat.sub_zero]
  · have e : body b [] = b := by simp [body]
    rw [hn, e]
    intro hz
    rw [hget, if_neg (by have := h2b (1 - a); omega), i4 _ hz, if_neg (by omega), if_neg (by omega), if_pos (by unfold span; omega)]
end Go.Dk
