/-
  A journal with a record more.
-/
import Derived.Test.YtbnokhaimcpggaaFc
namespace Go.Dk
theorem pad64 {b : List UInt8} (h : b.length = 64) : pad b = b := by simp [pad, h]
/-- One byte of a block is set. -/
theorem flag_get {v : List UInt8} {n I t : Nat} (hl : v.length = 64 * n) (hI : I < n) (ht : t < 64) (j : Nat) : (put v I (pad ((blk v I).set t 1)))[j]? = if j = 64 * I + t then some 1 else v[j]? := by
  have hb := blk_length hl hI
  have hs : ((blk v I).set t 1).length = 64 := by rw [List.length_set, hb]
  rw [pad64 hs, get_put (by rw [hs, hl]; omega), hs]
  by_cases h1 : j < 64 * I
  · rw [if_pos h1, if_neg (by omega)]
  · rw [if_neg h1]
    by_cases h2 : j < 64 * I + 64
    · rw [if_pos h2, List.getElem?_set, hb]
      by_cases h3 : t = j - 64 * I
      · rw [if_pos h3, if_pos (by omega), if_pos (by omega)]
      · rw [if_neg h3, if_neg (by omega), get_blk, if_pos (by omega), show 64 * I + (j - 64 * I) = j by omega]
    · rw [if_neg h2, if_neg (by omega)]
theorem append_eq {s : DS} (hf : s.fset = false) (side p : Nat) (d : List UInt8) : ∃ s1, s1 = (s.into side p (unflag d)).1 ∧ s1.fset = false ∧ s1.n = s.n ∧ (s.append side p d).1.view = put s1.view (ablk s.n side p) (pad ((blk s1.view (ablk s.n side p)).set (p % 64) 1)) ∧ (s.append side p d).1.fset = false ∧ (s.append side p d).1.n = s.n ∧ (s.append side p d).1.W = [] := by
  refine ⟨_, rfl, ?_⟩
  have e1 : (s.into side p (unflag d)).2 = true ∧ (s.into side p (unflag d)).1.fset = false := run_free _ _ hf
  have n1 : (s.into side p (unflag d)).1.n = s.n := run_n _ _
  obtain ⟨r1, hr1⟩ : ∃ r1, r1 = s.into side p (unflag d) := ⟨_, rfl⟩
  unfold DS.append
  rw [← hr1] at e1 n1 ⊢
  have e2 := op_free r1.1 .sy e1.2
  have v2 := op_sy_view e1.2
  have n2 : (r1.1.op .sy).1.n = s.n := by rw [DS.op_n, n1]
  simp only [andThen, e1.1, if_true, e2.1]
  have e3 := op_free (r1.1.op .sy).1 (.wr (ablk (r1.1.op .sy).1.n side p) ((blk (r1.1.op .sy).1.view (ablk (r1.1.op .sy).1.n side p)).set (p % 64) 1)) e2.2
  have v3 := op_wr_view e2.2 (ablk (r1.1.op .sy).1.n side p) ((blk (r1.1.op .sy).1.view (ablk (r1.1.op .sy).1.n side p)).set (p % 64) 1)
  have v4 := op_sy_view e3.2
  have e4 := op_free _ .sy e3.2
  simp only [e3.1, if_true]
  refine ⟨e1.2, n1, ?_, e4.2, by rw [DS.op_n, DS.op_n, n2], v4.2.1⟩
  rw [v4.1, v3, v2.1, n2]
theorem Holds.append {s : DS} {g a : Nat} {snap : List UInt8} {recs : List (List UInt8)} (h : Holds s g a snap recs) (d : List UInt8) (h0 : 0 < d.length) (h6 : d.length ≤ 6000) (hr : (body snap recs).length + 7 + d.length ≤ 64 * half s.n) :
    Holds (s.append a (body snap recs).length d).1 g a snap (recs ++ [d]) := by
  obtain ⟨e, he⟩ : ∃ e, e = (body snap recs).length := ⟨_, rfl⟩
  rw [← he] at hr ⊢
  obtain ⟨s1, hs1, f1, n1, hv, hf, hn, hW⟩ := append_eq h.fs a e d
  have hul := unflag_len d
  have hn2 : 2 ≤ s.n := by have := h.n8; omega
  obtain ⟨-, -, i3, i4, i5⟩ := into_get h.fs h.len hn2 h.a1 (p := e) (b := unflag d) (by omega) (by omega)
  rw [← hs1] at i3 i4 i5
  have hbe := abeg_le hn2 h.a1
  have hIb := ablk_beg s.n a e
  have hI : ablk s.n a e < s.n := by omega
  have hget : ∀ j, (s.append a e d).1.view[j]? = if j = abeg s.n a + e then some 1 else s1.view[j]? := fun j => by
    rw [hv, flag_get i3 hI (Nat.mod_lt _ (by omega)), show 64 * ablk s.n a e + e % 64 = abeg s.n a + e by omega]
  have hbody : body snap (recs ++ [d]) = body snap recs ++ recB d := by simp [body]
  have hbl : (body snap (recs ++ [d])).length = e + (7 + d.length) := by rw [hbody, List.length_append, recB_len, he]
  have hout : ∀ j, j < abeg s.n a ∨ abeg s.n a + 64 * half s.n ≤ j → (s.append a e d).1.view[j]? = s.view[j]? := fun j hj => by rw [hget, if_neg (by omega), i5 j hj]
  have hlen : (s.append a e d).1.view.length = 64 * s.n := by
    rw [hv, length_put (by rw [pad_length (by rw [List.length_set, blk_length i3 hI]; omega), i3]; omega), i3]
  have h2b : 128 ≤ abeg s.n a := by unfold abeg; omega
  have hblk : ∀ k, k ≤ 1 → blk (s.append a e d).1.view k = blk s.view k := fun k hk => by
    apply List.ext_getElem?
    intro j
    rw [get_blk, get_blk]
    split
    · exact hout _ (.inl (by omega))
    · rfl
  refine ⟨hf, hW, by rw [hn]; exact hlen, by rw [hn]; exact h.n8, by rw [hn]; exact h.n4, h.a1, h.g1, h.g2, by rw [hblk _ (by omega)]; exact h.head, ?_, by rw [hn, hbl]; omega, ?_, ?_, ?_⟩
  · rw [hblk _ (by omega)]
    rcases h.other with h1 | ⟨H, h1, h2, h3⟩
    · exact .inl h1
    · right
      refine ⟨H, ?_, h2, h3⟩
      rw [← h1, hn]
      unfold headIn
      rw [hblk _ (by omega)]
      have har : area (s.append a e d).1.view s.n (1 - a) = area s.view s.n (1 - a) := by
        apply List.ext_getElem?
        intro q
        rw [area_get, area_get]
        split
        · refine hout _ ?_
          have := h.a1
          unfold abeg
          rcases (show a = 0 ∨ a = 1 by omega) with rfl | rfl
          · right; omega
          · left; omega
        · rfl
      have hos := (headIn_some h1).1
      cases hS : headS (blk s.view (1 - g % 2)) (1 - g % 2) with
      | none => rfl
      | some H' =>
        have e' : H' = Hd.of (blk s.view (1 - g % 2)) := by
          unfold headS at hS
          split at hS
          · cases hS
          · exact (Option.some.inj hS).symm
        have hside : H'.side = 1 - a := by rw [e', ← hos]; exact h3
        simp only [hside, har]
  · intro x hx
    rcases List.mem_append.1 hx with h1 | h1
    · exact h.rl x h1
    · simp at h1; subst h1; exact ⟨h0, h6⟩
  · rw [hn, hbl]
    intro q hq
    rw [hget, hbody]
    by_cases q1 : q < e
    · rw [if_neg (by omega), i4 q (by omega), if_pos q1, h.bytes q (by omega), List.getElem?_append_left (by omega)]
    · rw [List.getElem?_append_right (by omega), ← he]
      by_cases q2 : q = e
      · rw [if_pos (by omega), q2, Nat.sub_self]; rfl
      · rw [if_neg (by omega), i4 q (by omega), if_neg q1, if_pos (by omega)]
        obtain ⟨m, hm⟩ : ∃ m, q - e = m + 1 := ⟨q - e - 1, by omega⟩
        rw [hm]
        rfl
  · rw [hn, hbl]
    intro hz
    rw [hget, if_neg (by omega), i4 _ hz, if_neg (by omega), if_neg (by omega), if_pos (by rw [hul]; unfold span; omega)]
end Go.Dk
