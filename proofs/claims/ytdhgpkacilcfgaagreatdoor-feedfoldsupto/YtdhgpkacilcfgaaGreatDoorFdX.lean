/-
  FEED: a user whose one room's count rises; Since at each place.
-/
import Derived.Test.YtdhgpkacilcfgaaGreatDoorFdW
namespace Go.Fd
/-- The sheets of one room whose count rises. -/
def shi (i : Nat) : List Cn := if i = 0 then [] else [⟨⟨#[33, 114]⟩, i, 0⟩]
def Sn (n : Nat) : List (List Cn) := ((List.range (n + 1)).map shi).drop (n - 50)
theorem Sn_at {n k : Nat} (h1 : n - 50 ≤ k) (h2 : k ≤ n) : (Sn n)[k - (n - 50)]? = some (shi k) := by
  unfold Sn
  rw [List.getElem?_drop, show n - 50 + (k - (n - 50)) = k by omega, List.getElem?_map, List.getElem?_range (by omega)]
  rfl
theorem Sn_len (n : Nat) : (Sn n).length = n + 1 - (n - 50) := by unfold Sn; simp
theorem Sn_last (n : Nat) : (Sn n).getLast? = some (shi n) := by
  rw [List.getLast?_eq_getElem?, Sn_len, show n + 1 - (n - 50) - 1 = n - (n - 50) by omega]
  exact Sn_at (by omega) (Nat.le_refl _)
theorem Sn_next (n : Nat) : trim (Sn n ++ [shi (n + 1)]) = Sn (n + 1) := by
  have e : Sn n ++ [shi (n + 1)] = ((List.range (n + 2)).map shi).drop (n - 50) := by
    unfold Sn
    rw [show List.range (n + 2) = List.range (n + 1) ++ [n + 1] from List.range_succ, List.map_append, List.drop_append_of_le_length (by simp; omega)]
    rfl
  have hl : (Sn n ++ [shi (n + 1)]).length = n + 1 - (n - 50) + 1 := by rw [List.length_append, Sn_len]; rfl
  unfold trim
  split
  · rw [e, List.tail_drop]
    unfold Sn
    congr 1
    omega
  · rw [e]
    unfold Sn
    congr 1
    omega
theorem shi_ne (n : Nat) : shi n ≠ shi (n + 1) := by
  unfold shi
  intro h
  by_cases e : n = 0
  · simp [e] at h
  · simp [e] at h
    omega
theorem shi_ch {n k : Nat} (hn : 1 ≤ n) (hk : k ≤ n) : (changed (shi n) (shi k)).length = if k < n then 1 else 0 := by
  unfold changed shi
  rw [if_neg (by omega)]
  by_cases h0 : k = 0
  · subst h0
    rw [if_pos rfl, if_pos (by omega)]
    rfl
  · rw [if_neg h0]
    by_cases hkn : k < n
    · rw [if_pos hkn]
      have e : cnAll ⟨⟨#[33, 114]⟩, n, 0⟩ ⟨⟨#[33, 114]⟩, k, 0⟩ = 1 := by
        unfold cnAll
        simp only [cmpS_self]
        have e2 : cmpI (n : Int) (k : Int) = 1 := by
          unfold cmpI
          rw [if_neg (by omega), if_pos (by omega)]
        rw [e2]
        rfl
      simp [wout, skip, e]
    · obtain rfl : k = n := by omega
      rw [if_neg hkn]
      have e : cnAll ⟨⟨#[33, 114]⟩, k, 0⟩ ⟨⟨#[33, 114]⟩, k, 0⟩ = 0 := by
        unfold cnAll
        simp only [cmpS_self]
        have e2 : cmpI (k : Int) (k : Int) = 0 := cmpI_eq.2 rfl
        rw [e2]
        rfl
      simp [wout, skip, e]
theorem shi_go {n k : Nat} (hn : 1 ≤ n) : (goneL (shi n) (shi k)).length = 0 := by
  unfold goneL shi
  rw [if_neg (show ¬ n = 0 by omega)]
  by_cases h0 : k = 0
  · rw [if_pos h0]; rfl
  · rw [if_neg h0]
    simp [wout, skip, cnC, cmpS_self]
theorem shi_len {n : Nat} (hn : 1 ≤ n) : (shi n).length = 1 := by unfold shi; rw [if_neg (by omega)]; rfl
theorem sheet_shi {n : Nat} : sheet [⟨⟨#[33, 114]⟩, ((n + 1 : Nat) : Int), 0⟩] = shi (n + 1) := by rw [sheet_one]; rfl
end Go.Fd
namespace Go.Proofs
open Go.RowKit Go.Wi Go.Fd Go.Sort
theorem Fd.kept_next {F : ByteArray → Option Sh} {u : ByteArray} {n : Nat} (h : Fd.keptOf F u = (n, Sn n)) (hn : n < 1000) : Fd.keptOf (putF F u (shi (n + 1))) u = (n + 1, Sn (n + 1)) := by
  rw [Fd.kept_put, if_pos rfl, h]
  unfold putS
  rw [if_neg]
  · simp [Sn_next]
  · rintro (e | e)
    · simp at e; omega
    · rw [Sn_last] at e
      exact shi_ne n (Option.some.inj e)
/-- 'Since' of a place that there is. -/
theorem Tryz.since_at {B hb m : Nat} {w : World} {F : ByteArray → Option Sh} (h : Tryz.Hx B w hb m F) (hT : Tryz.Tb w) {u : ByteArray} (hu : u.size ≤ maxLen) {n k : Nat} (hF : Fd.keptOf F u = (n, Sn n)) (hn : 1 ≤ n) (hk : k ≤ n) {s : ByteArray} (hs : Fd.At s k) :
    Calls Tryz.prog 8 #[.pointer (some ⟨hb, 0, none⟩), .string u, .string s] w fun e w' => ∃ ad cap ag cg, e = .returned (.tuple #[.slice ad (if 50 < n - k ∨ k < n then 1 else 0) cap, .slice ag 0 cg, .bool (decide (50 < n - k)), .string (Fd.fmt n), .int .i64 0]) ∧ Below w.heap.size w w' := by
  obtain ⟨own, p, mb, h1, _⟩ := h.ex
  have hF1 : ((F u).getD sh0).1 = n := by show (Fd.keptOf F u).1 = _; rw [hF]
  have hF2 : ((F u).getD sh0).2 = Sn n := by show (Fd.keptOf F u).2 = _; rw [hF]
  by_cases hw : 50 < n - k
  · refine (Tryz.since_whole h1 hT u hu s (.inr ⟨k, hs, by rw [hF1]; omega⟩)).mono ?_
    rintro e w' ⟨V, l, rfl, hl, hr, hb'⟩
    rw [hF2, Sn_last] at hl
    cases hl
    obtain ⟨ad, cap, rfl⟩ := Fd.row_is hr
    rw [hF1, decide_eq_true hw, if_pos (.inl hw), shi_len hn]
    exact ⟨ad, cap, none, 0, rfl, hb'⟩
  · refine (Tryz.since_part h1 hT u hu s hs (by rw [hF1]; omega) (by rw [hF1]; exact hk) (t := shi k) (by rw [hF1, hF2]; exact Sn_at (by omega) hk)).mono ?_
    rintro e w' ⟨V, G, l, rfl, hl, hr, hg, hb'⟩
    rw [hF2, Sn_last] at hl
    cases hl
    obtain ⟨ad, cap, rfl⟩ := Fd.row_is hr
    obtain ⟨ag, cg, rfl⟩ := Fd.row_is hg
    rw [hF1, decide_eq_false hw, shi_ch hn hk, shi_go hn]
    refine ⟨ad, cap, ag, cg, ?_, hb'⟩
    by_cases hkn : k < n
    · rw [if_pos hkn, if_pos (.inr hkn)]
    · rw [if_neg hkn, if_neg (by omega)]
theorem Tryz.since_empty {B hb m : Nat} {w : World} {F : ByteArray → Option Sh} (h : Tryz.Hx B w hb m F) (hT : Tryz.Tb w) {u : ByteArray} (hu : u.size ≤ maxLen) :
    Calls Tryz.prog 8 #[.pointer (some ⟨hb, 0, none⟩), .string u, .string ⟨#[]⟩] w fun e w' => ∃ V l, e = .returned (.tuple #[V, .slice none 0 0, .bool true, .string (Fd.fmt (Fd.keptOf F u).1), .int .i64 0]) ∧ (Fd.keptOf F u).2.getLast? = some l ∧ w'.ownsRow w.heap.size 39 3 V l.length (cnCells l) ∧ Below w.heap.size w w' := by
  obtain ⟨own, p, mb, h1, _⟩ := h.ex
  exact Tryz.since_whole h1 hT u hu ⟨#[]⟩ (.inl rfl)
theorem Tryz.since_wrong {B hb m : Nat} {w : World} {F : ByteArray → Option Sh} (h : Tryz.Hx B w hb m F) (hT : Tryz.Tb w) {u : ByteArray} (hu : u.size ≤ maxLen) {s : ByteArray} (hs : s.size ≤ 281474976710656) (hne : s ≠ ⟨#[]⟩) (hno : ∀ k, Fd.At s k → (Fd.keptOf F u).1 < k) :
    Calls Tryz.prog 8 #[.pointer (some ⟨hb, 0, none⟩), .string u, .string s] w fun e w' => e = .returned (.tuple #[.slice none 0 0, .slice none 0 0, .bool false, .string ⟨#[]⟩, .int .i64 200]) ∧ Below w.heap.size w w' := by
  obtain ⟨own, p, mb, h1, _⟩ := h.ex
  exact Tryz.since_err h1 hT u hu s hs hne hno
end Go.Proofs
