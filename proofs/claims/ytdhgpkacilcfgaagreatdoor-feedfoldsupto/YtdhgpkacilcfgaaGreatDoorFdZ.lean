/-
  FEED: two parts turned round.
-/
import Derived.Test.YtdhgpkacilcfgaaGreatDoorFdY
namespace Go.Proofs
open Go.Shelf Go.RowKit Go.Wi Go.Fd Go.Sort
section
variable {α : Type} [Inhabited α]
theorem Fd.rot_same (m i : Nat) (d : Array α) : rot m i i d = swapR (m - i) m i 0 d := by
  conv => lhs; unfold rot
  rw [if_pos rfl]
theorem Fd.rot_gt {m i j : Nat} (d : Array α) (h : j < i) (hj : 0 < j) : rot m i j d = rot m (i - j) j (swapR (m - i) m j 0 d) := by
  conv => lhs; unfold rot
  rw [if_neg (by omega), if_pos h, dif_neg (by omega)]
theorem Fd.rot_lt {m i j : Nat} (d : Array α) (h : i < j) (hi : 0 < i) : rot m i j d = rot m i (j - i) (swapR (m - i) (m + j - i) i 0 d) := by
  conv => lhs; unfold rot
  rw [if_neg (by omega), if_neg (by omega), dif_neg (by omega)]
end
set_option maxHeartbeats 1000000 in
set_option maxRecDepth 100000 in
theorem Tryz.rotate_any (blk cap a mm b : Nat) (d0 d : Array Cn) (w : World) (m : Nat) (os : Array Obj) (hH : HoldsK cnE 3 w blk 0 d0) (hblk : blk < w.heap.size) (hs : d.size = d0.size) (ha : a < mm) (hm : mm < b) (hb : b ≤ d.size) (hsz : d.size < 4611686018427387904) (fv : Value) :
    Calls Tryz.prog 80 #[.slice (some ⟨blk, 0, none⟩) d0.size cap, .int .i64 a, .int .i64 mm, .int .i64 b, fv] (sortWorldK cnE 3 w blk 0 m d os) fun e w' => e = .returned (.tuple #[]) ∧ ∃ m' os', w' = sortWorldK cnE 3 w blk 0 m' (rot mm (mm - a) (b - mm) d) os' := by
  have HH : Hid (HoldsK cnE 3 w blk 0 d0) := hH
  have HSW : Hid (∀ (x y n : Nat) (dk : Array Cn) (k : Nat) (oj : Array Obj), dk.size = d0.size → x + n ≤ dk.size → y + n ≤ dk.size → Calls Tryz.prog 95 #[.slice (some ⟨blk, 0, none⟩) d0.size cap, .int .i64 x, .int .i64 y, .int .i64 n, fv] (sortWorldK cnE 3 w blk 0 k dk oj) fun e w' => e = .returned (.tuple #[]) ∧ ∃ m' os', w' = sortWorldK cnE 3 w blk 0 m' (swapR x y n 0 dk) os') := fun x y n dk k oj h1 h2 h3 => Tryz.swapRange_any blk cap x y n d0 dk w k oj hH hblk h1 h2 h3 (by omega) fv
  clear hH
  have hw1 : (mm : Int) - (a : Int) = ((mm - a : Nat) : Int) := by omega
  have hw2 : (b : Int) - (mm : Int) = ((b - mm : Nat) : Int) := by omega
  obtain ⟨i0, hi0⟩ : ∃ i0, mm - a = i0 := ⟨_, rfl⟩
  obtain ⟨j0, hj0⟩ : ∃ j0, b - mm = j0 := ⟨_, rfl⟩
  rw [hi0] at hw1 ⊢
  rw [hj0] at hw2 ⊢
  have hi1 : 0 < i0 ∧ i0 ≤ mm := by omega
  have hj1 : 0 < j0 ∧ mm + j0 ≤ d.size := by omega
  have HIJ : Hid ((0 < i0 ∧ i0 ≤ mm) ∧ 0 < j0 ∧ mm + j0 ≤ d.size) := ⟨hi1, hj1⟩
  have hmz : mm < 4611686018427387904 := by omega
  clear hi0 hj0 hi1 hj1
  go_enter Tryz.func80, Tryz.ntmps80
  go_wp2
  go_loopw [10, 11] (fun iv jv wr => ∃ (i j k : Nat) (dk : Array Cn) (oj : Array Obj), iv = .int .i64 i ∧ jv = .int .i64 j ∧ 0 < i ∧ i ≤ mm ∧ 0 < j ∧ mm + j ≤ d.size ∧ dk.size = d.size ∧ wr = sortWorldK cnE 3 w blk 0 k dk oj ∧ Hid (rot mm i j dk = rot mm i0 j0 d)) (fun iv jv _ => (intOf iv).toNat + (intOf jv).toNat)
  case atStart => exact ⟨i0, j0, m, d, os, rfl, rfl, HIJ.out.1.1, HIJ.out.1.2, HIJ.out.2.1, HIJ.out.2.2, rfl, rfl, rfl⟩
  case round =>
    obtain ⟨i, j, k, dk, oj, rfl, rfl, hi1, hi2, hj1, hj2, hk, rfl, HI⟩ := hrel
    have hdk : dk.size = d0.size := by omega
    have ei : (mm : Int) - (i : Int) = ((mm - i : Nat) : Int) := by omega
    by_cases he : i = j
    · subst he
      have hc := HSW.out (mm - i) mm i dk k oj hdk (by omega) (by omega)
      rw [← ei] at hc
      have hfin := HI.out
      rw [Fd.rot_same] at hfin
      have HF : Hid _ := hfin
      clear HI hfin ei
      go_wp2_with (first
        | (go_at_call 95; refine hc.mono ?_; clear hc; rintro e w1 ⟨rfl, m', os', rfl⟩)
        | fail)
      go_end0
      exact ⟨rfl, m', os', by rw [HF.out]⟩
    · have q0 : ¬ ((i : Int) = (j : Int)) := by omega
      by_cases hgt : j < i
      · have q1 : (j : Int) < (i : Int) := by omega
        have hc := HSW.out (mm - i) mm j dk k oj hdk (by omega) (by omega)
        rw [← ei] at hc
        have hfin := HI.out
        rw [Fd.rot_gt dk hgt hj1] at hfin
        have HF : Hid _ := hfin
        clear HI hfin ei
        go_wp2_with (first
          | (go_at_call 95; refine hc.mono ?_; clear hc; rintro e w1 ⟨rfl, m', os', rfl⟩)
          | fail)
        exact ⟨⟨i - j, j, m', swapR (mm - i) mm j 0 dk, os', by congr 1; omega, rfl, by omega, by omega, hj1, hj2, by rw [swapR_sz]; exact hk, rfl, HF.out⟩, by simp [intOf]; omega⟩
      · have q1 : ¬ (j : Int) < (i : Int) := by omega
        have hc := HSW.out (mm - i) (mm + j - i) i dk k oj hdk (by omega) (by omega)
        have ej : (mm : Int) + (j : Int) - (i : Int) = ((mm + j - i : Nat) : Int) := by omega
        rw [← ei, ← ej] at hc
        have hfin := HI.out
        rw [Fd.rot_lt dk (by omega) hi1] at hfin
        have HF : Hid _ := hfin
        clear HI hfin ei ej
        go_wp2_with (first
          | (go_at_call 95; refine hc.mono ?_; clear hc; rintro e w1 ⟨rfl, m', os', rfl⟩)
          | fail)
        exact ⟨⟨i, j - i, m', swapR (mm - i) (mm + j - i) i 0 dk, os', rfl, by congr 1; omega, hi1, hi2, by omega, by omega, by rw [swapR_sz]; exact hk, rfl, HF.out⟩, by simp [intOf]; omega⟩
end Go.Proofs
