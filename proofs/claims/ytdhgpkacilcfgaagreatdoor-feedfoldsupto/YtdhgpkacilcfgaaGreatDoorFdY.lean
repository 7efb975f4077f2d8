/-
  FEED: the stable sort's parts: so many swapped, two parts turned round.
-/
import Derived.Test.YtdhgpkacilcfgaaGreatDoorFdF
import Derived.Deep.Cut
import Derived.Deep.LoopGhost
import Derived.Shelf.RegionOpenPlain
namespace Go.Proofs
open Go.Shelf Go.RowKit Go.Wi Go.Fd Go.Sort
theorem Fd.swapR_go {α : Type} [Inhabited α] {a b n i : Nat} (d : Array α) (h : i < n) : swapR a b n i d = swapR a b n (i + 1) (swp d (a + i) (b + i)) := by
  conv => lhs; unfold swapR
  rw [if_pos h]
theorem Fd.swapR_stop {α : Type} [Inhabited α] {a b n i : Nat} (d : Array α) (h : ¬ i < n) : swapR a b n i d = d := by
  unfold swapR
  rw [if_neg h]
/-- The cells of a thing of a row. -/
theorem Fd.cell_at {W : World} {blk : Nat} {d : Array Cn} (h : HoldsK cnE 3 W blk 0 d) {x : Nat} (hx : x < d.size) : (W.cell? ⟨blk, x * 3, none⟩ = some (.string d[x]!.room) ∧ W.cell? ⟨blk, x * 3 + 1, none⟩ = some (.int .i64 d[x]!.un) ∧ W.cell? ⟨blk, x * 3 + 2, none⟩ = some (.int .i64 d[x]!.hi)) ∧ (W.frozen? ⟨blk, x * 3, none⟩ = false ∧ W.frozen? ⟨blk, x * 3 + 1, none⟩ = false ∧ W.frozen? ⟨blk, x * 3 + 2, none⟩ = false) := by
  have cf : ∀ t, t < 3 → W.cell? ⟨blk, x * 3 + t, none⟩ = (cnE d[x]!)[t]? ∧ W.frozen? ⟨blk, x * 3 + t, none⟩ = false := fun t ht => by
    have h1 := h (x * 3 + t) (by rw [size_flatK]; omega)
    rw [Nat.zero_add, get_flatK _ _ _ _ (by omega), show (x * 3 + t) / 3 = x by omega, show (x * 3 + t) % 3 = t by omega] at h1
    refine ⟨?_, h1.2⟩
    rw [h1.1, getElem!_pos _ _ (by rw [cnE_len]; exact ht), List.getElem?_eq_getElem (by rw [cnE_len]; exact ht)]
    rfl
  exact ⟨⟨(cf 0 (by omega)).1, (cf 1 (by omega)).1, (cf 2 (by omega)).1⟩, (cf 0 (by omega)).2, (cf 1 (by omega)).2, (cf 2 (by omega)).2⟩
/-- The first of two that are swapped is written: the second one's cells are there still. -/
theorem Fd.swap_mid {W : World} {blk : Nat} {d : Array Cn} (h : HoldsK cnE 3 W blk 0 d) {x y : Nat} (hx : x < d.size) (hy : y < d.size) : ∃ u0 u1 u2, (((W.setCell ⟨blk, x * 3, none⟩ (.string d[y]!.room)).setCell ⟨blk, x * 3 + 1, none⟩ (.int .i64 d[y]!.un)).setCell ⟨blk, x * 3 + 2, none⟩ (.int .i64 d[y]!.hi)).cell? ⟨blk, y * 3, none⟩ = some u0 ∧ (((W.setCell ⟨blk, x * 3, none⟩ (.string d[y]!.room)).setCell ⟨blk, x * 3 + 1, none⟩ (.int .i64 d[y]!.un)).setCell ⟨blk, x * 3 + 2, none⟩ (.int .i64 d[y]!.hi)).cell? ⟨blk, y * 3 + 1, none⟩ = some u1 ∧ (((W.setCell ⟨blk, x * 3, none⟩ (.string d[y]!.room)).setCell ⟨blk, x * 3 + 1, none⟩ (.int .i64 d[y]!.un)).setCell ⟨blk, x * 3 + 2, none⟩ (.int .i64 d[y]!.hi)).cell? ⟨blk, y * 3 + 2, none⟩ = some u2 := by
  have hsz : (flatK cnE 3 d).size = d.size * 3 := size_flatK _ _ _
  have h2 : Holds id (W.setCells blk (0 + x * 3) (cnE d[y]!)) blk 0 _ := holds_setCells_c h (x * 3) (cnE d[y]!) (by rw [cnE_len, hsz]; omega)
  have e : W.setCells blk (0 + x * 3) (cnE d[y]!) = (((W.setCell ⟨blk, x * 3, none⟩ (.string d[y]!.room)).setCell ⟨blk, x * 3 + 1, none⟩ (.int .i64 d[y]!.un)).setCell ⟨blk, x * 3 + 2, none⟩ (.int .i64 d[y]!.hi)) := by simp only [Nat.zero_add, cnE, World.setCells]
  rw [e] at h2
  have k0 := (h2 (y * 3) (by rw [size_setMany, hsz]; omega)).1
  have k1 := (h2 (y * 3 + 1) (by rw [size_setMany, hsz]; omega)).1
  have k2 := (h2 (y * 3 + 2) (by rw [size_setMany, hsz]; omega)).1
  rw [Nat.zero_add] at k0 k1 k2
  exact ⟨_, _, _, k0, k1, k2⟩
/-- Both are written. -/
theorem Fd.swap_done (w : World) (blk m : Nat) (d : Array Cn) (os : Array Obj) (hblk : blk < w.heap.size) {x y : Nat} (hx : x < d.size) (hy : y < d.size) {W : World} (hW : sortWorldK cnE 3 w blk 0 m d os = W) :
    ((((((W.setCell ⟨blk, x * 3, none⟩ (.string d[y]!.room)).setCell ⟨blk, x * 3 + 1, none⟩ (.int .i64 d[y]!.un)).setCell ⟨blk, x * 3 + 2, none⟩ (.int .i64 d[y]!.hi)).setCell ⟨blk, y * 3, none⟩ (.string d[x]!.room)).setCell ⟨blk, y * 3 + 1, none⟩ (.int .i64 d[x]!.un)).setCell ⟨blk, y * 3 + 2, none⟩ (.int .i64 d[x]!.hi)).drew = sortWorldK cnE 3 w blk 0 (m + 1) (swp d x y) os := by
  rw [← sortWorldK_swp_c cnE 3 w blk 0 cnE_len m d os hblk x y hx hy, hW]
  simp only [Nat.zero_add, cnE, World.setCells, World.setCell_drew]
set_option maxHeartbeats 2000000 in
set_option maxRecDepth 100000 in
theorem Tryz.swapRange_any (blk cap a b n : Nat) (d0 d : Array Cn) (w : World) (m : Nat) (os : Array Obj) (hH : HoldsK cnE 3 w blk 0 d0) (hblk : blk < w.heap.size) (hs : d.size = d0.size) (ha : a + n ≤ d.size) (hb : b + n ≤ d.size) (hsz : d.size < 4611686018427387904) (fv : Value) :
    Calls Tryz.prog 95 #[.slice (some ⟨blk, 0, none⟩) d0.size cap, .int .i64 a, .int .i64 b, .int .i64 n, fv] (sortWorldK cnE 3 w blk 0 m d os) fun e w' => e = .returned (.tuple #[]) ∧ ∃ m' os', w' = sortWorldK cnE 3 w blk 0 m' (swapR a b n 0 d) os' := by
  have hmx : Tryz.prog.follows .mixedOrders = true := by kernel_rfl
  have HH : Hid (HoldsK cnE 3 w blk 0 d0) := hH
  clear hH
  go_enter Tryz.func95, Tryz.ntmps95
  go_wp2
  go_loopw [10] (fun iv wr => ∃ (i k : Nat) (dk : Array Cn) (oj : Array Obj), iv = .int .i64 i ∧ i ≤ n ∧ dk.size = d.size ∧ wr = sortWorldK cnE 3 w blk 0 k dk oj ∧ Hid (swapR a b n i dk = swapR a b n 0 d)) (fun iv _ => n - (intOf iv).toNat)
  case atStart => exact ⟨0, m, d, os, rfl, Nat.zero_le _, rfl, rfl, rfl⟩
  case round =>
    obtain ⟨i, k, dk, oj, rfl, hi, hk, rfl, HI⟩ := hrel
    by_cases hlt : i < n
    · have q : (i : Int) < (n : Int) := by omega
      have hdk : dk.size = d0.size := by omega
      have hHd : HoldsK cnE 3 (sortWorldK cnE 3 w blk 0 k dk oj).drew blk 0 dk := holdsK_sortWorldK_c cnE 3 w blk 0 d0 dk k oj HH.out hblk hdk
      obtain ⟨xa, hxa⟩ : ∃ x, dk[a + i]! = x := ⟨_, rfl⟩
      obtain ⟨xb, hxb⟩ : ∃ x, dk[b + i]! = x := ⟨_, rfl⟩
      have za : (a : Int) + (i : Int) < (d0.size : Int) := by omega
      have zb : (b : Int) + (i : Int) < (d0.size : Int) := by omega
      have pa : (0 : Int) ≤ (a : Int) + (i : Int) := by omega
      have pb : (0 : Int) ≤ (b : Int) + (i : Int) := by omega
      have ea : ((a : Int) + (i : Int)).toNat = a + i := by omega
      have eb : ((b : Int) + (i : Int)).toNat = b + i := by omega
      have wa : IntKind.i64.wrap ((a : Int) + (i : Int)) = (a : Int) + (i : Int) := by rw [IntKind.wrap_i64]; omega
      have wb : IntKind.i64.wrap ((b : Int) + (i : Int)) = (b : Int) + (i : Int) := by rw [IntKind.wrap_i64]; omega
      generalize hwq : sortWorldK cnE 3 w blk 0 k dk oj = wq at *
      have HWQ : Hid (sortWorldK cnE 3 w blk 0 k dk oj = wq) := hwq
      have hHq : HoldsK cnE 3 wq blk 0 dk := hHd
      obtain ⟨⟨a0, a1, a2⟩, fa0, fa1, fa2⟩ := Fd.cell_at hHq (show a + i < dk.size by omega)
      obtain ⟨⟨b0, b1, b2⟩, fb0, fb1, fb2⟩ := Fd.cell_at hHq (show b + i < dk.size by omega)
      obtain ⟨u0, u1, u2, g0, g1, g2⟩ := Fd.swap_mid hHq (show a + i < dk.size by omega) (show b + i < dk.size by omega)
      have HD : Hid _ := Fd.swap_done w blk k dk oj hblk (show a + i < dk.size by omega) (show b + i < dk.size by omega) hwq
      rw [hxa] at a0 a1 a2 HD
      rw [hxb] at b0 b1 b2 g0 g1 g2 HD
      clear hHd hHq hwq HWQ
      have hin := HI.out
      rw [Fd.swapR_go dk hlt] at hin
      have HI2 : Hid _ := hin
      clear HI hin
      go_wp2_with fail
      go_big_region_o
      go_wp2
      exact ⟨⟨i + 1, k + 1, swp dk (a + i) (b + i), oj, by first | rfl | (simp; done), by omega, by simp [swp]; omega, HD.out, HI2.out⟩, by simp [intOf]; omega⟩
    · have q : ¬ (i : Int) < (n : Int) := by omega
      have hfin := HI.out
      rw [Fd.swapR_stop dk hlt] at hfin
      clear HI
      go_wp2
      go_end0
      exact ⟨rfl, k, oj, by rw [← hfin]⟩
end Go.Proofs
