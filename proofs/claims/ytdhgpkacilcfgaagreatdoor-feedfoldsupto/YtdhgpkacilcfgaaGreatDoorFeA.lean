/-
  FEED: symMerge, where the first part is one thing.
-/
import Derived.Test.YtdhgpkacilcfgaaGreatDoorFdZ
namespace Go.Proofs
open Go.Shelf Go.RowKit Go.Wi Go.Fd Go.Sort
/-- Two things of a row, as a region that draws reads them. -/
theorem Fd.cells_grown {W : World} {blk : Nat} {d : Array Cn} (h : HoldsK cnE 3 W blk 0 d) (hb : blk < W.heap.size) {x : Nat} (hx : x < d.size) : (∀ n os, (grow (W.drewN n) os).cell? ⟨blk, x * 3, none⟩ = some (.string d[x]!.room)) ∧ (∀ n os, (grow (W.drewN n) os).cell? ⟨blk, x * 3 + 1, none⟩ = some (.int .i64 d[x]!.un)) ∧ (∀ n os, (grow (W.drewN n) os).cell? ⟨blk, x * 3 + 2, none⟩ = some (.int .i64 d[x]!.hi)) := by
  obtain ⟨⟨a0, a1, a2⟩, _⟩ := Fd.cell_at h hx
  exact ⟨cell_grown (a := ⟨blk, x * 3, none⟩) hb a0, cell_grown (a := ⟨blk, x * 3 + 1, none⟩) hb a1, cell_grown (a := ⟨blk, x * 3 + 2, none⟩) hb a2⟩
theorem Tryz.cmp_grown (wq : World) (x y : Cn) : ∀ n os, Calls Tryz.prog 33 #[.agg #[.string x.room, .int .i64 x.un, .int .i64 x.hi], .agg #[.string y.room, .int .i64 y.un, .int .i64 y.hi]] (grow (wq.drewN n) os) fun e w' => e = .returned (.int .i64 (cnC x y)) ∧ ∃ q os', w' = grow ((grow (wq.drewN n) os).drewN q) os' := fun _ _ => Tryz.byRoom_any x y _
theorem Fd.ltR_neg {x y : Cn} : Fd.ltR x y = decide (cnC x y < 0) := rfl
set_option maxHeartbeats 1000000 in
set_option maxRecDepth 100000 in
theorem Tryz.sym_left (blk cap a b : Nat) (d0 d : Array Cn) (w : World) (m : Nat) (os : Array Obj) (hH : HoldsK cnE 3 w blk 0 d0) (hblk : blk < w.heap.size) (hs : d.size = d0.size) (hm : a + 1 < b) (hb : b ≤ d.size) (hsz : d.size < 4611686018427387904) :
    Calls Tryz.prog 61 #[.slice (some ⟨blk, 0, none⟩) d0.size cap, .int .i64 a, .int .i64 ((a + 1 : Nat) : Int), .int .i64 b, .func (.func 33) #[] #[]] (sortWorldK cnE 3 w blk 0 m d os) fun e w' => e = .returned (.tuple #[]) ∧ ∃ m' os', w' = sortWorldK cnE 3 w blk 0 m' (shR (bs1 Fd.ltR a (a + 1) b d - 1) a d) os' := by
  have hmx : Tryz.prog.follows .mixedOrders = true := by kernel_rfl
  have HH : Hid (HoldsK cnE 3 w blk 0 d0) := hH
  obtain ⟨M, hM⟩ : ∃ M : Int, ((a + 1 : Nat) : Int) = M := ⟨_, rfl⟩
  have h1 : M - (a : Int) = 1 := by omega
  rw [hM]
  have HM : Hid (((a + 1 : Nat) : Int) = M) := hM
  clear hH hM
  go_enter Tryz.func61, Tryz.ntmps61
  go_wp2
  go_loopw [10, 11, 12] (fun iv jv _ wr => ∃ (i j k : Nat) (oj : Array Obj), iv = .int .i64 i ∧ jv = .int .i64 j ∧ a + 1 ≤ i ∧ i ≤ j ∧ j ≤ b ∧ wr = sortWorldK cnE 3 w blk 0 k d oj ∧ Hid (bs1 Fd.ltR a i j d = bs1 Fd.ltR a (a + 1) b d)) (fun iv jv _ _ => (intOf jv).toNat - (intOf iv).toNat)
  case atStart => exact ⟨a + 1, b, m, os, by rw [HM.out], rfl, Nat.le_refl _, by omega, Nat.le_refl _, rfl, rfl⟩
  case round =>
    obtain ⟨i, j, k, oj, rfl, rfl, hi1, hij, hjb, rfl, HI⟩ := hrel
    by_cases hlt : i < j
    · have q : (i : Int) < (j : Int) := by omega
      have hHq : HoldsK cnE 3 (sortWorldK cnE 3 w blk 0 k d oj) blk 0 d := holdsK_sortWorldK_c cnE 3 w blk 0 d0 d k oj HH.out hblk hs
      have hbq : blk < (sortWorldK cnE 3 w blk 0 k d oj).heap.size := Nat.lt_of_lt_of_le hblk (size_sortWorldK_c cnE 3 w blk 0 k d oj)
      have CLS : Hid (∀ n os', grow ((sortWorldK cnE 3 w blk 0 k d oj).drewN n) os' = sortWorldK cnE 3 w blk 0 (k + n) d (oj ++ os')) := fun n os' => sortWorldK_grown_c cnE 3 w blk 0 k n d oj os'
      obtain ⟨h, hh⟩ : ∃ h, (i + j) / 2 = h := ⟨_, rfl⟩
      have eh : ((i : Int) + (j : Int)) / 2 = (h : Int) := by omega
      have hhl : h < d.size := by omega
      have zh : (h : Int) < (d0.size : Int) := by omega
      have za : (a : Int) < (d0.size : Int) := by omega
      generalize hwq : sortWorldK cnE 3 w blk 0 k d oj = wq at *
      obtain ⟨x0, x1, x2⟩ := Fd.cells_grown hHq hbq hhl
      obtain ⟨y0, y1, y2⟩ := Fd.cells_grown hHq hbq (show a < d.size by omega)
      have hcmp := Tryz.cmp_grown wq d[h]! d[a]!
      have HC : Hid (∀ b : Bool, decide (cnC d[h]! d[a]! < 0) = b → bs1 Fd.ltR a i j d = if b then bs1 Fd.ltR a (h + 1) j d else bs1 Fd.ltR a i h d) := fun b hb => by
        conv => lhs; unfold bs1
        rw [if_pos hlt, hh, Fd.ltR_neg, hb]
      generalize d[h]! = x at *
      generalize d[a]! = y at *
      generalize cnC x y = c at *
      clear hHq hbq hwq
      go_upto_region 5 with (fail)
      go_quiet_grown (first | (go_at_call 33; refine Calls.grown_of (hcmp _ _)))
      have HW : Hid (grow (wq.drewN nq) osq = sortWorldK cnE 3 w blk 0 (k + nq) d (oj ++ osq)) := CLS.out nq osq
      clear x0 x1 x2 y0 y1 y2 hcmp CLS
      generalize grow (wq.drewN nq) osq = wz at *
      by_cases hc : c < 0
      · have hb1 := HC.out true (decide_eq_true hc)
        have HB1 : Hid (bs1 Fd.ltR a i j d = bs1 Fd.ltR a (h + 1) j d) := hb1
        clear hb1 HC
        go_wp2
        exact ⟨⟨h + 1, j, k + nq, oj ++ osq, by simp, rfl, by omega, by omega, hjb, HW.out, by show _ = _; rw [← HB1.out]; exact HI.out⟩, by simp [intOf]; omega⟩
      · have hb1 := HC.out false (decide_eq_false hc)
        have HB1 : Hid (bs1 Fd.ltR a i j d = bs1 Fd.ltR a i h d) := hb1
        clear hb1 HC
        go_wp2
        exact ⟨⟨i, h, k + nq, oj ++ osq, rfl, rfl, hi1, by omega, by omega, HW.out, by show _ = _; rw [← HB1.out]; exact HI.out⟩, by simp [intOf]; omega⟩
    · have q : ¬ (i : Int) < (j : Int) := by omega
      have hfin := HI.out
      unfold bs1 at hfin
      rw [if_neg hlt] at hfin
      have HF : Hid (i = bs1 Fd.ltR a (a + 1) b d) := by show _ = _; rw [hfin]; conv => rhs; unfold bs1
      clear hfin HI
      go_wp2
      go_loopw [13] (fun pv wr2 => ∃ (p kk : Nat) (dk : Array Cn) (ok : Array Obj), pv = .int .i64 p ∧ a ≤ p ∧ p ≤ i - 1 ∧ dk.size = d.size ∧ wr2 = sortWorldK cnE 3 w blk 0 kk dk ok ∧ Hid (shR (i - 1) p dk = shR (i - 1) a d)) (fun pv _ => i - (intOf pv).toNat)
      case atStart => exact ⟨a, k, d, oj, rfl, Nat.le_refl _, by omega, rfl, rfl, rfl⟩
      case round =>
        obtain ⟨p, kk, dk, ok, rfl, hp1, hp2, hds, hwr, HI⟩ := hrel
        by_cases hlp : p < i - 1
        · have qp : (p : Int) < (i : Int) - 1 := by omega
          have zp : (p : Int) < (d0.size : Int) := by omega
          have zp1 : (p : Int) + 1 < (d0.size : Int) := by omega
          have pp1 : (0 : Int) ≤ (p : Int) + 1 := by omega
          have ep1 : ((p : Int) + 1).toNat = p + 1 := by omega
          have wp1 : IntKind.i64.wrap ((p : Int) + 1) = (p : Int) + 1 := by rw [IntKind.wrap_i64]; omega
          have hwq : sortWorldK cnE 3 w blk 0 kk dk ok = wr := hwr.symm
          have hin := HI.out
          have hin2 : shR (i - 1) (p + 1) (swp dk p (p + 1)) = shR (i - 1) a d := by rw [← hin]; conv => rhs; unfold shR; rw [if_pos hlp]
          have HI2 : Hid _ := hin2
          clear HI hin hin2 hwr
          have hHq : HoldsK cnE 3 wr blk 0 dk := by rw [← hwq]; exact holdsK_sortWorldK_c cnE 3 w blk 0 d0 dk kk ok HH.out hblk (by omega)
          obtain ⟨xa, hxa⟩ : ∃ x, dk[p]! = x := ⟨_, rfl⟩
          obtain ⟨xb, hxb⟩ : ∃ x, dk[p + 1]! = x := ⟨_, rfl⟩
          obtain ⟨⟨a0, a1, a2⟩, fa0, fa1, fa2⟩ := Fd.cell_at hHq (show p < dk.size by omega)
          obtain ⟨⟨b0, b1, b2⟩, fb0, fb1, fb2⟩ := Fd.cell_at hHq (show p + 1 < dk.size by omega)
          obtain ⟨u0, u1, u2, g0, g1, g2⟩ := Fd.swap_mid hHq (show p < dk.size by omega) (show p + 1 < dk.size by omega)
          have HD : Hid _ := Fd.swap_done w blk kk dk ok hblk (show p < dk.size by omega) (show p + 1 < dk.size by omega) hwq
          rw [hxa] at a0 a1 a2 HD
          rw [hxb] at b0 b1 b2 g0 g1 g2 HD
          clear hHq hwq
          go_wp2_with fail
          go_big_region_o
          go_wp2
          exact ⟨⟨p + 1, kk + 1, swp dk p (p + 1), ok, by first | rfl | (simp; done), by omega, by omega, by simp [swp]; omega, HD.out, HI2.out⟩, by simp [intOf]; omega⟩
        · have qp : ¬ (p : Int) < (i : Int) - 1 := by omega
          have hin := HI.out
          have hin2 : dk = shR (i - 1) a d := by rw [← hin]; conv => rhs; unfold shR; rw [if_neg hlp]
          have HI2 : Hid _ := hin2
          clear HI hin hin2
          subst hwr
          go_wp2
          refine bodyPost_ret (results_none rfl _ _ _) rfl ?_
          exact ⟨rfl, kk, ok, by rw [HI2.out, HF.out]⟩
end Go.Proofs
