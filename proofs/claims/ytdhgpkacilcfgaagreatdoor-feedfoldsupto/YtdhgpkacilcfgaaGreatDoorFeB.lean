/-
  FEED: symMerge, where the second part is one thing.
-/
import Derived.Test.YtdhgpkacilcfgaaGreatDoorFeA
namespace Go.Proofs
open Go.Shelf Go.RowKit Go.Wi Go.Fd Go.Sort
set_option maxHeartbeats 1000000 in
set_option maxRecDepth 100000 in
theorem Tryz.sym_right (blk cap a mm : Nat) (d0 d : Array Cn) (w : World) (m : Nat) (os : Array Obj) (hH : HoldsK cnE 3 w blk 0 d0) (hblk : blk < w.heap.size) (hs : d.size = d0.size) (hm : a + 1 < mm) (hb : mm + 1 ≤ d.size) (hsz : d.size < 4611686018427387904) :
    Calls Tryz.prog 61 #[.slice (some ⟨blk, 0, none⟩) d0.size cap, .int .i64 a, .int .i64 mm, .int .i64 ((mm + 1 : Nat) : Int), .func (.func 33) #[] #[]] (sortWorldK cnE 3 w blk 0 m d os) fun e w' => e = .returned (.tuple #[]) ∧ ∃ m' os', w' = sortWorldK cnE 3 w blk 0 m' (shL (bs2 Fd.ltR mm a mm d) mm d) os' := by
  have hmx : Tryz.prog.follows .mixedOrders = true := by kernel_rfl
  have HH : Hid (HoldsK cnE 3 w blk 0 d0) := hH
  obtain ⟨M, hM⟩ : ∃ M : Int, ((mm + 1 : Nat) : Int) = M := ⟨_, rfl⟩
  have h0 : ¬ ((mm : Int) - (a : Int) = 1) := by omega
  have h1 : M - (mm : Int) = 1 := by omega
  rw [hM]
  clear hH hM
  go_enter Tryz.func61, Tryz.ntmps61
  go_wp2
  go_loopw [14, 15, 16] (fun iv jv _ wr => ∃ (i j k : Nat) (oj : Array Obj), iv = .int .i64 i ∧ jv = .int .i64 j ∧ a ≤ i ∧ i ≤ j ∧ j ≤ mm ∧ wr = sortWorldK cnE 3 w blk 0 k d oj ∧ Hid (bs2 Fd.ltR mm i j d = bs2 Fd.ltR mm a mm d)) (fun iv jv _ _ => (intOf jv).toNat - (intOf iv).toNat)
  case atStart => exact ⟨a, mm, m, os, rfl, rfl, Nat.le_refl _, by omega, Nat.le_refl _, rfl, rfl⟩
  case round =>
    obtain ⟨i, j, k, oj, rfl, rfl, hi1, hij, hjb, rfl, HI⟩ := hrel
    by_cases hlt : i < j
    · have q : (i : Int) < (j : Int) := by omega
      have hHq : HoldsK cnE 3 (sortWorldK cnE 3 w blk 0 k d oj) blk 0 d := holdsK_sortWorldK_c cnE 3 w blk 0 d0 d k oj HH.out hblk hs
      have hbq : blk < (sortWorldK cnE 3 w blk 0 k d oj).heap.size := Nat.lt_of_lt_of_le hblk (size_sortWorldK_c cnE 3 w blk 0 k d oj)
      have CLS : Hid (∀ n os', grow ((sortWorldK cnE 3 w blk 0 k d oj).drewN n) os' = sortWorldK cnE 3 w blk 0 (k + n) d (oj ++ os')) := fun n os' => sortWorldK_grown_c cnE 3 w blk 0 k n d oj os'
      obtain ⟨h, hh⟩ : ∃ h, (i + j) / 2 = h := ⟨_, rfl⟩
      have eh : ((i : Int) + (j : Int)) / 2 = (h : Int) := by omega
      have hhl : h < d.size := by omega
      have zh : (h : Int) < (d0.size : Int) := by omega
      have za : (mm : Int) < (d0.size : Int) := by omega
      generalize hwq : sortWorldK cnE 3 w blk 0 k d oj = wq at *
      obtain ⟨x0, x1, x2⟩ := Fd.cells_grown hHq hbq hhl
      obtain ⟨y0, y1, y2⟩ := Fd.cells_grown hHq hbq (show mm < d.size by omega)
      have hcmp := Tryz.cmp_grown wq d[mm]! d[h]!
      have HC : Hid (∀ b : Bool, decide (cnC d[mm]! d[h]! < 0) = b → bs2 Fd.ltR mm i j d = if b then bs2 Fd.ltR mm i h d else bs2 Fd.ltR mm (h + 1) j d) := fun b hb => by
        conv => lhs; unfold bs2
        rw [if_pos hlt, hh, Fd.ltR_neg, hb]
      generalize d[h]! = x at *
      generalize d[mm]! = y at *
      generalize cnC y x = c at *
      clear hHq hbq hwq
      go_upto_region 17 with (fail)
      go_quiet_grown (first | (go_at_call 33; refine Calls.grown_of (hcmp _ _)))
      have HW : Hid (grow (wq.drewN nq) osq = sortWorldK cnE 3 w blk 0 (k + nq) d (oj ++ osq)) := CLS.out nq osq
      clear x0 x1 x2 y0 y1 y2 hcmp CLS
      generalize grow (wq.drewN nq) osq = wz at *
      by_cases hc : c < 0
      · have hb1 := HC.out true (decide_eq_true hc)
        have hdc : (!decide (c < 0)) = false := by rw [decide_eq_true hc]; rfl
        have HB1 : Hid (bs2 Fd.ltR mm i j d = bs2 Fd.ltR mm i h d) := hb1
        clear hb1 HC
        go_wp2
        · exfalso
          rename_i hx
          rw [hdc] at hx
          cases hx
        · rw [hdc] at *
          go_wp2
          first
            | exact ⟨⟨i, h, k + nq, oj ++ osq, rfl, rfl, hi1, by omega, by omega, HW.out, by show _ = _; rw [← HB1.out]; exact HI.out⟩, by simp [intOf]; omega⟩
            | exact ⟨⟨i, rfl, h, rfl, hi1, by omega, by omega, ⟨k + nq, oj ++ osq, HW.out⟩, by show _ = _; rw [← HB1.out]; exact HI.out⟩, by simp [intOf]; omega⟩
            | (trace_state; sorry)
      · have hb1 := HC.out false (decide_eq_false hc)
        have hdc : (!decide (c < 0)) = true := by rw [decide_eq_false hc]; rfl
        have HB1 : Hid (bs2 Fd.ltR mm i j d = bs2 Fd.ltR mm (h + 1) j d) := hb1
        clear hb1 HC
        go_wp2
        all_goals first
          | (exfalso; rename_i hx; rw [hdc] at hx; cases hx; done)
          | exact ⟨⟨h + 1, by simp, j, rfl, by omega, by omega, hjb, ⟨k + nq, oj ++ osq, HW.out⟩, by show _ = _; rw [← HB1.out]; exact HI.out⟩, by first | (simp [intOf]; done) | (simp [intOf]; omega)⟩
    · have q : ¬ (i : Int) < (j : Int) := by omega
      have hfin := HI.out
      unfold bs2 at hfin
      rw [if_neg hlt] at hfin
      have HF : Hid (i = bs2 Fd.ltR mm a mm d) := by show _ = _; rw [hfin]; conv => rhs; unfold bs2
      clear hfin HI
      go_wp2
      go_loopw [17] (fun pv wr2 => ∃ (p kk : Nat) (dk : Array Cn) (ok : Array Obj), pv = .int .i64 p ∧ i ≤ p ∧ p ≤ mm ∧ dk.size = d.size ∧ wr2 = sortWorldK cnE 3 w blk 0 kk dk ok ∧ Hid (shL i p dk = shL i mm d)) (fun pv _ => (intOf pv).toNat)
      case atStart => exact ⟨mm, k, d, oj, rfl, by omega, Nat.le_refl _, rfl, rfl, rfl⟩
      case round =>
        obtain ⟨p, kk, dk, ok, rfl, hp1, hp2, hds, hwr, HI⟩ := hrel
        by_cases hlp : i < p
        · obtain ⟨p', rfl⟩ : ∃ p', p = p' + 1 := ⟨p - 1, by omega⟩
          have qp : (i : Int) < ((p' + 1 : Nat) : Int) := by omega
          have zp : ((p' + 1 : Nat) : Int) < (d0.size : Int) := by omega
          have zp1 : (p' : Int) < (d0.size : Int) := by omega
          have ep1 : ((p' + 1 : Nat) : Int) - 1 = (p' : Int) := by omega
          have hwq : sortWorldK cnE 3 w blk 0 kk dk ok = wr := hwr.symm
          have hin := HI.out
          have hin2 : shL i p' (swp dk (p' + 1) p') = shL i mm d := by rw [← hin]; conv => rhs; unfold shL; rw [if_pos hlp]
          have HI2 : Hid _ := hin2
          clear HI hin hin2 hwr
          have hHq : HoldsK cnE 3 wr blk 0 dk := by rw [← hwq]; exact holdsK_sortWorldK_c cnE 3 w blk 0 d0 dk kk ok HH.out hblk (by omega)
          obtain ⟨xa, hxa⟩ : ∃ x, dk[p' + 1]! = x := ⟨_, rfl⟩
          obtain ⟨xb, hxb⟩ : ∃ x, dk[p']! = x := ⟨_, rfl⟩
          obtain ⟨⟨a0, a1, a2⟩, fa0, fa1, fa2⟩ := Fd.cell_at hHq (show p' + 1 < dk.size by omega)
          obtain ⟨⟨b0, b1, b2⟩, fb0, fb1, fb2⟩ := Fd.cell_at hHq (show p' < dk.size by omega)
          obtain ⟨u0, u1, u2, g0, g1, g2⟩ := Fd.swap_mid hHq (show p' + 1 < dk.size by omega) (show p' < dk.size by omega)
          have HD : Hid _ := Fd.swap_done w blk kk dk ok hblk (show p' + 1 < dk.size by omega) (show p' < dk.size by omega) hwq
          rw [hxa] at a0 a1 a2 HD
          rw [hxb] at b0 b1 b2 g0 g1 g2 HD
          clear hHq hwq
          go_wp2_with fail
          go_big_region_o
          go_wp2
          exact ⟨⟨p', kk + 1, swp dk (p' + 1) p', ok, by first | rfl | (simp; done), by omega, by omega, by simp [swp]; omega, HD.out, HI2.out⟩, by first | (simp [intOf]; done) | (simp [intOf]; omega)⟩
        · have qp : ¬ (i : Int) < (p : Int) := by omega
          have hin := HI.out
          have hin2 : dk = shL i mm d := by
            rw [← hin]
            cases p with
            | zero => rfl
            | succ p' => conv => rhs; unfold shL; rw [if_neg hlp]
          have HI2 : Hid _ := hin2
          clear HI hin hin2
          subst hwr
          go_wp2
          refine bodyPost_ret (results_none rfl _ _ _) rfl ?_
          exact ⟨rfl, kk, ok, by rw [HI2.out, HF.out]⟩
end Go.Proofs
