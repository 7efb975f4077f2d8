/-
  DiskParts: the walk.
-/
import Derived.Test.YtjidghhgoofhlaaDv
namespace Go.Proofs
open Go.RowKit Go.Dk
theorem Dk.Puts.at {w w0 : World} {B : Nat} {ad : Option Addr} {cap : Nat} {q : List Pt} (hP : Dk.Puts w0 (.slice ad q.length cap) q) (hB : w0.heap.size ≤ B) {k : Nat} {p : Pt} (hp : q[k]? = some p) :
    ∃ pb po, ad = some ⟨pb, po, none⟩ ∧ Dk.I64 p.I ∧ Dk.I64 p.N ∧ Dk.I64 p.C ∧ (Below B w0 w → w.cell? ⟨pb, po + k * 4, none⟩ = some (.int .i64 p.I) ∧ w.cell? ⟨pb, po + k * 4 + 1, none⟩ = some (.int .i64 p.N) ∧ w.cell? ⟨pb, po + k * 4 + 2, none⟩ = some (.int .i64 p.C) ∧ w.cell? ⟨pb, po + k * 4 + 3, none⟩ = some (.bool p.S) ∧ pb < w.heap.size) := by
  obtain ⟨ad', cap', e, -, hP3⟩ := hP.ex
  cases e
  obtain ⟨hok1, hok2, hok3⟩ := hP.ok p (List.mem_of_getElem? hp)
  rcases hP3 with hP3 | ⟨pb', po', e, hpb', hP3⟩
  · rw [hP3] at hp; cases hp
  · refine ⟨pb', po', e, hok1, hok2, hok3, fun hb => ?_⟩
    obtain ⟨ad', cap', e2, -, hP4⟩ := (hP.below hb hB).ex
    cases e2
    rcases hP4 with hP4 | ⟨pb, po, e3, hpb, hP4⟩
    · rw [hP4] at hp; cases hp
    · rw [e] at e3
      cases e3
      obtain ⟨r0, r1, r2, r3⟩ := hP4 k p hp
      exact ⟨r0, r1, r2, r3, hpb⟩
set_option maxRecDepth 20000 in
set_option maxHeartbeats 4000000 in
theorem Try.diskPartsWalk (v : Value) (l : List Pt) (v2 : Value) (m : List Pt) (K T : Int) (w : World) (hP : Dk.Puts w v l) (hQ : Dk.Puts w v2 m) :
    Calls Try.prog 5 #[v, v2, .agg #[.int .i64 K, .int .i64 T]] w fun e w' => e = .returned (.bool true) ∧ Below w.heap.size w w' := by
  obtain ⟨w0, hw0⟩ : ∃ w0, w0 = w.alloc (.cells #[.int .i64 K, .int .i64 T] 24) := ⟨_, rfl⟩
  have hb0 : Below w.heap.size w w0 := by rw [hw0]; exact (Below.refl w.heap.size w).alloc (Nat.le_refl _) _
  have hx0 : w0.heap[w.heap.size]? = some (.cells #[.int .i64 K, .int .i64 T] 24 (0, 0)) := by rw [hw0]; exact heap_alloc_new w _
  have hfr : ∀ W : World, W = w0 → Calls Try.prog 7 #[] W fun e w' => ∃ x, e = .returned (.pointer (some ⟨x, 0, none⟩)) ∧ Try.One w0.heap.size w0 w' x Dk.ds8 := fun W hW => by subst hW; exact Try.fresh_any _
  have hP0 := hP.below hb0 (Nat.le_refl _)
  have hQ0 := hQ.below hb0 (Nat.le_refl _)
  obtain ⟨ad, cap, rfl, hcap, -⟩ := hP.ex
  obtain ⟨ad2, cap2, rfl, hcap2, -⟩ := hQ.ex
  have HP0 : Hid (Dk.Puts w0 (.slice ad l.length cap) l) := hP0
  have HQ0 : Hid (Dk.Puts w0 (.slice ad2 m.length cap2) m) := hQ0
  have Hbx : Hid (∀ W : World, Below w0.heap.size w0 W → W.cell? ⟨w.heap.size, 0, none⟩ = some (.int .i64 K) ∧ W.cell? ⟨w.heap.size, 1, none⟩ = some (.int .i64 T)) := fun W hb => by
    have hb1 : W.heap[w.heap.size]? = some (.cells #[.int .i64 K, .int .i64 T] 24 (0, 0)) := (hb.block _ (Dk.block_lt hx0)).trans hx0
    exact ⟨by rw [cell_of_row _ _ _ _ _ _ hb1]; rfl, by rw [cell_of_row _ _ _ _ _ _ hb1]; rfl⟩
  clear hP hP0 hx0 hQ hQ0
  have HW0 : Hid (w0 = w.alloc (.cells #[.int .i64 K, .int .i64 T] 24)) := hw0
  clear hw0
  go_enter Try.func5, Try.ntmps5
  go_wp2_with (first
    | (go_at_call 7; refine (hfr _ HW0.out.symm).mono ?_; clear hfr; rintro e w1 ⟨a, rfl, hO1⟩)
    | fail)
  have HO1 : Hid _ := hO1
  clear hO1
  go_loopw [8] (fun i wr => ∃ k : Nat, k ≤ l.length ∧ k ≤ 30 ∧ i = .int .i64 k ∧ Try.P1 w0.heap.size w0 wr a l k) (fun i _ => l.length - (intOf i).toNat)
  case atStart => exact ⟨0, by omega, by omega, rfl, ⟨HO1.out⟩⟩
  case round =>
    obtain ⟨k, hk, hk30, rfl, hM⟩ := hrel
    clear HO1
    by_cases hkq : k < l.length ∧ k < 30
    · have q0 : (k : Int) < (l.length : Int) := by omega
      have q1 : (k : Int) < 30 := by omega
      obtain ⟨p, hp⟩ : ∃ p, l[k]? = some p := ⟨_, List.getElem?_eq_getElem hkq.1⟩
      obtain ⟨pb, po, rfl, hok1, hok2, hok3, hcl⟩ := Dk.Puts.at (w := wr) HP0.out (Nat.le_refl _) hp
      obtain ⟨c0, c1, c2, c3, hpb⟩ := hcl hM.one.bel
      have hpk := Try.pick_any p.I 8 (by omega) (by omega) hok1.1 hok1.2
      have hby := Try.bytes_any p.I p.N p.C p.S hok2 hok3
      have HM : Hid (Try.P1 w0.heap.size w0 wr a l k) := hM
      clear hM hok1 hok2 hok3 hcl
      cases hs : p.S with
      | true =>
        rw [hs] at c3
        have hsy := HM.out.sync (by omega) hp hs
        clear hpk hby c0 c1 c2
        go_wp2_with (first
          | (go_at_call 8; refine hsy.mono ?_; clear hsy; rintro e w4 ⟨rfl, hM4⟩)
          | fail)
        go_roundw
        case rel => exact ⟨k + 1, by omega, by omega, by go_num, hM4⟩
        case measure => simp [intOf]; omega
      | false =>
        rw [hs] at c3 hby
        have hwt := fun (W : World) (hb : Below wr.heap.size wr W) (v : Value) (hv : Dk.Src W v (Dk.bytesOf p.N p.C)) => HM.out.write hb (by omega) hp hs v hv
        have hpn8 : Dk.pickN p.I 8 < 8 := Dk.pickN_lt _ (by omega)
        go_upto_region 9 with (fail)
        go_region_with (first
          | (go_at_call 10; refine (hpk _).mono ?_; rintro e w2 ⟨rfl, rfl⟩)
          | (go_at_call 11; refine (hby _).mono ?_; rintro e w2 ⟨v, rfl, hsrc, hbel⟩; have hb2 : Below wr.heap.size wr w2 := ((Below.refl wr.heap.size wr).drew).trans hbel; have c0' : w2.cell? ⟨pb, po + k * 4, none⟩ = some (.int .i64 p.I) := (hb2.cell (p := ⟨pb, po + k * 4, none⟩) hpb).trans c0)
          | (go_at_call 9; refine (hwt _ hb2 _ hsrc).mono ?_; rintro e w3 ⟨rfl, hL3⟩)
          | fail)
        all_goals
          clear hwt hpk hby c0 c1 c2 c3
          go_wp2
          go_roundw
          case rel => exact ⟨k + 1, by omega, by omega, by go_num, hL3⟩
          case measure => simp [intOf]; omega
    · obtain ⟨sd, h0⟩ := hM.fin hk30
      obtain ⟨L, hL⟩ : ∃ L : ByteArray, L = ⟨sd.view.toArray⟩ := ⟨_, rfl⟩
      have hwh := h0.whole
      rw [← hL] at hwh
      have HL : Hid (L = ⟨sd.view.toArray⟩) := hL
      clear hM hL h0
      by_cases hkl : k < l.length
      case' pos =>
        have q0 : (k : Int) < (l.length : Int) := by omega
        have q1 : ¬ (k : Int) < 30 := by omega
      case' neg =>
        have q0 : ¬ (k : Int) < (l.length : Int) := by omega
        have q1 : True := trivial
      all_goals
        go_wp2_with (first
          | (go_at_call 16; refine hwh.mono ?_; clear hwh; rintro e w2 ⟨rfl, h2⟩; have hcp := h2.copy; clear h2)
          | (go_at_call 19; refine hcp.mono ?_; clear hcp; rintro e w3 ⟨b, c, rfl, h3⟩; have hca := h3.costsA; clear h3)
          | (go_at_call 20; refine hca.mono ?_; clear hca; rintro e w4 ⟨rfl, h4⟩; have hcb := h4.costsB; clear h4)
          | (go_at_call 20; refine hcb.mono ?_; clear hcb; rintro e w5 ⟨rfl, h5⟩; have hwb := h5.wholeB; clear h5; rw [← HL.out] at hwb)
          | (go_at_call 16; refine hwb.mono ?_; clear hwb; rintro e w6 ⟨rfl, h6⟩)
          | fail)
        have H6 : Hid _ := h6
        have Hsm : Hid (Dk.Sm sd 0) := h6.sm
        clear h6
        go_loopw [18] (fun i wr => ∃ j : Nat, j ≤ m.length ∧ j ≤ 30 ∧ i = .int .i64 j ∧ Try.P2 w0.heap.size w0 wr a b sd j) (fun i _ => m.length - (intOf i).toNat)
        case atStart => exact ⟨0, by omega, by omega, rfl, H6.out⟩
        case round =>
          obtain ⟨j, hj, hj30, rfl, hN⟩ := hrel
          clear H6
          by_cases hjq : j < m.length ∧ j < 30
          · have r0 : (j : Int) < (m.length : Int) := by omega
            have r1 : (j : Int) < 30 := by omega
            obtain ⟨p, hp⟩ : ∃ p, m[j]? = some p := ⟨_, List.getElem?_eq_getElem hjq.1⟩
            obtain ⟨pb, po, rfl, hok1, hok2, hok3, hcl⟩ := Dk.Puts.at (w := wr) HQ0.out (Nat.le_refl _) hp
            obtain ⟨c0, c1, c2, c3, hpb⟩ := hcl hN.bel
            have hpk := Try.pick_any p.I 8 (by omega) (by omega) hok1.1 hok1.2
            have hby := Try.bytes_any p.I p.N p.C p.S hok2 hok3
            have hwt := fun (W : World) (hb : Below wr.heap.size wr W) (v : Value) (hv : Dk.Src W v (Dk.bytesOf p.N p.C)) => hN.write (p := p) hb (by omega) v hv
            have hpn8 : Dk.pickN p.I 8 < 8 := Dk.pickN_lt _ (by omega)
            clear hN hok1 hok2 hok3 hcl
            go_upto_region 22 with (fail)
            go_region_with (first
              | (go_at_call 10; refine (hpk _).mono ?_; rintro e w2 ⟨rfl, rfl⟩)
              | (go_at_call 11; refine (hby _).mono ?_; rintro e w2 ⟨v, rfl, hsrc, hbel⟩; have hb2 : Below wr.heap.size wr w2 := ((Below.refl wr.heap.size wr).drew).trans hbel; have c0' : w2.cell? ⟨pb, po + j * 4, none⟩ = some (.int .i64 p.I) := (hb2.cell (p := ⟨pb, po + j * 4, none⟩) hpb).trans c0)
              | (go_at_call 9; refine (hwt _ hb2 _ hsrc).mono ?_; rintro e w3 ⟨rfl, hL3⟩)
              | fail)
            all_goals
              clear hwt hpk hby c0 c1 c2 c3
              go_wp2
              go_roundw
              case rel => exact ⟨j + 1, by omega, by omega, by go_num, hL3⟩
              case measure => simp [intOf]; omega
          · have hwa := hN.wholeA
            rw [← HL.out] at hwa
            clear hN
            by_cases hjl : j < m.length
            case' pos =>
              have r0 : (j : Int) < (m.length : Int) := by omega
              have r1 : ¬ (j : Int) < 30 := by omega
            case' neg =>
              have r0 : ¬ (j : Int) < (m.length : Int) := by omega
              have r1 : True := trivial
            all_goals
              go_wp2_with (first
                | (go_at_call 16; refine hwa.mono ?_; clear hwa; rintro e w7 ⟨rfl, h7⟩; obtain ⟨d0, d1⟩ := Hbx.out _ h7.bel; have hcr := h7.crashB K T; clear h7)
                | (go_at_call 12; refine hcr.mono ?_; clear hcr; rintro e w8 ⟨rfl, h8⟩; have hsy := h8.sync Hsm.out; clear h8)
                | (go_at_call 8; refine hsy.mono ?_; clear hsy; rintro e w9 ⟨rfl, h9⟩; obtain ⟨d0, d1⟩ := Hbx.out _ h9.bel; have hcs := h9.crash Hsm.out K T; clear h9)
                | (go_at_call 12; refine hcs.mono ?_; clear hcs; rintro e w10 ⟨rfl, h10⟩; have hre := h10.restart; clear h10)
                | (go_at_call 15; refine hre.mono ?_; clear hre; rintro e w11 ⟨⟨v11, rfl⟩, h11⟩; have hwd := h11.whole; clear h11; rw [← HL.out] at hwd)
                | (go_at_call 16; refine hwd.mono ?_; clear hwd; rintro e w12 ⟨rfl, h12⟩)
                | fail)
              go_ret
              exact ⟨rfl, hb0.trans (h12.mono hb0.size)⟩
end Go.Proofs
