/-
  DiskFuses: the walk.
-/
import Derived.Test.YtjidghhgoofhlaaDr
namespace Go.Proofs
open Go.RowKit Go.Dk
theorem Try.Pre.bel {B : Nat} {w0 wr : World} {a b : Nat} {K T : Int} (h : Try.Pre B w0 wr a b K T) : Below B w0 wr := by
  obtain ⟨sa, sb, h1, _⟩ := h.ex
  exact h1.bel
set_option maxRecDepth 20000 in
set_option maxHeartbeats 4000000 in
theorem Try.diskFusesWalk (v : Value) (l : List Pt) (n K T : Int) (w : World) (hP : Dk.Puts w v l) (hn : -9223372036854775808 ≤ n ∧ n ≤ 9223372036854775807) :
    Calls Try.prog 4 #[v, .int .i64 n, .agg #[.int .i64 K, .int .i64 T]] w fun e w' => e = .returned (.bool true) ∧ Below w.heap.size w w' := by
  obtain ⟨w0, hw0⟩ : ∃ w0, w0 = w.alloc (.cells #[.int .i64 K, .int .i64 T] 24) := ⟨_, rfl⟩
  have hb0 : Below w.heap.size w w0 := by rw [hw0]; exact (Below.refl w.heap.size w).alloc (Nat.le_refl _) _
  have hx0 : w0.heap[w.heap.size]? = some (.cells #[.int .i64 K, .int .i64 T] 24 (0, 0)) := by rw [hw0]; exact heap_alloc_new w _
  have hfr : ∀ W : World, W = w0 → Calls Try.prog 7 #[] W fun e w' => ∃ x, e = .returned (.pointer (some ⟨x, 0, none⟩)) ∧ Try.One w0.heap.size w0 w' x Dk.ds8 := fun W hW => by subst hW; exact Try.fresh_any _
  have hP0 := hP.below hb0 (Nat.le_refl _)
  obtain ⟨ad, cap, rfl, hcap, hP1⟩ := hP.ex
  have HP0 : Hid (Dk.Puts w0 (.slice ad l.length cap) l) := hP0
  have Hbx : Hid (∀ W : World, Below w0.heap.size w0 W → W.cell? ⟨w.heap.size, 0, none⟩ = some (.int .i64 K) ∧ W.cell? ⟨w.heap.size, 1, none⟩ = some (.int .i64 T)) := fun W hb => by
    have hb1 : W.heap[w.heap.size]? = some (.cells #[.int .i64 K, .int .i64 T] 24 (0, 0)) := (hb.block _ (Dk.block_lt hx0)).trans hx0
    exact ⟨by rw [cell_of_row _ _ _ _ _ _ hb1]; rfl, by rw [cell_of_row _ _ _ _ _ _ hb1]; rfl⟩
  have hpn := Try.pick_any n 45 (by omega) (by omega) hn.1 hn.2
  obtain ⟨nn, hnn⟩ : ∃ nn, nn = Dk.pickN n 45 := ⟨_, rfl⟩
  rw [← hnn] at hpn
  have hn45 : nn < 45 := by rw [hnn]; exact Dk.pickN_lt _ (by omega)
  clear hP hP0 hP1 hx0 hnn
  have HW0 : Hid (w0 = w.alloc (.cells #[.int .i64 K, .int .i64 T] 24)) := hw0
  clear hw0
  go_enter Try.func4, Try.ntmps4
  go_upto_if 32 with (first
    | (go_at_call 7; refine (hfr _ HW0.out.symm).mono ?_; clear hfr; rintro e w1 ⟨a, rfl, hO1⟩)
    | (go_at_call 7; refine (Try.fresh_any w1).mono ?_; rintro e w2 ⟨b, rfl, hO2⟩; have hT2 := hO1.two hO2; clear hO1 hO2)
    | fail)
  go_cut [0] (fun v wx => ∃ q : List Pt, q.length ≤ 40 ∧ v = .slice ad q.length cap ∧ Dk.Puts w0 v q ∧ wx = w2)
  case first =>
    by_cases h40 : l.length ≤ 40
    · have q0 : ¬ (40 : Int) < (l.length : Int) := by omega
      go_wp2
      go_meet
      case rel => exact ⟨l, h40, rfl, HP0.out, rfl⟩
    · have q0 : (40 : Int) < (l.length : Int) := by omega
      have q1 : (40 : Int) ≤ (cap : Int) := by omega
      go_wp2
      go_meet
      case rel =>
        have hp := HP0.out.take 40 (by omega)
        have hl : (l.take 40).length = 40 := by rw [List.length_take]; omega
        exact ⟨l.take 40, by omega, by rw [hl], by exact hp, rfl⟩
  case rest =>
    obtain ⟨q, hq40, rfl, hPq, rfl⟩ := hcut
    have HPq : Hid (Dk.Puts w0 (.slice ad q.length cap) q) := hPq
    obtain ⟨d0, d1⟩ := Hbx.out _ hT2.bel
    have hfu := hT2.fuse rfl (nn : Int) K T (by omega)
    clear hPq hT2
    go_wp2_with (first
      | (go_at_call 10; refine (hpn _).mono ?_; clear hpn; rintro e w2 ⟨rfl, rfl⟩)
      | (go_at_call 17; refine hfu.mono ?_; clear hfu; rintro e w3 ⟨rfl, hT3⟩)
      | fail)
    have HT3 : Hid _ := hT3
    clear hT3 d0 d1
    go_loopw [10, 11] (fun le i wr => ∃ k left : Nat, k ≤ q.length ∧ left ≤ 45 ∧ le = .int .i64 left ∧ i = .int .i64 k ∧ Try.M1 w0.heap.size w0 wr a b q K T k left) (fun _ i _ => q.length - (intOf i).toNat)
    case atStart => exact ⟨0, nn, by omega, by omega, rfl, rfl, ⟨HT3.out⟩⟩
    case round =>
      obtain ⟨k, left, hk, hle, rfl, rfl, hM⟩ := hrel
      by_cases hkq : k < q.length
      · have q0 : (k : Int) < (q.length : Int) := by omega
        obtain ⟨p, hp⟩ : ∃ p, q[k]? = some p := ⟨_, List.getElem?_eq_getElem hkq⟩
        have hPr := HPq.out.below hM.two.bel (Nat.le_refl _)
        obtain ⟨ad', cap', e, -, hP2⟩ := hPr.ex
        cases e
        rcases hP2 with hP2 | ⟨pb, po, rfl, hpb, hP2⟩
        · rw [hP2] at hkq; exact absurd hkq (by simp)
        · obtain ⟨c0, c1, c2, c3⟩ := hP2 k p hp
          obtain ⟨hok1, hok2, hok3⟩ := hPr.ok p (List.mem_of_getElem? hp)
          have hpk := Try.pick_any p.I 8 (by omega) (by omega) hok1.1 hok1.2
          have hby := Try.bytes_any p.I p.N p.C p.S hok2 hok3
          have HM : Hid (Try.M1 w0.heap.size w0 wr a b q K T k left) := hM
          have Hcell : Hid (∀ W : World, Below w0.heap.size w0 W → W.cell? ⟨pb, po + k * 4, none⟩ = some (.int .i64 p.I) ∧ W.cell? ⟨pb, po + k * 4 + 1, none⟩ = some (.int .i64 p.N) ∧ W.cell? ⟨pb, po + k * 4 + 2, none⟩ = some (.int .i64 p.C) ∧ W.cell? ⟨pb, po + k * 4 + 3, none⟩ = some (.bool p.S) ∧ pb < W.heap.size) := fun W hb => by
            obtain ⟨ad', cap', e, -, hP3⟩ := (HPq.out.below hb (Nat.le_refl _)).ex
            cases e
            rcases hP3 with hP3 | ⟨pb', po', e, hpb', hP3⟩
            · rw [hP3] at hkq; exact absurd hkq (by simp)
            · cases e
              obtain ⟨r0, r1, r2, r3⟩ := hP3 k p hp
              exact ⟨r0, r1, r2, r3, hpb'⟩
          clear hP2 hPr hM hok1 hok2 hok3
          by_cases hl0 : left = 0
          · subst hl0
            cases hs : p.S with
            | true =>
              rw [hs] at c3
              have hsy := HM.out.syncX hq40
              clear hpk hby c0 c1 c2
              go_wp2_with (first
                | (go_at_call 8; refine hsy.mono ?_; clear hsy; rintro e w4 ⟨rfl, hF4⟩; obtain ⟨d0, d1⟩ := Hbx.out _ hF4.bel)
                | (go_at_call 12; refine hF4.crash.mono ?_; clear hF4; rintro e w5 ⟨rfl, hF5⟩)
                | (go_at_call 14; refine hF5.alive.mono ?_; rintro e w6 ⟨rfl, rfl⟩; have hfa := hF5.fallsA)
                | (go_at_call 18; refine hfa.mono ?_; clear hfa; rintro e w6 ⟨rfl, rfl⟩; have hfb := hF5.fallsB)
                | (go_at_call 18; refine hfb.mono ?_; clear hfb; rintro e w6 ⟨rfl, rfl⟩)
                | (go_at_call 15; refine hF5.fin.restart.mono ?_; clear hF5; rintro e w7 ⟨⟨v7, rfl⟩, hF7⟩)
                | (go_at_call 15; refine hF7.restart.mono ?_; clear hF7; rintro e w8 ⟨⟨v8, rfl⟩, sa, sb, hF8⟩)
                | (go_at_call 16; refine hF8.wholeA.mono ?_; clear hF8; rintro e w9 ⟨rfl, hF9⟩)
                | (go_at_call 16; refine hF9.wholeB.mono ?_; clear hF9; rintro e w10 ⟨rfl, hF10⟩)
                | fail)
              go_ret
              exact ⟨rfl, hb0.trans (hF10.two.bel.mono hb0.size)⟩
            | false =>
              rw [hs] at c3 hby
              have hwt := fun (W : World) (hb : Below wr.heap.size wr W) (v : Value) (hv : Dk.Src W v (Dk.bytesOf p.N p.C)) => HM.out.writeX (p := p) hb hq40 v hv
              have hpn8 : Dk.pickN p.I 8 < 8 := Dk.pickN_lt _ (by omega)
              go_upto_region 19 with (fail)
              go_cut [12] (fun f wx => f = .int .i64 41 ∧ Try.M3 w0.heap.size w0 wx a b q K T k p)
              case first =>
                go_region_with (first
                  | (go_at_call 10; refine (hpk _).mono ?_; rintro e w2 ⟨rfl, rfl⟩)
                  | (go_at_call 11; refine (hby _).mono ?_; rintro e w2 ⟨v, rfl, hsrc, hbel⟩; have hb2 : Below wr.heap.size wr w2 := ((Below.refl wr.heap.size wr).drew).trans hbel; have c0' : w2.cell? ⟨pb, po + k * 4, none⟩ = some (.int .i64 p.I) := (hb2.cell (p := ⟨pb, po + k * 4, none⟩) hpb).trans c0)
                  | (go_at_call 9; refine (hwt _ hb2 _ hsrc).mono ?_; rintro e w3 ⟨rfl, hL3⟩)
                  | fail)
                all_goals
                  go_wp2
                  go_meet
                  case rel => exact ⟨rfl, hL3⟩
              case rest =>
                obtain ⟨rfl, hM3⟩ := hcut
                obtain ⟨e0, e1, e2, e3, hpb3⟩ := Hcell.out _ hM3.two.bel
                have hwb := fun (W : World) (hb : Below wc.heap.size wc W) (v : Value) (hv : Dk.Src W v (Dk.bytesOf p.N p.C)) => hM3.writeB hb hq40 v hv
                rw [hs] at e3
                clear hwt hM3
                go_upto_region 20 with (fail)
                go_cut [] (fun wx => Try.Pre w0.heap.size w0 wx a b K T)
                case first =>
                  go_region_with (first
                    | (go_at_call 10; refine (hpk _).mono ?_; rintro e w2 ⟨rfl, rfl⟩)
                    | (go_at_call 11; refine (hby _).mono ?_; rintro e w2 ⟨v, rfl, hsrc, hbel⟩; have hb2 : Below wc.heap.size wc w2 := ((Below.refl wc.heap.size wc).drew).trans hbel; have c0' : w2.cell? ⟨pb, po + k * 4, none⟩ = some (.int .i64 p.I) := (hb2.cell (p := ⟨pb, po + k * 4, none⟩) hpb3).trans e0)
                    | (go_at_call 9; refine (hwb _ hb2 _ hsrc).mono ?_; rintro e w3 ⟨rfl, hL3⟩)
                    | fail)
                  all_goals
                    go_wp2
                    go_meet
                    case rel => exact hL3
                case rest =>
                  have hF4 := hcut
                  obtain ⟨d0, d1⟩ := Hbx.out _ hF4.bel
                  clear hcut hwb e0 e1 e2 e3 c0 c1 c2 c3
                  go_wp2_with (first
                    | (go_at_call 12; refine hF4.crash.mono ?_; clear hF4; rintro e w5 ⟨rfl, hF5⟩)
                    | (go_at_call 14; refine hF5.alive.mono ?_; rintro e w6 ⟨rfl, rfl⟩; have hfa := hF5.fallsA)
                    | (go_at_call 18; refine hfa.mono ?_; clear hfa; rintro e w6 ⟨rfl, rfl⟩; have hfb := hF5.fallsB)
                    | (go_at_call 18; refine hfb.mono ?_; clear hfb; rintro e w6 ⟨rfl, rfl⟩)
                    | (go_at_call 15; refine hF5.fin.restart.mono ?_; clear hF5; rintro e w7 ⟨⟨v7, rfl⟩, hF7⟩)
                    | (go_at_call 15; refine hF7.restart.mono ?_; clear hF7; rintro e w8 ⟨⟨v8, rfl⟩, sa, sb, hF8⟩)
                    | (go_at_call 16; refine hF8.wholeA.mono ?_; clear hF8; rintro e w9 ⟨rfl, hF9⟩)
                    | (go_at_call 16; refine hF9.wholeB.mono ?_; clear hF9; rintro e w10 ⟨rfl, hF10⟩)
                    | fail)
                  go_ret
                  exact ⟨rfl, hb0.trans (hF10.two.bel.mono hb0.size)⟩
          · have q1 : ¬ (left : Int) = 0 := by omega
            cases hs : p.S with
            | true =>
              rw [hs] at c3
              have hsy := HM.out.syncA hq40 hp hs (by omega)
              clear hpk hby c0 c1 c2
              go_wp2_with (first
                | (go_at_call 8; refine hsy.mono ?_; clear hsy; rintro e w4 ⟨rfl, hM4⟩; have hsy2 := hM4.syncB hq40 hp hs; clear hM4)
                | (go_at_call 8; refine hsy2.mono ?_; clear hsy2; rintro e w5 ⟨rfl, hM5⟩)
                | fail)
              go_roundw
              case rel => exact ⟨k + 1, left, by omega, hle, rfl, by go_num, hM5⟩
              case measure => simp [intOf]; omega
            | false =>
              rw [hs] at c3 hby
              have hwt := fun (W : World) (hb : Below wr.heap.size wr W) (v : Value) (hv : Dk.Src W v (Dk.bytesOf p.N p.C)) => HM.out.writeA hb hq40 hp hs (by omega) hle v hv
              have hpn8 : Dk.pickN p.I 8 < 8 := Dk.pickN_lt _ (by omega)
              go_upto_region 30 with (fail)
              go_cut [16] (fun f wx => f = .int .i64 0 ∧ Try.M2 w0.heap.size w0 wx a b q K T k (left - 1))
              case first =>
                go_region_with (first
                  | (go_at_call 10; refine (hpk _).mono ?_; rintro e w2 ⟨rfl, rfl⟩)
                  | (go_at_call 11; refine (hby _).mono ?_; rintro e w2 ⟨v, rfl, hsrc, hbel⟩; have hb2 : Below wr.heap.size wr w2 := ((Below.refl wr.heap.size wr).drew).trans hbel; have c0' : w2.cell? ⟨pb, po + k * 4, none⟩ = some (.int .i64 p.I) := (hb2.cell (p := ⟨pb, po + k * 4, none⟩) hpb).trans c0)
                  | (go_at_call 9; refine (hwt _ hb2 _ hsrc).mono ?_; rintro e w3 ⟨rfl, hL3⟩)
                  | fail)
                all_goals
                  go_wp2
                  go_meet
                  case rel => exact ⟨rfl, hL3⟩
              case rest =>
                obtain ⟨rfl, hM3⟩ := hcut
                obtain ⟨e0, e1, e2, e3, hpb3⟩ := Hcell.out _ hM3.two.bel
                have hwb := fun (W : World) (hb : Below wc.heap.size wc W) (v : Value) (hv : Dk.Src W v (Dk.bytesOf p.N p.C)) => hM3.writeB hb hq40 hp hs v hv
                clear hwt hM3
                go_upto_region 31 with (fail)
                go_cut [17] (fun f wx => f = .int .i64 0 ∧ Try.M1 w0.heap.size w0 wx a b q K T (k + 1) (left - 1))
                case first =>
                  go_region_with (first
                    | (go_at_call 10; refine (hpk _).mono ?_; rintro e w2 ⟨rfl, rfl⟩)
                    | (go_at_call 11; refine (hby _).mono ?_; rintro e w2 ⟨v, rfl, hsrc, hbel⟩; have hb2 : Below wc.heap.size wc w2 := ((Below.refl wc.heap.size wc).drew).trans hbel; have c0' : w2.cell? ⟨pb, po + k * 4, none⟩ = some (.int .i64 p.I) := (hb2.cell (p := ⟨pb, po + k * 4, none⟩) hpb3).trans e0)
                    | (go_at_call 9; refine (hwb _ hb2 _ hsrc).mono ?_; rintro e w3 ⟨rfl, hL3⟩)
                    | fail)
                  all_goals
                    go_wp2
                    go_meet
                    case rel => exact ⟨rfl, hL3⟩
                case rest =>
                  obtain ⟨rfl, hM5⟩ := hcut
                  clear hwb e0 e1 e2 e3 c0 c1 c2 c3
                  go_wp2
                  go_roundw
                  case rel => exact ⟨k + 1, left - 1, by omega, by omega, by go_num, by go_num, hM5⟩
                  case measure => simp [intOf]; omega
      · have q0 : ¬ (k : Int) < (q.length : Int) := by omega
        have hf0 := hM.fin hq40
        clear hM
        go_wp2_with (first
          | (go_at_call 15; refine hf0.restart.mono ?_; clear hf0; rintro e w7 ⟨⟨v7, rfl⟩, hF7⟩)
          | (go_at_call 15; refine hF7.restart.mono ?_; clear hF7; rintro e w8 ⟨⟨v8, rfl⟩, sa, sb, hF8⟩)
          | (go_at_call 16; refine hF8.wholeA.mono ?_; clear hF8; rintro e w9 ⟨rfl, hF9⟩)
          | (go_at_call 16; refine hF9.wholeB.mono ?_; clear hF9; rintro e w10 ⟨rfl, hF10⟩)
          | fail)
        go_ret
        exact ⟨rfl, hb0.trans (hF10.two.bel.mono hb0.size)⟩
end Go.Proofs
