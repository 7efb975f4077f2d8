/-
  DiskFails: the walk.
-/
import Derived.Test.YtjidghhgoofhlaaDq
namespace Go.Proofs
open Go.RowKit Go.Dk
set_option maxRecDepth 20000 in
set_option maxHeartbeats 4000000 in
theorem Try.diskFailsWalk (v : Value) (l : List Pt) (K T : Int) (w : World) (hP : Dk.Puts w v l) :
    Calls Try.prog 3 #[v, .agg #[.int .i64 K, .int .i64 T]] w fun e w' => e = .returned (.bool true) ∧ Below w.heap.size w w' := by
  obtain ⟨w0, hw0⟩ : ∃ w0, w0 = w.alloc (.cells #[.int .i64 K, .int .i64 T] 24) := ⟨_, rfl⟩
  have hb0 : Below w.heap.size w w0 := by rw [hw0]; exact (Below.refl w.heap.size w).alloc (Nat.le_refl _) _
  have hx0 : w0.heap[w.heap.size]? = some (.cells #[.int .i64 K, .int .i64 T] 24 (0, 0)) := by rw [hw0]; exact heap_alloc_new w _
  have hfr : ∀ W : World, W = w0 → Calls Try.prog 7 #[] W fun e w' => ∃ x, e = .returned (.pointer (some ⟨x, 0, none⟩)) ∧ Try.One w0.heap.size w0 w' x Dk.ds8 := fun W hW => by subst hW; exact Try.fresh_any _
  have hP0 := hP.below hb0 (Nat.le_refl _)
  obtain ⟨ad, cap, rfl, hcap, hP1⟩ := hP.ex
  have HP0 : Hid (Dk.Puts w0 (.slice ad l.length cap) l) := hP0
  clear hP hP0 hP1
  have HW0 : Hid (w0 = w.alloc (.cells #[.int .i64 K, .int .i64 T] 24)) := hw0
  clear hw0
  go_enter Try.func3, Try.ntmps3
  go_upto_if 35 with (first
    | (go_at_call 7; refine (hfr _ HW0.out.symm).mono ?_; clear hfr; rintro e w1 ⟨a, rfl, hO1⟩)
    | (go_at_call 7; refine (Try.fresh_any w1).mono ?_; rintro e w2 ⟨b, rfl, hO2⟩; have hT2 := hO1.two hO2; clear hO1 hO2)
    | fail)
  go_cut [0] (fun v wx => ∃ q : List Pt, q.length ≤ 40 ∧ v = .slice ad q.length cap ∧ Dk.Puts w0 v q ∧ wx = w2)
  case first =>
    by_cases h40 : l.length ≤ 40
    · have q0 : ¬ (40 : Int) < (l.length : Int) := by omega
      go_wp2
      go_meet
      case rel => exact ⟨l, h40, rfl, HP0.out, rfl⟩
    · have q0 : (40 : Int) < (l.length : Int) := by omega
      have q1 : (40 : Int) ≤ (cap : Int) := by omega
      go_wp2
      go_meet
      case rel =>
        have hp := HP0.out.take 40 (by omega)
        have hl : (l.take 40).length = 40 := by rw [List.length_take]; omega
        exact ⟨l.take 40, by omega, by rw [hl], by exact hp, rfl⟩
  case rest =>
    obtain ⟨q, hq40, rfl, hPq, rfl⟩ := hcut
    have HPq : Hid (Dk.Puts w0 (.slice ad q.length cap) q) := hPq
    have HT2 : Hid (Try.Two w0.heap.size w0 wc a b Dk.ds8 Dk.ds8) := hT2
    clear hPq hT2
    go_wp2
    go_loopw [7, 8] (fun la i wr => ∃ k : Nat, k ≤ q.length ∧ la = .int .i64 (lastOf (q.take k)) ∧ i = .int .i64 k ∧ Try.L1 w0.heap.size w0 wr a b q k) (fun _ i _ => q.length - (intOf i).toNat)
    case atStart => exact ⟨0, by omega, rfl, rfl, ⟨HT2.out⟩⟩
    case round =>
      obtain ⟨k, hk, rfl, rfl, hL⟩ := hrel
      by_cases hkq : k < q.length
      · have q0 : (k : Int) < (q.length : Int) := by omega
        obtain ⟨p, hp⟩ : ∃ p, q[k]? = some p := ⟨_, List.getElem?_eq_getElem hkq⟩
        have hPr := HPq.out.below hL.two.bel (Nat.le_refl _)
        obtain ⟨ad', cap', e, -, hP2⟩ := hPr.ex
        cases e
        rcases hP2 with hP2 | ⟨pb, po, rfl, hpb, hP2⟩
        · rw [hP2] at hkq; exact absurd hkq (by simp)
        · obtain ⟨c0, c1, c2, c3⟩ := hP2 k p hp
          obtain ⟨hok1, hok2, hok3⟩ := hPr.ok p (List.mem_of_getElem? hp)
          have hpk := Try.pick_any p.I 8 (by omega) (by omega) hok1.1 hok1.2
          have hby := Try.bytes_any p.I p.N p.C p.S hok2 hok3
          have HL : Hid (Try.L1 w0.heap.size w0 wr a b q k) := hL
          have Hlast : Hid (lastOf (q.take (k + 1)) = if p.S then k + 1 else lastOf (q.take k)) := by
            rw [Dk.take_one hp, lastOf_one, List.length_take, Nat.min_eq_left hk]; exact rfl
          clear hP2 hPr hL
          cases hs : p.S with
          | true =>
            rw [hs] at c3
            have hsy := HL.out.sync hq40 hp hs
            rw [hs, if_pos rfl] at Hlast
            clear hpk hby c0 c1 c2
            go_wp2_with (first
              | (go_at_call 8; refine hsy.mono ?_; clear hsy; rintro e w3 ⟨rfl, hL3⟩)
              | fail)
            go_roundw
            case rel => exact ⟨k + 1, by omega, by rw [Hlast.out]; rfl, by go_num, hL3⟩
            case measure => simp [intOf]; omega
          | false =>
            rw [hs] at c3 hby
            have hwt := fun (W : World) (hb : Below wr.heap.size wr W) (v : Value) (hv : Dk.Src W v (Dk.bytesOf p.N p.C)) => HL.out.write hb hq40 hp hs v hv
            rw [hs, if_neg (by simp)] at Hlast
            have hpbw : pb < wr.heap.size := hpb
            have hpn : Dk.pickN p.I 8 < 8 := Dk.pickN_lt _ (by omega)
            go_wp2
            go_region_with (first
              | (go_at_call 10; refine (hpk _).mono ?_; rintro e w2 ⟨rfl, rfl⟩)
              | (go_at_call 11; refine (hby _).mono ?_; rintro e w2 ⟨v, rfl, hsrc, hbel⟩; have hb2 : Below wr.heap.size wr w2 := ((Below.refl wr.heap.size wr).drew).trans hbel; have c0' : w2.cell? ⟨pb, po + k * 4, none⟩ = some (.int .i64 p.I) := (hb2.cell (p := ⟨pb, po + k * 4, none⟩) hpbw).trans c0)
              | (go_at_call 9; refine (hwt _ hb2 _ hsrc).mono ?_; rintro e w3 ⟨rfl, hL3⟩)
              | fail)
            all_goals
              go_wp2
              go_roundw
              case rel => exact ⟨k + 1, by omega, by rw [Hlast.out], by go_num, hL3⟩
              case measure => simp [intOf]; omega
      · have q0 : ¬ (k : Int) < (q.length : Int) := by omega
        have hkk : k = q.length := by omega
        subst hkk
        have hf := Dk.fit_run q hq40
        have hT := hL.two
        rw [List.take_length] at hT ⊢
        have hbx : wr.heap[w.heap.size]? = some (.cells #[.int .i64 K, .int .i64 T] 24 (0, 0)) := (hT.bel.block _ (Dk.block_lt hx0)).trans hx0
        have d0 : wr.cell? ⟨w.heap.size, 0, none⟩ = some (.int .i64 K) := by rw [cell_of_row _ _ _ _ _ _ hbx]; rfl
        have d1 : wr.cell? ⟨w.heap.size, 1, none⟩ = some (.int .i64 T) := by rw [cell_of_row _ _ _ _ _ _ hbx]; rfl
        have hcr := hT.crash hf.dead (by rw [hf.falls]; omega) K T
        clear hL hT hf hbx
        go_wp2_with (first
          | (go_at_call 12; refine hcr.mono ?_; clear hcr; rintro e w3 ⟨rfl, hT3⟩)
          | (go_at_call 13; refine (hT3.readDead rfl 0).mono ?_; rintro e w4 ⟨rfl, rfl⟩)
          | (go_at_call 14; refine hT3.alive.mono ?_; rintro e w4 ⟨rfl, rfl⟩)
          | (go_at_call 15; refine hT3.restart.mono ?_; clear hT3; rintro e w5 ⟨⟨v5, rfl⟩, hT5⟩)
          | fail)
        have HT5 : Hid (Try.Two w0.heap.size w0 w5 a b (((runD Dk.ds8 q).fail K T).restart) Dk.ds8) := hT5
        have Hbx : Hid (∀ W : World, Below w0.heap.size w0 W → W.cell? ⟨w.heap.size, 0, none⟩ = some (.int .i64 K) ∧ W.cell? ⟨w.heap.size, 1, none⟩ = some (.int .i64 T)) := fun W hb => by
          have hb1 : W.heap[w.heap.size]? = some (.cells #[.int .i64 K, .int .i64 T] 24 (0, 0)) := (hb.block _ (Dk.block_lt hx0)).trans hx0
          exact ⟨by rw [cell_of_row _ _ _ _ _ _ hb1]; rfl, by rw [cell_of_row _ _ _ _ _ _ hb1]; rfl⟩
        clear hT5 d0 d1 hk hkq
        obtain ⟨la, hla⟩ : ∃ la, la = lastOf q := ⟨_, rfl⟩
        rw [← hla]
        have HLA : Hid (la = lastOf q) := hla
        clear hla
        go_loopw [14, 15] (fun kp i wr => ∃ k m : Nat, k ≤ q.length ∧ kp = .int .i64 m ∧ i = .int .i64 k ∧ Try.L2 w0.heap.size w0 wr a b q K T k m) (fun _ i _ => q.length - (intOf i).toNat)
        case atStart => exact ⟨0, 0, by omega, rfl, rfl, ⟨HT5.out, by simp [ws], by omega⟩⟩
        case round =>
          obtain ⟨k, m, hk, rfl, rfl, hL⟩ := hrel
          have hm40 : m ≤ 40 := by
            have h1 := hL.keq
            have h2 := ws_len ((q.take k).drop (lastOf q))
            rw [List.length_drop, List.length_take] at h2
            omega
          by_cases hkq : k < q.length
          · have q0 : (k : Int) < (q.length : Int) := by omega
            obtain ⟨p, hp⟩ : ∃ p, q[k]? = some p := ⟨_, List.getElem?_eq_getElem hkq⟩
            have hPr := HPq.out.below hL.two.bel (Nat.le_refl _)
            obtain ⟨ad', cap', e, -, hP2⟩ := hPr.ex
            cases e
            rcases hP2 with hP2 | ⟨pb, po, rfl, hpb, hP2⟩
            · rw [hP2] at hkq; exact absurd hkq (by simp)
            · obtain ⟨c0, c1, c2, c3⟩ := hP2 k p hp
              obtain ⟨hok1, hok2, hok3⟩ := hPr.ok p (List.mem_of_getElem? hp)
              have hpk := Try.pick_any p.I 8 (by omega) (by omega) hok1.1 hok1.2 wr
              have hby := Try.bytes_any p.I p.N p.C p.S hok2 hok3 wr
              have HL : Hid (Try.L2 w0.heap.size w0 wr a b q K T k m) := hL
              clear hP2 hPr hL hok1 hok2 hok3
              cases hs : p.S with
              | true =>
                rw [hs] at c3
                clear hpk hby c0 c1 c2
                go_wp2
                go_roundw
                case rel => exact ⟨k + 1, m, by omega, rfl, by go_num, HL.out.skip hp hs⟩
                case measure => simp [intOf]; omega
              | false =>
                rw [hs] at c3 hby
                have hpn : Dk.pickN p.I 8 < 8 := Dk.pickN_lt _ (by omega)
                by_cases hc1 : k < la
                · have q1 : (k : Int) < (la : Int) := by omega
                  have q2 : ¬ (la : Int) ≤ (k : Int) := by omega
                  have hwt := fun (W : World) (hb : Below wr.heap.size wr W) (v : Value) (hv : Dk.Src W v (Dk.bytesOf p.N p.C)) => HL.out.write hb hq40 hp hs (.inl (by rw [← HLA.out]; exact hc1)) v hv
                  rw [← HLA.out, if_neg (by omega)] at hwt
                  clear hs
                  go_wp2_with (first
                    | (go_at_call 10; refine hpk.mono ?_; clear hpk; rintro e w2 ⟨rfl, rfl⟩)
                    | (go_at_call 11; refine hby.mono ?_; clear hby; rintro e w3 ⟨v, rfl, hsrc, hb2⟩)
                    | (go_at_call 9; refine (hwt _ hb2 _ hsrc).mono ?_; clear hwt; rintro e w4 ⟨rfl, hL3⟩)
                    | fail)
                  go_roundw
                  case rel => exact ⟨k + 1, m, by omega, rfl, by go_num, hL3⟩
                  case measure => simp [intOf]; omega
                · have q1 : ¬ (k : Int) < (la : Int) := by omega
                  have q2 : (la : Int) ≤ (k : Int) := by omega
                  by_cases hc2 : (m : Int) < K
                  · have hwt := fun (W : World) (hb : Below wr.heap.size wr W) (v : Value) (hv : Dk.Src W v (Dk.bytesOf p.N p.C)) => HL.out.write hb hq40 hp hs (.inr hc2) v hv
                    rw [← HLA.out, if_pos (by omega)] at hwt
                    clear hs
                    go_wp2_with (first
                      | (go_at_call 10; refine hpk.mono ?_; clear hpk; rintro e w2 ⟨rfl, rfl⟩)
                      | (go_at_call 11; refine hby.mono ?_; clear hby; rintro e w3 ⟨v, rfl, hsrc, hb2⟩; obtain ⟨d0, d1⟩ := Hbx.out w3 (HL.out.two.below hb2).bel)
                      | (go_at_call 9; refine (hwt _ hb2 _ hsrc).mono ?_; clear hwt; rintro e w4 ⟨rfl, hL3⟩)
                      | fail)
                    go_roundw
                    case rel => exact ⟨k + 1, m + 1, by omega, by go_num, by go_num, hL3⟩
                    case measure => simp [intOf]; omega
                  · have hcn : ¬ (k < lastOf q ∨ (m : Int) < K) := by rw [← HLA.out]; omega
                    have hrd := fun (W : World) (hb : Below wr.heap.size wr W) => HL.out.read (p := p) hb
                    have htn := fun (W : World) (hb : Below wr.heap.size wr W) (v : Value) (hv : Dk.Src W v ((wrp p).2.take (tornN T) ++ (blk (sink nul (ws (q.take k))) (wrp p).1).drop (tornN T))) => HL.out.torn hb hq40 hp hs hcn v hv
                    have hlen : (sink nul (ws (q.take k))).length = 64 * 8 := sink_length (n := 8) _ _ (by rw [nul, List.length_replicate]) (ws_good _)
                    have hbk : (blk (sink nul (ws (q.take k))) (wrp p).1).length = 64 := blk_length hlen (wrp_good p).1
                    obtain ⟨X, hX⟩ : ∃ X, X = blk (sink nul (ws (q.take k))) (wrp p).1 := ⟨_, rfl⟩
                    rw [← hX] at hbk htn hrd
                    clear hs hX hlen
                    go_wp2_with (first
                      | (go_at_call 10; refine hpk.mono ?_; clear hpk; rintro e w2 ⟨rfl, rfl⟩)
                      | (go_at_call 11; refine hby.mono ?_; clear hby; rintro e w3 ⟨v, rfl, hsrc, hb2⟩; obtain ⟨d0, d1⟩ := Hbx.out w3 (HL.out.two.below hb2).bel)
                      | (go_at_call 13; refine (hrd _ hb2).mono ?_; clear hrd; rintro e w4 ⟨rfl, hN4, hb4⟩)
                      | fail)
                    obtain ⟨g, hg⟩ : ∃ g, g = w3.heap.size := ⟨_, rfl⟩
                    rw [← hg] at hN4 hb4 ⊢
                    have HG : Hid (g = w3.heap.size) := hg
                    have HB2 : Hid (Below w2.heap.size w2 w3) := hb2
                    have hgw0 : w0.heap.size ≤ g := by rw [hg]; exact (HL.out.two.below hb2).le
                    have hw3 : Below w0.heap.size w0 w3 := (HL.out.two.below hb2).bel
                    have hfin : ∀ W : World, Below g w3 W → W.heap[g]? = some (.cells (Lib.byteCells ((wrp p).2.take (tornN T) ++ X.drop (tornN T))).toArray 5 (0, 0)) → Calls Try.prog 9 #[.pointer (some ⟨b, 0, none⟩), .int .i64 (Dk.pickN p.I 8), .slice (some ⟨g, 0, none⟩) 64 64] W fun e w' => e = .returned (.int .i64 0) ∧ ∃ W', Try.Fin w0.heap.size w0 w' a b (Dk.crashed q K T) (ofW W') := fun W hbW hN => by
                      refine htn W (HB2.out.trans (hbW.mono (by rw [hg]; exact HB2.out.size))) _ (Dk.src_whole hN ?_)
                      rw [List.length_append, List.length_take, List.length_drop, hbk, (wrp_good p).2]; unfold tornN; omega
                    obtain ⟨bs, hbs⟩ : ∃ bs, bs = Dk.bytesOf p.N p.C := ⟨_, rfl⟩
                    have hA : (wrp p).2 = pad bs := by rw [hbs]; exact rfl
                    have hbl : bs.length ≤ 64 := by rw [hbs]; exact Dk.bytesOf_len _ _
                    rw [← hbs] at hsrc
                    obtain ⟨ad2, cap2, hv2, hs2⟩ := hsrc.ex
                    subst hv2
                    obtain ⟨tn, htnn⟩ : ∃ tn, tn = tornN T := ⟨_, rfl⟩
                    have htn1 : ∀ i : Nat, i < tn ↔ i < 64 ∧ (i : Int) < T := fun i => by rw [htnn]; unfold tornN; omega
                    have htn64 : tn ≤ 64 := by rw [htnn]; exact Nat.min_le_right _ _
                    rw [hA, ← htnn] at hfin
                    clear htn hsrc hb2 hg hA hbs htnn d0 d1
                    go_loopw [20] (fun j wx => ∃ i : Nat, i ≤ tn ∧ j = .int .i64 i ∧ wx.heap[g]? = some (.cells (Lib.byteCells ((pad bs).take i ++ X.drop i)).toArray 5 (0, 0)) ∧ Below g w3 wx) (fun j _ => 64 - (intOf j).toNat)
                    case atStart => exact ⟨0, by omega, rfl, hN4, hb4⟩
                    case round =>
                      obtain ⟨i, hi, rfl, hNx, hbx⟩ := hrel
                      obtain ⟨-, d1⟩ := Hbx.out wr (hw3.trans (hbx.mono hgw0))
                      by_cases hit : i < tn
                      · obtain ⟨h64, hiT⟩ := (htn1 i).1 hit
                        have q3 : (i : Int) < 64 := by omega
                        obtain ⟨⟨u0, e0⟩, f0⟩ := Dk.was_cell hNx (by rw [pad_length hbl]) hbk h64
                        by_cases hib : i < bs.length
                        · have q4 : (i : Int) < (bs.length : Int) := by omega
                          rcases hs2 with hs2 | ⟨sb, so, rfl, hsb, hs2⟩
                          · rw [hs2] at hib; exact absurd hib (by simp)
                          · have hsg : sb ≠ g := by have := HG.out; omega
                            have e1 : wr.cell? ⟨sb, so + i, none⟩ = some (.int .u8 (bs[i].toNat)) := (hbx.cell (p := ⟨sb, so + i, none⟩) (by show sb < g; have := HG.out; omega)).trans (hs2 i _ (by simp [Lib.byteCells, hib]))
                            have Hn : Hid (((wr.setCell ⟨g, i, none⟩ (.int .u8 0)).setCell ⟨g, i, none⟩ (.int .u8 (bs[i].toNat))).heap[g]? = some (.cells (Lib.byteCells ((pad bs).take (i + 1) ++ X.drop (i + 1))).toArray 5 (0, 0))) := Dk.was_step2 hNx (by rw [pad_length hbl]) hbk h64 _ _ (by rw [pad, List.getElem?_append_left hib, List.getElem?_eq_getElem hib])
                            have Hb : Hid (Below g w3 ((wr.setCell ⟨g, i, none⟩ (.int .u8 0)).setCell ⟨g, i, none⟩ (.int .u8 (bs[i].toNat)))) := (hbx.setCell (by simp) _).setCell (by simp) _
                            go_wp2
                            go_roundw
                            case rel => exact ⟨i + 1, by omega, by go_num, Hn.out, Hb.out⟩
                            case measure => simp [intOf]; omega
                        · have q4 : ¬ (i : Int) < (bs.length : Int) := by omega
                          have Hn : Hid ((wr.setCell ⟨g, i, none⟩ (.int .u8 0)).heap[g]? = some (.cells (Lib.byteCells ((pad bs).take (i + 1) ++ X.drop (i + 1))).toArray 5 (0, 0))) := Dk.was_step hNx (by rw [pad_length hbl]) hbk h64 0 (by rw [pad, List.getElem?_append_right (by omega), List.getElem?_replicate, if_pos (by omega)])
                          have Hb : Hid (Below g w3 (wr.setCell ⟨g, i, none⟩ (.int .u8 0))) := hbx.setCell (by simp) _
                          go_wp2
                          go_roundw
                          case rel => exact ⟨i + 1, by omega, by go_num, Hn.out, Hb.out⟩
                          case measure => simp [intOf]; omega
                      · have hie : i = tn := by omega
                        have hni : ¬ (i < 64 ∧ (i : Int) < T) := fun h => hit ((htn1 i).2 h)
                        have hf6 := hfin wr hbx (by rw [← hie]; exact hNx)
                        clear hfin hNx hie
                        by_cases q3 : (i : Int) < 64
                        · have q4 : ¬ (i : Int) < T := by omega
                          go_wp2_with (first
                            | (go_at_call 9; refine hf6.mono ?_; clear hf6; rintro e w6 ⟨rfl, W', hF5⟩; have hsy := hF5.sync rfl (by show 1 < 1000000000; omega); clear hF5)
                            | (go_at_call 8; refine hsy.mono ?_; clear hsy; rintro e w6 ⟨rfl, hF6⟩)
                            | (go_at_call 16; refine hF6.wholeA.mono ?_; clear hF6; rintro e w7 ⟨rfl, hF7⟩)
                            | (go_at_call 16; refine hF7.wholeB.mono ?_; clear hF7; rintro e w8 ⟨rfl, hF8⟩)
                            | fail)
                          go_ret
                          exact ⟨rfl, hb0.trans (hF8.two.bel.mono hb0.size)⟩
                        · go_wp2_with (first
                            | (go_at_call 9; refine hf6.mono ?_; clear hf6; rintro e w6 ⟨rfl, W', hF5⟩; have hsy := hF5.sync rfl (by show 1 < 1000000000; omega); clear hF5)
                            | (go_at_call 8; refine hsy.mono ?_; clear hsy; rintro e w6 ⟨rfl, hF6⟩)
                            | (go_at_call 16; refine hF6.wholeA.mono ?_; clear hF6; rintro e w7 ⟨rfl, hF7⟩)
                            | (go_at_call 16; refine hF7.wholeB.mono ?_; clear hF7; rintro e w8 ⟨rfl, hF8⟩)
                            | fail)
                          go_ret
                          exact ⟨rfl, hb0.trans (hF8.two.bel.mono hb0.size)⟩
          · have q0 : ¬ (k : Int) < (q.length : Int) := by omega
            have hkk : k = q.length := by omega
            subst hkk
            have hF := hL.all
            have hsy := hF.sync rfl (by show 1 < 1000000000; omega)
            clear hL hF
            go_wp2_with (first
              | (go_at_call 8; refine hsy.mono ?_; clear hsy; rintro e w6 ⟨rfl, hF6⟩)
              | (go_at_call 16; refine hF6.wholeA.mono ?_; clear hF6; rintro e w7 ⟨rfl, hF7⟩)
              | (go_at_call 16; refine hF7.wholeB.mono ?_; clear hF7; rintro e w8 ⟨rfl, hF8⟩)
              | fail)
            go_ret
            exact ⟨rfl, hb0.trans (hF8.two.bel.mono hb0.size)⟩
end Go.Proofs
