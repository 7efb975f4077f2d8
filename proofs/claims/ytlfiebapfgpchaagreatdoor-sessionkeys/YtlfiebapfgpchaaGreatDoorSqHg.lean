/-
  Laid together by merge.py of Hg Hh Hi.
-/
import Derived.Test.YtlfiebapfgpchaaGreatDoorSqHf
import Derived.Test.YtlfiebapfgpchaaGreatDoorSqLq
import Derived.Deep.RegionHeld3
import Derived.Lib.LazyBuf
namespace Go.Proofs
open Go.RowKit Go.Wi Go.Dg
set_option maxRecDepth 20000 in
set_option maxHeartbeats 1000000 in
theorem Tryz.refSum_any (b : ByteArray) (hb : b.size ≤ 140737488355000) (w : World) :
    Calls Tryz.prog 79 #[.string b] w fun e w' => e = .returned (.string ⟨(Dg.sum b.toList).toArray⟩) ∧ Below w.heap.size w w' := by
  have hcv := Tryz.conv_sb2 b
  obtain ⟨l, hl⟩ : ∃ l, l = b.data.toList := ⟨_, rfl⟩
  have hll : l.length = b.size := by rw [hl]; rfl
  have Ho : Hid (Ob (Lib.bytesWorld w 5 b) w.heap.size (.slice (some ⟨w.heap.size, 0, none⟩) b.size (grownCap w b.size 0 5)) l) := by rw [hl]; exact Dg.bytesW_ob w 5 b (Nat.le_refl _)
  have Hb : Hid (Below w.heap.size w (Lib.bytesWorld w 5 b)) := Dg.bytesW_below w _ b
  have Hl : Hid (l = b.data.toList) := hl
  have Hll : Hid (l.length = b.size) := hll
  have Hlen : Hid (l.length + 1 ≤ 140737488355328) := (by show _ ≤ _; omega)
  clear hl hll
  go_enter Tryz.func79, Tryz.ntmps79
  go_wp2_with (first | (at_builtin; refine Tryz.appN rfl (.tmp 13) (.tmp 14) rfl (Ho.out.alloc _) (by have := Hb.out.size; simp; omega) rfl [128] 1 _ rfl rfl (by decide) _ rfl (heap_alloc_new _ _) Hlen.out ?_; intro ad1 cap1 w1 ho1 hw1; rw [Hll.out] at ho1 ⊢; have HO1 : Hid _ := ho1; have HB1 : Hid _ := Dg.ob_step2 Hb.out hw1 Ho.out; clear ho1 hw1) | fail)
  clear hcv Ho Hb Hlen
  obtain ⟨Z, hZ⟩ : ∃ Z, Z = Dg.zeros b.size := ⟨_, rfl⟩
  have hZ64 : Z < 64 := by rw [hZ]; unfold Dg.zeros; omega
  have HZ : Hid (Z = Dg.zeros b.size) := hZ
  clear hZ
  go_loopw [3] (fun v wr => ∃ (n N : Nat) (ad : Option Addr) (cap : Nat), v = .slice ad N cap ∧ Hid (N = b.size + 1 + n) ∧ n ≤ Z ∧ Hid (Ob wr w.heap.size v (l ++ [128] ++ List.replicate n 0)) ∧ Hid (Below w.heap.size w wr)) (fun v _ => b.size + 1 + Z - Dg.lenV v)
  case atStart => exact ⟨0, b.size + 1, ad1, cap1, rfl, rfl, by omega, by rw [List.replicate_zero, List.append_nil]; exact HO1, HB1⟩
  case round =>
    clear HO1 HB1
    obtain ⟨n, N, ad, cap, rfl, HN, hn, Ho, Hw⟩ := hrel
    by_cases hlt : n < Z
    · have t1 : ((N : Int) % 64 != 56) = true := by
        have h1 := Dg.zeros_not (n := b.size) (m := n) (by rw [← HZ.out]; exact hlt)
        have h2 := HN.out
        simp
        omega
      have Hlen : Hid ((l ++ [128] ++ List.replicate n 0).length + 1 ≤ 140737488355328) := (by show _ ≤ _; have := Hll.out; simp; omega)
      have Hnl : Hid ((l ++ [128] ++ List.replicate n 0).length = N) := (by show _ = _; have := Hll.out; have := HN.out; simp; omega)
      have Hsz : Hid (w.heap.size ≤ wr.heap.size) := Hw.out.size
      go_wp2_with (first | (at_builtin; refine Tryz.appN rfl (.tmp 20) (.tmp 21) rfl (Ho.out.alloc _) (by have := Hsz.out; simp; omega) rfl [0] 1 _ rfl rfl (by decide) _ rfl (heap_alloc_new _ _) Hlen.out ?_; intro ad2 cap2 w2 ho2 hw2; rw [Hnl.out] at ho2 ⊢; have HO2 : Hid _ := ho2; have HB2 : Hid _ := Dg.ob_step2 Hw.out hw2 Ho.out; clear ho2 hw2) | fail)
      go_roundw
      case rel =>
        refine ⟨n + 1, N + 1, ad2, cap2, rfl, ?_, by omega, ?_, HB2⟩
        · have := HN.out
          show _ = _
          omega
        · have := HO2
          rw [List.append_assoc, ← List.replicate_succ'] at this
          exact this
      case measure => have := HN.out; simp [Dg.lenV]; omega
    · have t1 : ((N : Int) % 64 != 56) = false := by
        have h1 := Dg.zeros_is b.size
        have h2 := HN.out
        have h3 := HZ.out
        simp
        omega
      obtain rfl : n = Z := by omega
      obtain ⟨T, hT⟩ : ∃ T : Nat, T = b.size * 8 := ⟨_, rfl⟩
      have e1 : IntKind.u64.wrap ((b.size : Int)) = (b.size : Int) := by rw [IntKind.wrap_u64]; omega
      have e2 : IntKind.u64.wrap ((b.size : Int) * 8) = (T : Int) := by rw [IntKind.wrap_u64]; omega
      have HT : Hid (T = b.size * 8) := hT
      clear hT
      obtain ⟨M, hM⟩ : ∃ M, M = l ++ [128] ++ List.replicate n 0 := ⟨_, rfl⟩
      rw [← hM] at Ho
      have HM : Hid (M = l ++ [128] ++ List.replicate n 0) := hM
      have hMN : M.length = N := by have := Hll.out; have := HN.out; rw [hM]; simp; omega
      have HMN : Hid (M.length = N) := hMN
      have hN2 : N ≤ 140737488355100 := by have := HN.out; omega
      have HN2 : Hid (N ≤ 140737488355100) := hN2
      clear hM hMN hN2
      go_wp2
      go_loopw [3, 5] (fun v atv wr => ∃ (t K : Nat) (A : Int) (ad : Option Addr) (cap : Nat), v = .slice ad K cap ∧ Hid (K = N + t) ∧ atv = .int .i64 A ∧ Hid (A = 56 - 8 * (t : Int)) ∧ t ≤ 8 ∧ Hid (Ob wr w.heap.size v (M ++ (be8 T).take t)) ∧ Hid (Below w.heap.size w wr)) (fun v _ _ => N + 8 - Dg.lenV v)
      case atStart => exact ⟨0, N, 56, ad, cap, rfl, rfl, rfl, rfl, by omega, by rw [List.take_zero, List.append_nil]; exact Ho, Hw⟩
      case round =>
        clear Ho Hw
        obtain ⟨t, K, A, ad2, cap2, rfl, HK, rfl, HA, ht, Ho, Hw⟩ := hrel
        by_cases hlt : t < 8
        · have q0 : (0 : Int) ≤ A := by have := HA.out; omega
          have Hlen : Hid ((M ++ (be8 T).take t).length + 1 ≤ 140737488355328) := (by show _ ≤ _; have := HMN.out; have := HN2.out; rw [List.length_append, List.length_take]; omega)
          have Hnl : Hid ((M ++ (be8 T).take t).length = K) := (by show _ = _; have := HMN.out; have := HK.out; rw [List.length_append, List.length_take]; simp [be8]; omega)
          have Hsz : Hid (w.heap.size ≤ wr.heap.size) := Hw.out.size
          have e4 : IntKind.i64.wrap (A - 8) = A - 8 := by have := HA.out; rw [IntKind.wrap_i64]; omega
          have Hcs : Hid _ := Dg.be8_cell T t A HA.out hlt
          go_wp2_with (first | (at_builtin; refine Tryz.appN rfl (.tmp 31) (.tmp 36) rfl (Ho.out.alloc _) (by have := Hsz.out; simp; omega) rfl [UInt8.ofNat (T / 2 ^ (56 - 8 * t))] 1 _ rfl rfl (by decide) _ Hcs.out (heap_alloc_new _ _) Hlen.out ?_; intro ad3 cap3 w3 ho3 hw3; rw [Hnl.out] at ho3 ⊢; have HO3 : Hid _ := ho3; have HB3 : Hid _ := Dg.ob_step2 Hw.out hw3 Ho.out; clear ho3 hw3) | fail)
          go_roundw
          case rel =>
            refine ⟨t + 1, K + 1, A - 8, ad3, cap3, rfl, ?_, by go_num, ?_, by omega, ?_, HB3⟩
            · have := HK.out
              show _ = _
              omega
            · have := HA.out
              show _ = _
              omega
            · have := HO3
              rw [List.append_assoc, ← Dg.be8_next T t hlt] at this
              exact this
          case measure =>
            have hk := HK.out
            show N + 8 - (K + 1) < N + 8 - K
            omega
        · have q0 : ¬ (0 : Int) ≤ A := by have := HA.out; omega
          obtain rfl : t = 8 := by omega
          have s8 : Dg.start.l.length = 8 := rfl
          have s64 : rounds.length = 64 := rfl
          go_wp2_with (first | (go_at_call 90; refine (Tryz.starts_any _).mono ?_; rintro z w4 ⟨rfl, hb4⟩; have HB4 : Hid _ := hb4; clear hb4; have st4 := Tryz.new8 w4 Dg.start.l rfl) | (go_at_call 91; refine (Tryz.rounds_any _).mono ?_; rintro z w5 ⟨rfl, hb5⟩; have HB5 : Hid _ := hb5; clear hb5; have st5 := Tryz.new64 w5 rounds rfl) | fail)
          have hs4 : wr.heap.size ≤ w4.heap.size := HB4.out.size
          have hs5 : w4.heap.size + 1 ≤ w5.heap.size := by have := HB5.out.size; simpa using this
          obtain ⟨g, rfl, hgB, hgl, hKc, HF⟩ : ∃ g, ad2 = some ⟨g, 0, none⟩ ∧ w.heap.size ≤ g ∧ g < wr.heap.size ∧ K ≤ cap2 ∧ Hid (Bs wr (.slice ad2 K cap2) (M ++ be8 T)) := by
            have e8 : (be8 T).take 8 = be8 T := rfl
            have h1 := Ho.out
            rw [e8] at h1
            have h2 := h1.bs
            rcases h1 with ⟨e, _⟩ | ⟨g, cap', e, f1, f2, f3, _⟩
            · injection e with e1 e2 e3
              have := HK.out
              have := HN.out
              omega
            · injection e with e1 e2 e3
              subst e3
              rw [e2]
              rw [e2] at h2
              exact ⟨g, e1, f1, f2, f3, h2⟩
          have hg4 : g < w4.heap.size := by omega
          obtain ⟨F, hF⟩ : ∃ F, F = M ++ be8 T := ⟨_, rfl⟩
          have HFe : Hid (F = M ++ be8 T) := hF
          have hFK : F.length = K := by have := HMN.out; have := HK.out; rw [hF, List.length_append]; simp [be8]; omega
          have HFK : Hid (F.length = K) := hFK
          have hK64 : K % 64 = 0 := by
            have h1 := Dg.zeros_is b.size
            have h2 := HN.out
            have h3 := HZ.out
            have h4 := HK.out
            omega
          have HLp : Hid (Tryz.Lp w w4.heap.size w5.heap.size (.slice (some ⟨g, 0, none⟩) K cap2) F Dg.start (w5.alloc (.cells (rounds.map fun (n : Nat) => Value.int .u32 (n : Int)).toArray 183))) := by
            have hb1 := (Below.refl w4.heap.size w4).alloc (Nat.le_refl _) (.cells (Dg.start.l.map fun (n : Nat) => Value.int .u32 (n : Int)).toArray 157)
            have hb2 := (Below.refl w5.heap.size w5).alloc (Nat.le_refl _) (.cells (rounds.map fun (n : Nat) => Value.int .u32 (n : Int)).toArray 183)
            have hb3 : Below wr.heap.size wr (w5.alloc (.cells (rounds.map fun (n : Nat) => Value.int .u32 (n : Int)).toArray 183)) := ((HB4.out.trans (hb1.mono hs4)).trans (HB5.out.mono (by rw [World.size_alloc]; omega))).trans (hb2.mono (by omega))
            refine ⟨?_, heap_alloc_new w5 _, ?_, Hw.out.trans (hb3.mono Hw.out.size)⟩
            · exact (hb2.block _ (by omega)).trans ((HB5.out.block _ (by rw [World.size_alloc]; omega)).trans (heap_alloc_new w4 _))
            · rw [hF]
              exact HF.out.below hb3 (fun k e => by cases e; exact hgl)
          obtain ⟨Tn, hTn⟩ : ∃ Tn, Tn = K / 64 := ⟨_, rfl⟩
          have HTn : Hid (K = 64 * Tn) := (by show _ = _; omega)
          have hcap : (K : Int) ≤ cap2 := by omega
          clear hTn hF hFK hK64 HF Ho Hw HB4 HB5 st4 st5 HA q0 t1 hlt
          go_loopw [8] (fun iv wr => ∃ (t I : Nat) (s : S8), iv = .int .i64 (I : Int) ∧ Hid (I = 64 * t) ∧ t ≤ Tn ∧ Hid (Small s.l) ∧ Hid (blks (Tn - t) (F.drop I) s = blks Tn F Dg.start) ∧ Hid (Tryz.Lp w w4.heap.size w5.heap.size (.slice (some ⟨g, 0, none⟩) K cap2) F s wr)) (fun iv _ => K - (intOf iv).toNat)
          case atStart => exact ⟨0, 0, Dg.start, rfl, rfl, by omega, Dg.small_start, rfl, HLp⟩
          case round =>
            clear HLp
            obtain ⟨t, I, s, rfl, HI, ht, Hs, Hbk, HL⟩ := hrel
            by_cases hlt : t < Tn
            · have q1 : (I : Int) < K := by have := HI.out; have := HTn.out; omega
              obtain ⟨J, hJ⟩ : ∃ J : Nat, J = I + 64 := ⟨_, rfl⟩
              have hKc2 : I + 64 ≤ K := by have h1 := HI.out; have h2 := HTn.out; omega
              have q2 : IntKind.i64.wrap ((I : Int) + 64) = (J : Int) := by have h3 := HK.out; have h4 := HN2.out; rw [IntKind.wrap_i64]; omega
              have c1 : (0 : Int) ≤ (J : Int) := by omega
              have c2 : (J : Int) ≤ (cap2 : Int) := by omega
              have c4 : I ≤ J := by omega
              have c5 : ¬ cap2 = I := by omega
              have c6 : J - I = 64 := by omega
              have hcv2 := Tryz.conv_bs (W := wr.drew) (Dg.bs_cut HL.out.m (I := I) (n := 64) (c := cap2 - I) (by rw [HFK.out]; exact hKc2) (by omega))
              have HIK : Hid (I + 64 ≤ K) := hKc2
              have HJ : Hid (J = I + 64) := hJ
              clear hJ hKc2
              go_wp2_with (fail)
              refine Dg.region_tail 8 (by kernel_rfl) (by kernel_rfl) ?_
              simp only [List.take_succ_cons, List.take_zero, List.drop_succ_cons, List.drop_zero]
              refine Dg.still_value rfl (Dg.run_load rfl rfl (Tryz.load8 (w := wr.drew) HL.out.s rfl)) ?_
              refine Dg.still_value rfl (Dg.run_load rfl rfl (Tryz.load64 (w := wr.drew) HL.out.k rfl)) ?_
              repeat still_step
              refine wpStill_nil ?_
              obtain ⟨m, hm⟩ : ∃ m : ByteArray, m = ⟨((F.drop I).take 64).toArray⟩ := ⟨_, rfl⟩
              have hml : m.toList = (F.drop I).take 64 := by rw [hm, ByteArray.toList_eq]
              have hm64 : m.size = 64 := by rw [← Dg.list_len, hml, List.length_take, List.length_drop, HFK.out]; have := HIK.out; omega
              have Hm64 : Hid (m.size = 64) := hm64
              have Hml : Hid (m.toList = (F.drop I).take 64) := hml
              rw [← hm]
              clear hcv2 hm hml hm64 c1 c2 c4 c5 c6
              go_wp2_with (fail)
              refine (Tryz.block_any s m Hm64.out Hs.out wr.drew).mono ?_
              rintro z w6 ⟨rfl, hb6⟩
              obtain ⟨s', hs'⟩ : ∃ s', s' = blk s m.toList := ⟨_, rfl⟩
              rw [← hs']
              have hs'2 : Small s'.l := by rw [hs']; exact Dg.small_blk _ _
              have Hs'2 : Hid (Small s'.l) := hs'2
              have Hs' : Hid (blks (Tn - (t + 1)) (F.drop J) s' = blks Tn F Dg.start) := (by show _ = _; rw [hs', ← Hbk.out, Hml.out]; exact Dg.blks_next hlt HJ.out)
              have l8 : s'.l.length = 8 := rfl
              clear hs' hs'2 Hml
              have hA6 : Dg.Ar 157 w6 w4.heap.size s.l := HL.out.s.keep (hb6.block w4.heap.size (show w4.heap.size < wr.heap.size from HL.out.s.one))
              have st6 := Tryz.over8 hA6 rfl s'.l rfl
              have HB6 : Hid _ := hb6
              have HA6 : Hid _ := hA6
              clear hb6 hA6
              go_wp2
              go_roundw
              case rel =>
                refine ⟨t + 1, J, s', rfl, ?_, by omega, Hs'2, Hs', ?_⟩
                · have h1 := HI.out
                  have h2 := HJ.out
                  show _ = _
                  omega
                · have h7 := HL.out
                  have h8 : Below wr.heap.size wr w6 := ⟨HB6.out.os, HB6.out.tape, HB6.out.output, HB6.out.size, HB6.out.block⟩
                  have h9 : Dg.Ar 183 w6 w5.heap.size rounds := h7.k.keep (h8.block w5.heap.size (show w5.heap.size < wr.heap.size from h7.k.one))
                  refine ⟨Dg.Ar.setRow HA6.out _, h9.keep (setRow_other _ _ _ _ (by omega)), ?_, below_setRow (h7.b.trans (h8.mono h7.b.size)) (by omega) _⟩
                  exact (h7.m.below h8 (fun k e => by cases e; have := h7.s.one; show g < wr.heap.size; omega)).keep fun k e => setRow_other _ _ _ _ (by cases e; show g ≠ _; omega)
              case measure =>
                have h1 := HJ.out
                have h2 := HIK.out
                simp [intOf]
                omega
            · have q1 : ¬ (I : Int) < K := by have h1 := HI.out; have h2 := HTn.out; omega
              obtain rfl : t = Tn := by omega
              have HF2 : Hid (out s = Dg.sum b.toList) := (by
                have h1 := Hbk.out
                have e1 : F = fill b.toList := by
                  rw [HFe.out, HM.out, HT.out]
                  unfold fill
                  have e2 : b.toList = l := by rw [ByteArray.toList_eq, Hl.out]
                  have e3 : l.length = b.size := Hll.out
                  have e4 : n = (119 - b.size % 64) % 64 := HZ.out
                  rw [e2, e3, ← e4]
                have e5 : (fill b.toList).length / 64 = t := by
                  rw [← e1, HFK.out, HTn.out]
                  omega
                have e6 : blks (t - t) (F.drop I) s = s := by rw [Nat.sub_self]; rfl
                rw [e6] at h1
                show out s = out _
                rw [h1, e5, e1])
              clear Hbk HI
              go_wp2
              have HL0 : Hid _ := HL
              clear HL
              obtain ⟨W, hW⟩ : ∃ W, W = wr := ⟨_, rfl⟩
              have HAs : Hid (Dg.Ar 157 W w4.heap.size s.l) := by rw [hW]; exact HL0.out.s
              have HWb : Hid (Below w.heap.size w W) := by rw [hW]; exact HL0.out.b
              rw [← hW]
              clear hW HL0 wr
              go_loopw [9, 10] (fun v iv wr => ∃ (i N4 : Nat) (ad : Option Addr) (cap : Nat), v = .slice ad N4 cap ∧ Hid (N4 = 4 * i) ∧ iv = .int .i64 (i : Int) ∧ i ≤ 8 ∧ Hid (Ob wr W.heap.size v ((s.l.take i).flatMap wbytes)) ∧ Hid (Below W.heap.size W wr)) (fun _ iv _ => 8 - (intOf iv).toNat)
              case atStart => exact ⟨0, 0, none, 0, rfl, rfl, rfl, by omega, Ob.nil W _, Below.refl _ W⟩
              case round =>
                obtain ⟨i, N4, ad3, cap3, rfl, HN4, rfl, hi, Ho, Hw⟩ := hrel
                by_cases hlt : i < 8
                · have q1 : (i : Int) < 8 := by omega
                  obtain ⟨x, hx⟩ : ∃ x, x = s.l[i]'hlt := ⟨_, rfl⟩
                  have hc : wr.cell? ⟨w4.heap.size, i, none⟩ = some (.int .u32 (x : Int)) := by
                    rw [hx, Hw.out.cell (p := ⟨w4.heap.size, i, none⟩) HAs.out.one]
                    exact HAs.out.cell hlt
                  have hcA : ∀ o, (wr.alloc o).cell? ⟨w4.heap.size, i, none⟩ = some (.int .u32 (x : Int)) := fun o => by
                    rw [((Below.refl wr.heap.size wr).alloc (Nat.le_refl _) o).cell (p := ⟨w4.heap.size, i, none⟩) (Nat.lt_of_lt_of_le HAs.out.one Hw.out.size)]
                    exact hc
                  have HX : Hid (x = s.l[i]'hlt) := hx
                  have Hcs : Hid (#[Value.int .u8 ((x : Int) / 16777216 % 256), Value.int .u8 ((x : Int) / 65536 % 256), Value.int .u8 ((x : Int) / 256 % 256), Value.int .u8 ((x : Int) % 256)] = (Lib.byteCells (wbytes x)).toArray) := Dg.wbytes_cells x
                  have Hlt : Hid (∀ o, w4.heap.size < (wr.alloc o).heap.size) := (fun o => by have := Hw.out.size; have := HAs.out.one; simp; omega)
                  have Hne : Hid (¬ (Value.slice ad3 N4 cap3).ownBlock = some w4.heap.size) := (fun e => by have := (Ho.out.lt _ e).1; have := HAs.out.one; omega)
                  have Hnl : Hid (((s.l.take i).flatMap wbytes).length = N4) := (by show _ = _; rw [HN4.out, Dg.wbytes_len, List.length_take, show s.l.length = 8 from rfl]; omega)
                  have Hlen : Hid (((s.l.take i).flatMap wbytes).length + (wbytes x).length ≤ 140737488355328) := (by show _ ≤ _; rw [Hnl.out, HN4.out, show (wbytes x).length = 4 from rfl]; omega)
                  have Hsz : Hid (W.heap.size ≤ wr.heap.size) := Hw.out.size
                  clear hx
                  go_wp2_with (fail)
                  go_region_held3 (fun W' => W'.cell? ⟨w4.heap.size, i, none⟩ = some (.int .u32 (x : Int))) (first | exact hc | exact hcA _ | exact hc1) (first
                    | (refine Tryz.stepN (by rfl) (.tmp 59) (.tmp 79) (by rfl) (B := W.heap.size) (V := .slice ad3 N4 cap3) (l := (s.l.take i).flatMap wbytes) (Ho.out.alloc _).drew (by have := Hsz.out; simp; omega) (by rfl) (wbytes x) 4 wr.heap.size (by rfl) rfl (by decide) _ Hcs.out (heap_alloc_new wr _) Hlen.out ?_; intro ad4 cap4 w7 ho7 hw7; have hc1 : w7.cell? ⟨w4.heap.size, i, none⟩ = some (.int .u32 (x : Int)) := (World.cell?_of_block (hw7.block w4.heap.size (Hlt.out _) Hne.out)).trans (hcA _); rw [Hnl.out] at ho7 ⊢; have HO7 : Hid _ := ho7; have HB7 : Hid _ := Dg.ob_step Hw.out hw7 Ho.out; clear ho7 hw7))
                  all_goals
                    clear hc hcA hc1 Hcs Hlt Hne Hlen
                    go_wp2
                    go_roundw
                    case rel =>
                      refine ⟨i + 1, N4 + 4, ad4, cap4, rfl, ?_, by go_num, by omega, ?_, HB7⟩
                      · have h1 := HN4.out
                        show _ = _
                        omega
                      · have h1 := HO7.out
                        rw [HX.out, ← Dg.flat_next s.l i hlt] at h1
                        exact h1
                    case measure => simp [intOf]; omega
                · have q1 : ¬ (i : Int) < 8 := by omega
                  obtain rfl : i = 8 := by omega
                  have hcv3 := Tryz.conv_bs Ho.out.bs
                  go_wp2
                  go_ret
                  refine ⟨?_, HWb.out.trans (Hw.out.mono HWb.out.size)⟩
                  rw [← HF2.out]
                  rfl
end Go.Proofs

namespace Go.Dg
open Go.RowKit Go.Wi
theorem Ob.cell {w : World} {B g n cap : Nat} {l : List UInt8} (h : Ob w B (.slice (some ⟨g, 0, none⟩) n cap) l) {i : Nat} (hi : i < l.length) : w.cell? ⟨g, i, none⟩ = some (.int .u8 (l[i].toNat : Nat)) ∧ w.frozen? ⟨g, i, none⟩ = false := by
  rcases h with ⟨e, _⟩ | ⟨g', cap', e, h1, h2, h3, h4, h5⟩
  · injection e with e1; cases e1
  · injection e with e1 e2 e3
    injection e1 with e1
    injection e1 with e1
    subst e1
    exact ⟨h4 i _ (byteCell hi), (h5 i (by omega)).2⟩
theorem Ob.set {w : World} {B g n cap : Nat} {l : List UInt8} (h : Ob w B (.slice (some ⟨g, 0, none⟩) n cap) l) (i : Nat) (c : UInt8) (v : Int) (hv : v = (c.toNat : Nat)) (hi : i < l.length) : Ob (w.setCell ⟨g, i, none⟩ (.int .u8 v)) B (.slice (some ⟨g, 0, none⟩) n cap) (l.set i c) := by
  subst hv
  rcases h with ⟨e, _⟩ | ⟨g', cap', e, h1, h2, h3, h4, h5⟩
  · injection e with e1; cases e1
  · injection e with e1 e2 e3
    injection e1 with e1
    injection e1 with e1
    subst e1 e3
    obtain ⟨u0, hu0⟩ := Option.isSome_iff_exists.1 (h5 i (by omega)).1
    refine .inr ⟨g, cap, by rw [e2, List.length_set], h1, by simpa using h2, by rw [List.length_set]; exact h3, fun j u hu => ?_, fun j hj => ⟨?_, by rw [World.frozen?_setCell]; exact (h5 j hj).2⟩⟩
    · by_cases hji : j = i
      · subst hji
        rw [byteCell (by rw [List.length_set]; exact hi), List.getElem_set_self] at hu
        rw [World.cell?_setCell_same _ _ _ hu0]
        exact hu
      · rw [World.cell?_setCell_other _ _ _ _ (fun e => hji (by injection e with e1 e2; exact e2.symm))]
        refine h4 j u ?_
        have hj := (List.getElem?_eq_some_iff.1 hu).1
        rw [byteCells_len, List.length_set] at hj
        rw [byteCell (by rw [List.length_set]; exact hj), List.getElem_set_ne (Ne.symm hji)] at hu
        rw [byteCell hj]
        exact hu
    · by_cases hji : j = i
      · subst hji
        rw [World.cell?_setCell_same _ _ _ hu0]; rfl
      · rw [World.cell?_setCell_other _ _ _ _ (fun e => hji (by injection e with e1 e2; exact e2.symm))]
        exact (h5 j hj).1
end Go.Dg
namespace Go.Proofs
open Go.RowKit Go.Wi Go.Dg
theorem Dg.xor8 (x n : UInt8) : bits BinOp.xor IntKind.u8 (x.toNat : Int) (n.toNat : Int) = (((x ^^^ n).toNat : Nat) : Int) := by
  have h1 := x.toNat_lt
  have h2 := n.toNat_lt
  rw [u8_xor_nat _ _ h1 h2, UInt8.toNat_xor]
theorem Dg.with_next (b : ByteArray) (i : Nat) (n : UInt8) (h : i < b.size) {hl : i < (withB (b.toList.take i) n ++ b.toList.drop i).length} (x : UInt8) (hx : x = (withB (b.toList.take i) n ++ b.toList.drop i)[i]'hl) : (withB (b.toList.take i) n ++ b.toList.drop i).set i (x ^^^ n) = withB (b.toList.take (i + 1)) n ++ b.toList.drop (i + 1) := by
  have h0 : i < b.toList.length := by rw [Dg.list_len]; exact h
  have e1 : (withB (b.toList.take i) n).length = i := by simp only [withB, List.length_map, List.length_take]; omega
  have e2 : x = b.toList[i] := by
    rw [hx, List.getElem_append_right (by omega)]
    simp [e1]
  rw [List.set_append_right _ _ (by omega), e1, Nat.sub_self, List.drop_eq_getElem_cons h0, List.set_cons_zero, List.take_add_one, List.getElem?_eq_getElem h0, e2]
  simp only [withB, List.map_append, Option.toList_some, List.map_cons, List.map_nil, List.append_assoc, List.cons_append, List.nil_append]
set_option maxRecDepth 20000 in
set_option maxHeartbeats 1000000 in
theorem Tryz.refWith_any (b : ByteArray) (n : UInt8) (hb : b.size ≤ 140737488355000) (w : World) :
    Calls Tryz.prog 80 #[.string b, .int .u8 (n.toNat : Nat)] w fun e w' => e = .returned (.string ⟨(withB b.toList n).toArray⟩) ∧ Below w.heap.size w w' := by
  have hcv := Tryz.conv_sb2 b
  obtain ⟨cap, hcap⟩ : ∃ cap, cap = grownCap w b.size 0 5 := ⟨_, rfl⟩
  have Ho : Hid (Ob (Lib.bytesWorld w 5 b) w.heap.size (.slice (some ⟨w.heap.size, 0, none⟩) b.size cap) b.toList) := by rw [hcap, ByteArray.toList_eq]; exact Dg.bytesW_ob w 5 b (Nat.le_refl _)
  have Hb : Hid (Below w.heap.size w (Lib.bytesWorld w 5 b)) := Dg.bytesW_below w _ b
  go_enter Tryz.func80, Tryz.ntmps80
  go_wp2
  rw [← hcap]
  clear hcap hcv
  go_loopw [6] (fun iv wr => ∃ (i : Nat), iv = .int .i64 (i : Int) ∧ i ≤ b.size ∧ Hid (Ob wr w.heap.size (.slice (some ⟨w.heap.size, 0, none⟩) b.size cap) (withB (b.toList.take i) n ++ b.toList.drop i)) ∧ Hid (Below w.heap.size w wr)) (fun iv _ => b.size - (intOf iv).toNat)
  case atStart => exact ⟨0, rfl, by omega, Ho, Hb⟩
  case round =>
    clear Ho Hb
    obtain ⟨i, rfl, hi, Ho, Hw⟩ := hrel
    by_cases hlt : i < b.size
    · have q1 : (i : Int) < b.size := by omega
      have hl : i < (withB (b.toList.take i) n ++ b.toList.drop i).length := by
        have := Dg.list_len b
        simp only [withB, List.length_append, List.length_map, List.length_take, List.length_drop]
        omega
      obtain ⟨hc, hf⟩ := Ho.out.cell hl
      obtain ⟨x, hx⟩ : ∃ x, x = (withB (b.toList.take i) n ++ b.toList.drop i)[i]'hl := ⟨_, rfl⟩
      rw [← hx] at hc
      have HX : Hid (x = (withB (b.toList.take i) n ++ b.toList.drop i)[i]'hl) := hx
      clear hx
      go_wp2
      go_roundw
      case rel =>
        refine ⟨i + 1, by go_num, by omega, ?_, Hw.out.setCell (p := ⟨w.heap.size, i, none⟩) (Nat.le_refl _) _⟩
        have h1 := Ho.out.set i (x ^^^ n) _ (Dg.xor8 x n) hl
        rw [Dg.with_next b i n hlt x HX.out] at h1
        exact h1
      case measure => simp [intOf]; omega
    · have q1 : ¬ (i : Int) < b.size := by omega
      obtain rfl : i = b.size := by omega
      have hcv := Tryz.conv_bs Ho.out.bs
      go_wp2
      go_ret
      refine ⟨?_, Hw.out⟩
      rw [List.take_of_length_le (by rw [Dg.list_len]; omega), List.drop_of_length_le (by rw [Dg.list_len]; omega), List.append_nil]
      rfl
theorem Tryz.makeZ {ops : Array Oper} {rest : List Oper} {o : Oper} {a : Act} {Q : Exit → Act → World → Prop} {w : World} (hgd : o.guard = none) (l c : Operand) (hop : o.op = Op.makeSlice 29 l c)
    (L : Int) (n : Nat) (hl : a.eval l = .int .i64 L) (hc : a.eval c = .int .i64 L) (hL : L = (n : Int)) (hn : n ≤ 140737488355328)
    (hK : ∀ w', Ob w' w.heap.size (.slice (some ⟨w.heap.size, 0, none⟩) n n) (List.replicate n 0) → Below w.heap.size w w' → wpList Tryz.prog ops Q rest (a.put o.dst (.slice (some ⟨w.heap.size, 0, none⟩) n n)) w') : wpList Tryz.prog ops Q (o :: rest) a w := by
  obtain ⟨i0, hi0, hz0, hz1, hz2⟩ := info_parts Tryz.info8
  refine wpList_make_full w hgd l c 29 hop w.heap.size 5 i0 (.int .u8 0) 1 Tryz.underlying29 hi0 hz0 hz1 .i64 .i64 L L n hl hc hL hL (by rw [hz2]; omega) (by unfold maxLen; omega) (Nat.le_refl _) ?_
  intro w' hown hg
  refine hK w' ?_ ((Below.refl _ w).grown hg (Nat.le_refl _) fun k e => by cases e)
  have e2 : (madeCells (Value.int .u8 0).cells (n * 1)).toList = Lib.byteCells (List.replicate n 0) := by
    rw [show (Value.int .u8 0).cells = #[.int .u8 0] from rfl, toList_madeCells_one, Nat.mul_one]
    simp [Lib.byteCells]
  refine Ob.ofRow (n := n) (T := 5) ?_
  rw [← e2]
  exact hown
theorem Dg.app_list (x y : ByteArray) : (x ++ y).toList = x.toList ++ y.toList := by
  simp [ByteArray.toList_eq]
theorem Dg.zeros_list (n : Nat) : (⟨Array.replicate n 0⟩ : ByteArray).toList = List.replicate n 0 := by rw [ByteArray.toList_eq]; simp
theorem Dg.of_list (l : List UInt8) : (⟨l.toArray⟩ : ByteArray).toList = l := by rw [ByteArray.toList_eq]
theorem Dg.of_size (l : List UInt8) : (⟨l.toArray⟩ : ByteArray).size = l.length := rfl
theorem Dg.sum_len (b : List UInt8) : (Dg.sum b).length = 32 := by
  unfold Dg.sum out
  rw [Dg.wbytes_len]
  rfl
theorem Dg.key64_long {k : List UInt8} (h : 64 < k.length) : key64 k = Dg.sum k ++ List.replicate 32 0 := by
  unfold key64
  rw [if_pos h]
  show Dg.sum k ++ List.replicate (64 - (Dg.sum k).length) 0 = _
  rw [Dg.sum_len]
theorem Dg.key64_short {k : List UInt8} (h : ¬ 64 < k.length) : key64 k = k ++ List.replicate (64 - k.length) 0 := by
  unfold key64
  rw [if_neg h]
theorem Dg.key64_len (k : List UInt8) : (key64 k).length = 64 := by
  unfold key64
  have := Dg.sum_len k
  split
  · simp [this]
  · simp; omega
set_option maxRecDepth 20000 in
set_option maxHeartbeats 1000000 in
theorem Tryz.refMac_any (key b : ByteArray) (hk : key.size ≤ 140737488355000) (hb : b.size ≤ 140737488354900) (w : World) :
    Calls Tryz.prog 62 #[.string key, .string b] w fun e w' => e = .returned (.string ⟨(mac key.toList b.toList).toArray⟩) ∧ Below w.heap.size w w' := by
  go_enter Tryz.func62, Tryz.ntmps62
  by_cases h64 : 64 < key.size
  · have q1 : (64 : Int) < key.size := by omega
    obtain ⟨k0, hk0⟩ : ∃ k0 : ByteArray, k0 = ⟨(Dg.sum key.toList).toArray⟩ := ⟨_, rfl⟩
    have hk0s : k0.size = 32 := by rw [hk0, Dg.of_size, Dg.sum_len]
    have hkl0 : key64 key.toList = k0.toList ++ List.replicate 32 0 := by
      rw [Dg.key64_long (by rw [Dg.list_len]; exact h64), hk0, Dg.of_list (Dg.sum key.toList)]
    have HC : Hid (∀ W, Calls Tryz.prog 79 #[.string key] W fun e w' => e = .returned (.string k0) ∧ Below W.heap.size W w') := (fun W => by rw [hk0]; exact Tryz.refSum_any key hk W)
    have HK0 : Hid (key64 key.toList = k0.toList ++ List.replicate 32 0) := hkl0
    obtain ⟨Z, hZ⟩ : ∃ Z : Nat, Z = 32 := ⟨_, rfl⟩
    have q2 : (64 : Int) - k0.size = (Z : Int) := by omega
    have HZ : Hid (Z = 32) := hZ
    have hZ2 : Z ≤ 64 := by omega
    have HK0s : Hid (k0.size = 32) := hk0s
    clear hZ hk0 hkl0 hk0s
    go_wp2_with (first | (go_at_call 79; refine (HC.out _).mono ?_; clear HC; rintro z w0 ⟨rfl, hb0⟩; have HB0 : Hid _ := hb0; clear hb0) | (refine Tryz.makeZ rfl _ _ rfl _ Z rfl rfl rfl (by omega) ?_; intro w1 ho1 hb1; have hcv := Tryz.conv_bs ho1.bs; clear ho1; have HB1 : Hid _ := hb1; clear hb1) | fail)
    obtain ⟨kk, hkk⟩ : ∃ kk : ByteArray, kk = k0 ++ ⟨Array.replicate Z 0⟩ := ⟨_, rfl⟩
    have hkl : kk.toList = key64 key.toList := by rw [hkk, Dg.app_list, HK0.out, HZ.out, Dg.zeros_list]
    have hks : kk.size = 64 := by rw [← Dg.list_len, hkl]; exact Dg.key64_len _
    rw [← hkk]
    clear hkk
    obtain ⟨X, hX⟩ : ∃ X : ByteArray, X = ⟨(withB kk.toList 92).toArray⟩ := ⟨_, rfl⟩
    obtain ⟨Y, hY⟩ : ∃ Y : ByteArray, Y = ⟨(withB kk.toList 54).toArray⟩ := ⟨_, rfl⟩
    have hXl : X.toList = withB (key64 key.toList) 92 := by rw [hX, Dg.of_list, hkl]
    have hYl : Y.toList = withB (key64 key.toList) 54 := by rw [hY, Dg.of_list, hkl]
    have hXs : X.size = 64 := by rw [← Dg.list_len, hXl, withB, List.length_map]; exact Dg.key64_len _
    have hYs : Y.size = 64 := by rw [← Dg.list_len, hYl, withB, List.length_map]; exact Dg.key64_len _
    have c92 : ∀ W, Calls Tryz.prog 80 #[.string kk, .int .u8 92] W fun e w' => e = .returned (.string X) ∧ Below W.heap.size W w' := fun W => by rw [hX]; exact Tryz.refWith_any kk 92 (by omega) W
    have c54 : ∀ W, Calls Tryz.prog 80 #[.string kk, .int .u8 54] W fun e w' => e = .returned (.string Y) ∧ Below W.heap.size W w' := fun W => by rw [hY]; exact Tryz.refWith_any kk 54 (by omega) W
    obtain ⟨S, hS⟩ : ∃ S : ByteArray, S = ⟨(Dg.sum (Y ++ b).toList).toArray⟩ := ⟨_, rfl⟩
    have hSs : S.size = 32 := by rw [hS, Dg.of_size, Dg.sum_len]
    have cS : ∀ W, Calls Tryz.prog 79 #[.string (Y ++ b)] W fun e w' => e = .returned (.string S) ∧ Below W.heap.size W w' := fun W => by rw [hS]; exact Tryz.refSum_any (Y ++ b) (by rw [ByteArray.size_append]; omega) W
    have cT : ∀ W, Calls Tryz.prog 79 #[.string (X ++ S)] W fun e w' => e = .returned (.string ⟨(Dg.sum (X ++ S).toList).toArray⟩) ∧ Below W.heap.size W w' := fun W => Tryz.refSum_any (X ++ S) (by rw [ByteArray.size_append]; omega) W
    have HE : Hid (Dg.sum (X ++ S).toList = mac key.toList b.toList) := (by
      show _ = _
      unfold mac
      rw [Dg.app_list, hXl, hS, Dg.of_list (Dg.sum (Y ++ b).toList), Dg.app_list, hYl])
    clear hX hY hS hkl hXl hYl
    go_wp2_with (first
      | (go_at_call 80; refine (c92 _).mono ?_; clear c92; rintro z w2 ⟨rfl, hb2⟩; have HB2 : Hid _ := hb2; clear hb2)
      | (go_at_call 80; refine (c54 _).mono ?_; clear c54; rintro z w3 ⟨rfl, hb3⟩; have HB3 : Hid _ := hb3; clear hb3)
      | (go_at_call 79; refine (cS _).mono ?_; clear cS; rintro z w4 ⟨rfl, hb4⟩; have HB4 : Hid _ := hb4; clear hb4)
      | (go_at_call 79; refine (cT _).mono ?_; clear cT; rintro z w5 ⟨rfl, hb5⟩; have HB5 : Hid _ := hb5; clear hb5)
      | fail)
    go_ret
    refine ⟨by rw [← HE.out]; rfl, ?_⟩
    have b1 := HB0.out.trans (HB1.out.mono HB0.out.size)
    have b2 := b1.trans (HB2.out.mono b1.size)
    have b3 := b2.trans (HB3.out.mono b2.size)
    have b4 := b3.trans (HB4.out.mono b3.size)
    exact b4.trans (HB5.out.mono b4.size)
  · have q1 : ¬ (64 : Int) < key.size := by omega
    obtain ⟨Z, hZ⟩ : ∃ Z : Nat, Z = 64 - key.size := ⟨_, rfl⟩
    have q2 : (64 : Int) - key.size = (Z : Int) := by omega
    have HZ : Hid (Z = 64 - key.size) := hZ
    have hZ2 : Z ≤ 64 := by omega
    have hkl0 : key64 key.toList = key.toList ++ List.replicate (64 - key.size) 0 := by
      rw [Dg.key64_short (by rw [Dg.list_len]; exact h64), Dg.list_len]
    have HK0 : Hid (key64 key.toList = key.toList ++ List.replicate (64 - key.size) 0) := hkl0
    clear hZ hkl0
    go_wp2_with (first | (refine Tryz.makeZ rfl _ _ rfl _ Z rfl rfl rfl (by omega) ?_; intro w1 ho1 hb1; have hcv := Tryz.conv_bs ho1.bs; clear ho1; have HB1 : Hid _ := hb1; clear hb1) | fail)
    obtain ⟨kk, hkk⟩ : ∃ kk : ByteArray, kk = key ++ ⟨Array.replicate Z 0⟩ := ⟨_, rfl⟩
    have hkl : kk.toList = key64 key.toList := by rw [hkk, Dg.app_list, HK0.out, HZ.out, Dg.zeros_list]
    have hks : kk.size = 64 := by rw [← Dg.list_len, hkl]; exact Dg.key64_len _
    rw [← hkk]
    clear hkk
    obtain ⟨X, hX⟩ : ∃ X : ByteArray, X = ⟨(withB kk.toList 92).toArray⟩ := ⟨_, rfl⟩
    obtain ⟨Y, hY⟩ : ∃ Y : ByteArray, Y = ⟨(withB kk.toList 54).toArray⟩ := ⟨_, rfl⟩
    have hXl : X.toList = withB (key64 key.toList) 92 := by rw [hX, Dg.of_list, hkl]
    have hYl : Y.toList = withB (key64 key.toList) 54 := by rw [hY, Dg.of_list, hkl]
    have hXs : X.size = 64 := by rw [← Dg.list_len, hXl, withB, List.length_map]; exact Dg.key64_len _
    have hYs : Y.size = 64 := by rw [← Dg.list_len, hYl, withB, List.length_map]; exact Dg.key64_len _
    have c92 : ∀ W, Calls Tryz.prog 80 #[.string kk, .int .u8 92] W fun e w' => e = .returned (.string X) ∧ Below W.heap.size W w' := fun W => by rw [hX]; exact Tryz.refWith_any kk 92 (by omega) W
    have c54 : ∀ W, Calls Tryz.prog 80 #[.string kk, .int .u8 54] W fun e w' => e = .returned (.string Y) ∧ Below W.heap.size W w' := fun W => by rw [hY]; exact Tryz.refWith_any kk 54 (by omega) W
    obtain ⟨S, hS⟩ : ∃ S : ByteArray, S = ⟨(Dg.sum (Y ++ b).toList).toArray⟩ := ⟨_, rfl⟩
    have hSs : S.size = 32 := by rw [hS, Dg.of_size, Dg.sum_len]
    have cS : ∀ W, Calls Tryz.prog 79 #[.string (Y ++ b)] W fun e w' => e = .returned (.string S) ∧ Below W.heap.size W w' := fun W => by rw [hS]; exact Tryz.refSum_any (Y ++ b) (by rw [ByteArray.size_append]; omega) W
    have cT : ∀ W, Calls Tryz.prog 79 #[.string (X ++ S)] W fun e w' => e = .returned (.string ⟨(Dg.sum (X ++ S).toList).toArray⟩) ∧ Below W.heap.size W w' := fun W => Tryz.refSum_any (X ++ S) (by rw [ByteArray.size_append]; omega) W
    have HE : Hid (Dg.sum (X ++ S).toList = mac key.toList b.toList) := (by
      show _ = _
      unfold mac
      rw [Dg.app_list, hXl, hS, Dg.of_list (Dg.sum (Y ++ b).toList), Dg.app_list, hYl])
    clear hX hY hS hkl hXl hYl
    go_wp2_with (first
      | (go_at_call 80; refine (c92 _).mono ?_; clear c92; rintro z w2 ⟨rfl, hb2⟩; have HB2 : Hid _ := hb2; clear hb2)
      | (go_at_call 80; refine (c54 _).mono ?_; clear c54; rintro z w3 ⟨rfl, hb3⟩; have HB3 : Hid _ := hb3; clear hb3)
      | (go_at_call 79; refine (cS _).mono ?_; clear cS; rintro z w4 ⟨rfl, hb4⟩; have HB4 : Hid _ := hb4; clear hb4)
      | (go_at_call 79; refine (cT _).mono ?_; clear cT; rintro z w5 ⟨rfl, hb5⟩; have HB5 : Hid _ := hb5; clear hb5)
      | fail)
    go_ret
    refine ⟨by rw [← HE.out]; rfl, ?_⟩
    have b1 := HB1.out
    have b2 := b1.trans (HB2.out.mono b1.size)
    have b3 := b2.trans (HB3.out.mono b2.size)
    have b4 := b3.trans (HB4.out.mono b3.size)
    exact b4.trans (HB5.out.mono b4.size)
end Go.Proofs

namespace Go.Dg
open Go.RowKit Go.Wi
theorem Ob.take {w : World} {B g n cap : Nat} {l : List UInt8} (h : Ob w B (.slice (some ⟨g, 0, none⟩) n cap) l) (m : Nat) (hm : m ≤ l.length) : Ob w B (.slice (some ⟨g, 0, none⟩) m cap) (l.take m) := by
  rcases h with ⟨e, _⟩ | ⟨g', cap', e, h1, h2, h3, h4, h5⟩
  · injection e with e1; cases e1
  · injection e with e1 e2 e3
    injection e1 with e1
    injection e1 with e1
    subst e1 e3
    have hl : (l.take m).length = m := by rw [List.length_take]; omega
    refine .inr ⟨g, cap, by rw [hl], h1, h2, by omega, fun j u hu => ?_, h5⟩
    refine h4 j u ?_
    simp only [Lib.byteCells, List.getElem?_map, List.getElem?_take] at hu ⊢
    split at hu
    · exact hu
    · cases hu
theorem Ob.spare {w : World} {B g n cap : Nat} {l : List UInt8} (h : Ob w B (.slice (some ⟨g, 0, none⟩) n cap) l) : ∀ j, j < cap → (w.cell? ⟨g, j, none⟩).isSome = true ∧ w.frozen? ⟨g, j, none⟩ = false := by
  rcases h with ⟨e, _⟩ | ⟨g', cap', e, h1, h2, h3, h4, h5⟩
  · injection e with e1; cases e1
  · injection e with e1 e2 e3
    injection e1 with e1
    injection e1 with e1
    subst e1 e3
    exact h5
/-- Bytes laid over the first ones. -/
theorem Ob.over {w : World} {B g n cap : Nat} {l : List UInt8} (h : Ob w B (.slice (some ⟨g, 0, none⟩) n cap) l) (xs : List UInt8) (hx : xs.length ≤ l.length) : Ob (w.setCells g 0 (Lib.byteCells xs)) B (.slice (some ⟨g, 0, none⟩) n cap) (xs ++ l.drop xs.length) := by
  rcases h with ⟨e, _⟩ | ⟨g', cap', e, h1, h2, h3, h4, h5⟩
  · injection e with e1; cases e1
  · injection e with e1 e2 e3
    injection e1 with e1
    injection e1 with e1
    subst e1 e3
    have hl : (xs ++ l.drop xs.length).length = l.length := by rw [List.length_append, List.length_drop]; omega
    have hbl := byteCells_len xs
    refine .inr ⟨g, cap, by rw [hl, e2], h1, Nat.lt_of_lt_of_le h2 (Go.Proofs.Dg.setCells_wo g (Lib.byteCells xs) 0 w).size, by rw [hl]; exact h3, fun j u hu => ?_, fun j hj => ⟨World.isSome_setCells g _ _ w _ (h5 j hj).1, by rw [World.frozen?_setCells]; exact (h5 j hj).2⟩⟩
    by_cases hj : j < xs.length
    · have := World.cell?_setCells_in g (Lib.byteCells xs) 0 w (fun i hi => (h5 _ (by omega)).1) j (by omega)
      rw [Nat.zero_add] at this
      rw [this, ← hu, byteCells_app, List.getElem?_append_left (by omega), List.getElem?_eq_getElem]
    · rw [World.cell?_setCells_out g _ _ w _ (fun _ _ => .inr (by show 0 + _ ≤ j; omega))]
      refine h4 j u ?_
      rw [byteCells_app, List.getElem?_append_right (by omega), byteCells_len] at hu
      simp only [Lib.byteCells, List.getElem?_map, List.getElem?_drop] at hu ⊢
      rw [show xs.length + (j - xs.length) = j by omega] at hu
      exact hu
end Go.Dg
namespace Go.Proofs
open Go.RowKit Go.Wi Go.Dg
theorem Tryz.szu8 : ∀ w, (Go.sizeOf 5).run Tryz.prog w = .ok 1 w := by
  have : (Tryz.prog.info? 5).map (·.size) = some 1 := by kernel_rfl
  intro w
  cases h : Tryz.prog.info? 5 with
  | none => rw [h] at this; cases this
  | some i =>
    rw [h] at this
    simp at this
    simp [Go.sizeOf, typeInfo, h, this]
theorem Tryz.copy_s {w : World} {B g N : Nat} {l : List UInt8} (h : Ob w B (.slice (some ⟨g, 0, none⟩) N N) l) {s : ByteArray} (hs : s.size ≤ N) (ty : TypeId) :
    (Builtin.copy_ #[29, 9] ty #[.slice (some ⟨g, 0, none⟩) N N, .string s]).run Tryz.prog w = .ok (goInt s.size) (w.setCells g 0 (Lib.byteCells s.toList)) := by
  rw [ByteArray.toList_eq]
  exact run_copy_string (P := Tryz.prog) w 29 9 ty 5 g 0 N N s Tryz.underlying29 Tryz.szu8 hs (fun j hj => by rw [Nat.zero_add]; exact (h.spare j (by omega)).1) (fun j hj => by rw [Nat.zero_add]; exact (h.spare j (by omega)).2)
theorem Dg.lent_next (s : ByteArray) (i N : Nat) (h1 : s.size ≤ i) (h2 : i < N) : (s.toList ++ (List.replicate (i - s.size) 201 ++ List.replicate (N - i) 0)).set i 201 = s.toList ++ (List.replicate (i + 1 - s.size) (201 : UInt8) ++ List.replicate (N - (i + 1)) 0) := by
  have hl := Dg.list_len s
  rw [List.set_append_right _ _ (by omega), hl, List.set_append_right _ _ (by rw [List.length_replicate]; omega), List.length_replicate, Nat.sub_self, show N - i = (N - (i + 1)) + 1 by omega, List.replicate_succ, List.set_cons_zero, show i + 1 - s.size = (i - s.size) + 1 by omega, List.replicate_succ', List.append_assoc]
  rfl
theorem Dg.mid (a l : List UInt8) (i : Nat) (ha : a.length = i) (h : i < l.length) {hl : i < (a ++ l.drop i).length} : (a ++ l.drop i)[i]'hl = l[i] := by
  rw [List.getElem_append_right (by omega), List.getElem_drop]
  simp [ha]
theorem Dg.turn_next (l : List UInt8) (i : Nat) (h : i < l.length) (x : UInt8) {hl : i < ((l.take i).map (· + 1) ++ l.drop i).length} (hx : x = ((l.take i).map (· + 1) ++ l.drop i)[i]'hl) : ((l.take i).map (· + 1) ++ l.drop i).set i (x + 1) = (l.take (i + 1)).map (· + 1) ++ l.drop (i + 1) := by
  have e1 : ((l.take i).map (· + 1)).length = i := by rw [List.length_map, List.length_take]; omega
  have e2 : x = l[i] := hx.trans (Dg.mid _ l i e1 h)
  rw [List.set_append_right _ _ (by omega), e1, Nat.sub_self, List.drop_eq_getElem_cons h, List.set_cons_zero, List.take_add_one, List.getElem?_eq_getElem h, e2]
  simp only [List.map_append, Option.toList_some, List.map_cons, List.map_nil, List.append_assoc, List.cons_append, List.nil_append]
theorem Dg.plus8 (x : UInt8) : ((x.toNat : Int) + 1) % 256 = (((x + 1).toNat : Nat) : Int) := by
  rw [UInt8.toNat_add]
  simp
end Go.Proofs
