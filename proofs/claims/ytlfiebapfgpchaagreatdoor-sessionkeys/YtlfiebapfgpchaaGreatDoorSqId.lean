/-
  Laid together by merge.py of Id.
-/
import Derived.Test.YtlfiebapfgpchaaGreatDoorSqIb
namespace Go.Proofs
open Go.RowKit Go.Wi Go.Dg
set_option maxRecDepth 20000 in
set_option maxHeartbeats 1000000 in
theorem Tryz.stir_any (s : S8) (m : List UInt8) (hm : m.length = 64) (hs : Small s.l) (w : World) (hT : Tryz.Tq w) :
    Calls Tryz.prog 82 #[.agg (s.l.map fun (n : Nat) => Value.int .u32 (n : Int)).toArray, .agg (Lib.byteCells m).toArray] w fun e w' => e = .returned (.agg ((blk s m).l.map fun (n : Nat) => Value.int .u32 (n : Int)).toArray) ∧ Below w.heap.size w w' := by
  have HT : Hid _ := hT
  clear hT
  go_enter Tryz.func82, Tryz.ntmps82
  go_upto_region 1 with (fail)
  obtain ⟨wa, hwa⟩ : ∃ wa, wa = ((w.alloc (.cells (s.l.map fun (n : Nat) => Value.int .u32 (n : Int)).toArray 158)).alloc (.cells (Lib.byteCells m).toArray 155)).alloc (.cells ((List.replicate 8 0).map fun (n : Nat) => Value.int .u32 (n : Int)).toArray 158) := ⟨_, rfl⟩
  have HA : Hid (Dg.Ar 158 wa w.heap.size s.l ∧ Dg.Br 155 wa (w.heap.size + 1) m ∧ Dg.Ar 158 wa (w.heap.size + 1 + 1) (List.replicate 8 0) ∧ Below w.heap.size w wa) := by
    rw [hwa]
    refine ⟨?_, ?_, ?_, ((((Below.refl _ w).alloc (Nat.le_refl _) _).alloc (by simp only [World.size_alloc]; omega) _).alloc (by simp only [World.size_alloc]; omega) _)⟩
    · exact (Below.heap_alloc _ _ _ (by simp only [World.size_alloc]; omega)).trans ((Below.heap_alloc _ _ _ (by simp only [World.size_alloc]; omega)).trans (heap_alloc_new w _))
    · have h := heap_alloc_new (w.alloc (.cells (s.l.map fun (n : Nat) => Value.int .u32 (n : Int)).toArray 158)) (.cells (Lib.byteCells m).toArray 155)
      rw [World.size_alloc] at h
      exact (Below.heap_alloc _ _ _ (by simp only [World.size_alloc]; omega)).trans h
    · have h := heap_alloc_new ((w.alloc (.cells (s.l.map fun (n : Nat) => Value.int .u32 (n : Int)).toArray 158)).alloc (.cells (Lib.byteCells m).toArray 155)) (.cells ((List.replicate 8 0).map fun (n : Nat) => Value.int .u32 (n : Int)).toArray 158)
      rw [World.size_alloc, World.size_alloc] at h
      exact h
  have hsa : wa.heap.size = w.heap.size + 1 + 1 + 1 := by rw [hwa]; simp only [World.size_alloc]
  refine wp_region_lit ?_
  refine Dg.step_value rfl (v := .agg (Lib.byteCells m).toArray) (w' := wa) ?_ ?_
  · have ld := Tryz.loadB HA.out.2.1 hm
    rw [hwa] at ld ⊢
    exact Dg.run_load rfl rfl ld
  clear hwa
  obtain ⟨W, hW⟩ : ∃ W, W = words m := ⟨_, rfl⟩
  have hWl : W.length = 64 := by rw [hW]; exact Dg.words_len m
  have hWs : Small W := by rw [hW]; exact Dg.words_small m
  have hsp := Tryz.spread_any m hm wa
  rw [← hW] at hsp
  have HWe : Hid (W = words m) := hW
  clear hW
  go_upto_region 2 with (go_at_call 93; refine hsp.mono ?_; clear hsp; rintro z wb ⟨rfl, hbb⟩; have HB : Hid _ := hbb; clear hbb; have st5 := Tryz.new64 wb W hWl)
  have hsb : w.heap.size + 1 + 1 + 1 ≤ wb.heap.size := by have := HB.out.size; omega
  obtain ⟨wq, hwq⟩ : ∃ wq, wq = wb.alloc (.cells (W.map fun (n : Nat) => Value.int .u32 (n : Int)).toArray 183) := ⟨_, rfl⟩
  have HS : Hid (Tryz.Sr w s.l wb.heap.size W wq) := by
    rw [hwq]
    have h1 : Below wa.heap.size wa (wb.alloc (.cells (W.map fun (n : Nat) => Value.int .u32 (n : Int)).toArray 183)) := HB.out.alloc (by omega) _
    exact ⟨HA.out.2.2.2.trans (h1.mono (by omega)), HA.out.1.keep (h1.block _ (by omega)), HA.out.2.2.1.keep (h1.block _ (by omega)), heap_alloc_new wb _⟩
  have hTq : Tryz.Tq wq := HT.out.below HS.out.b HT.out.sz
  rw [← hwq]
  clear hwq st5 HB HA hsa
  have hgN : w.heap.size + 1 + 1 < wb.heap.size := by omega
  generalize wb.heap.size = g at *
  have d0 : wq.cell? ⟨w.heap.size, 0, none⟩ = some (.int .u32 (s.a : Int)) := HS.out.s.cell (i := 0) (by simp [S8.l])
  have d1 : wq.cell? ⟨w.heap.size, 1, none⟩ = some (.int .u32 (s.b : Int)) := HS.out.s.cell (i := 1) (by simp [S8.l])
  have d2 : wq.cell? ⟨w.heap.size, 2, none⟩ = some (.int .u32 (s.c : Int)) := HS.out.s.cell (i := 2) (by simp [S8.l])
  have d3 : wq.cell? ⟨w.heap.size, 3, none⟩ = some (.int .u32 (s.d : Int)) := HS.out.s.cell (i := 3) (by simp [S8.l])
  have d4 : wq.cell? ⟨w.heap.size, 4, none⟩ = some (.int .u32 (s.e : Int)) := HS.out.s.cell (i := 4) (by simp [S8.l])
  have d5 : wq.cell? ⟨w.heap.size, 5, none⟩ = some (.int .u32 (s.f : Int)) := HS.out.s.cell (i := 5) (by simp [S8.l])
  have d6 : wq.cell? ⟨w.heap.size, 6, none⟩ = some (.int .u32 (s.g : Int)) := HS.out.s.cell (i := 6) (by simp [S8.l])
  have d7 : wq.cell? ⟨w.heap.size, 7, none⟩ = some (.int .u32 (s.h : Int)) := HS.out.s.cell (i := 7) (by simp [S8.l])
  have HTq : Hid _ := hTq
  clear hTq
  go_quiet (fail)
  have HS2 : Hid (Tryz.Sr w s.l g W (wq.drewN nq)) := HS.out.drewN nq
  have HT2 : Hid (Tryz.Tq (wq.drewN nq)) := ⟨HTq.out.sz, HTq.out.sq, HTq.out.cu⟩
  clear d0 d1 d2 d3 d4 d5 d6 d7 HS HTq
  generalize wq.drewN nq = wy at *
  go_wp2
  go_loopw [6, 7, 8, 9, 10, 11, 12, 13, 37] (fun va vb vc vd ve vf vg vh iv wr => ∃ (t : Nat) (v : S8), va = .int .u32 (v.a : Int) ∧ vb = .int .u32 (v.b : Int) ∧ vc = .int .u32 (v.c : Int) ∧ vd = .int .u32 (v.d : Int) ∧ ve = .int .u32 (v.e : Int) ∧ vf = .int .u32 (v.f : Int) ∧ vg = .int .u32 (v.g : Int) ∧ vh = .int .u32 (v.h : Int) ∧ iv = .int .i64 t ∧ t ≤ 64 ∧ Small v.l ∧ Hid (v = rnds ((rounds.zip W).take t) s) ∧ Hid (Tryz.Sr w s.l g W wr) ∧ Hid (Tryz.Tq wr)) (fun _ _ _ _ _ _ _ _ iv _ => 64 - (intOf iv).toNat)
  case atStart => exact ⟨0, s, rfl, rfl, rfl, rfl, rfl, rfl, rfl, rfl, rfl, by omega, hs, rfl, HS2, HT2⟩
  case round =>
    clear HS2 HT2
    obtain ⟨t, v, rfl, rfl, rfl, rfl, rfl, rfl, rfl, rfl, rfl, ht64, hvs, HVE, HS, HT⟩ := hrel
    by_cases ht : t < 64
    · have q1 : (t : Int) < 64 := by omega
      have q2 : (0 : Int) ≤ (t : Int) := by omega
      have q3 : (t : Int) + 1 ≤ 100 := by omega
      obtain ⟨l0, l1, l2, l3, l4, l5, l6, l7⟩ := S8.lt hvs
      have hrl : rounds.length = 64 := rfl
      have ck := HT.out.cu t ht
      have cw := HS.out.w.cell (i := t) (by omega)
      have hlk := small_rounds.get (i := t) (by omega)
      have hlw := hWs.get (i := t) (by omega)
      have hst := rnds_snoc ((rounds.zip W).take t) (rounds[t]'(by omega)) (W[t]'(by omega)) s
      rw [← zip_take (by omega) (by omega), ← HVE.out] at hst
      have HST : Hid _ := hst
      clear hst
      generalize rounds[t]'(by omega) = kt at *
      generalize W[t]'(by omega) = wt at *
      have te6 : ∀ Z, Calls Tryz.prog 94 #[.int .u32 (v.e : Int), .int .i64 6] Z fun e w' => e = .returned (.int .u32 ((rot v.e 6 : Nat) : Int)) ∧ ∃ m, w' = Z.drewN m := fun Z => Tryz.turn_any v.e 6 l4 (by decide) (by decide) Z
      have te11 : ∀ Z, Calls Tryz.prog 94 #[.int .u32 (v.e : Int), .int .i64 11] Z fun e w' => e = .returned (.int .u32 ((rot v.e 11 : Nat) : Int)) ∧ ∃ m, w' = Z.drewN m := fun Z => Tryz.turn_any v.e 11 l4 (by decide) (by decide) Z
      have te25 : ∀ Z, Calls Tryz.prog 94 #[.int .u32 (v.e : Int), .int .i64 25] Z fun e w' => e = .returned (.int .u32 ((rot v.e 25 : Nat) : Int)) ∧ ∃ m, w' = Z.drewN m := fun Z => Tryz.turn_any v.e 25 l4 (by decide) (by decide) Z
      have ta2 : ∀ Z, Calls Tryz.prog 94 #[.int .u32 (v.a : Int), .int .i64 2] Z fun e w' => e = .returned (.int .u32 ((rot v.a 2 : Nat) : Int)) ∧ w' = Z := fun Z => Tryz.turn_same v.a 2 l0 (by decide) (by decide) Z
      have ta13 : ∀ Z, Calls Tryz.prog 94 #[.int .u32 (v.a : Int), .int .i64 13] Z fun e w' => e = .returned (.int .u32 ((rot v.a 13 : Nat) : Int)) ∧ w' = Z := fun Z => Tryz.turn_same v.a 13 l0 (by decide) (by decide) Z
      have ta22 : ∀ Z, Calls Tryz.prog 94 #[.int .u32 (v.a : Int), .int .i64 22] Z fun e w' => e = .returned (.int .u32 ((rot v.a 22 : Nat) : Int)) ∧ w' = Z := fun Z => Tryz.turn_same v.a 22 l0 (by decide) (by decide) Z
      go_wp2
      go_quiet (first | (go_at_call_of 94 (Value.int IntKind.i64 6); exact Calls.quiet_of (te6 _)) | (go_at_call_of 94 (Value.int IntKind.i64 11); exact Calls.quiet_of (te11 _)) | (go_at_call_of 94 (Value.int IntKind.i64 25); exact Calls.quiet_of (te25 _)))
      rw [one_bits hvs]
      have HS2 : Hid (Tryz.Sr w s.l g W (wr.drewN nq)) := HS.out.drewN nq
      have HT2 : Hid (Tryz.Tq (wr.drewN nq)) := ⟨HT.out.sz, HT.out.sq, HT.out.cu⟩
      clear ck cw HS HT te6 te11 te25
      generalize wr.drewN nq = wz at *
      generalize hon : one v kt wt = on
      go_wp2_with (first | (go_at_call_of 94 (Value.int IntKind.i64 2); refine (ta2 _).mono ?_; rintro _ _ ⟨rfl, rfl⟩) | (go_at_call_of 94 (Value.int IntKind.i64 13); refine (ta13 _).mono ?_; rintro _ _ ⟨rfl, rfl⟩) | (go_at_call_of 94 (Value.int IntKind.i64 22); refine (ta22 _).mono ?_; rintro _ _ ⟨rfl, rfl⟩) | fail)
      refine ⟨⟨t + 1, rnd v kt wt, ?_, rfl, rfl, rfl, ?_, rfl, rfl, rfl, by go_num, by omega, rnd_small hvs kt wt, HST.out.symm, HS2, HT2⟩, ?_⟩
      · rw [two_bits hvs, ← hon]
        have e : (rnd v kt wt).a = (one v kt wt + two v) % 4294967296 := rfl
        rw [e]
        rfl
      · rw [← hon]
        have e : (rnd v kt wt).e = (v.d + one v kt wt) % 4294967296 := rfl
        rw [e]
        rfl
      · show 64 - (intOf (Value.int .i64 ((t : Int) + 1))).toNat < 64 - (intOf (Value.int .i64 (t : Int))).toNat
        simp [intOf]
        omega
    · obtain rfl : t = 64 := by omega
      have HVF : Hid (v = rnds (rounds.zip W) s) := by
        have h1 := HVE.out
        rw [List.take_of_length_le (by rw [List.length_zip]; omega)] at h1
        exact h1
      clear HVE
      go_wp2
      go_loopw [109] (fun iv wr => ∃ (i : Nat) (S : List Nat), iv = .int .i64 i ∧ i ≤ 8 ∧ S.length = 8 ∧ Small S ∧ Hid (S.take i = (List.zipWith (fun a b => (a + b) % 4294967296) s.l v.l).take i) ∧ Hid (S.drop i = s.l.drop i) ∧ Hid (Tryz.Sr w S g W wr)) (fun iv _ => 8 - (intOf iv).toNat)
      case atStart => exact ⟨0, s.l, rfl, by omega, rfl, hs, by rw [List.take_zero, List.take_zero]; rfl, rfl, HS⟩
      case round =>
        clear HS HT
        obtain ⟨i, S, rfl, hi8, hSl, hSs, HS1, HS2, HB⟩ := hrel
        by_cases hi : i < 8
        · have q1 : (i : Int) < 8 := by omega
          have q2 : (0 : Int) ≤ (i : Int) := by omega
          have q3 : (i : Int) + 1 ≤ 100 := by omega
          have c1 := HB.out.s.cell (i := i) (by omega)
          have c2 := HB.out.s.frozen i
          have hix := Tryz.idx8 v i hi wr
          have hsl : s.l.length = 8 := rfl
          have hvl : v.l.length = 8 := rfl
          have hSi : S[i]'(by omega) = s.l[i]'(by omega) := by
            have h5 := congrArg (fun l => l[0]?) HS2.out
            simp only [List.getElem?_drop, Nat.add_zero] at h5
            rw [List.getElem?_eq_getElem (by omega), List.getElem?_eq_getElem (by omega)] at h5
            exact Option.some.inj h5
          have hz : (List.zipWith (fun a b => (a + b) % 4294967296) s.l v.l).take (i + 1) = (List.zipWith (fun a b => (a + b) % 4294967296) s.l v.l).take i ++ [(S[i]'(by omega) + v.l[i]'(by omega)) % 4294967296] := by
            rw [List.take_add_one, List.getElem?_eq_getElem (by rw [List.length_zipWith]; omega), List.getElem_zipWith, hSi]
            rfl
          have l1 := hSs.get (i := i) (by omega)
          have l2 := hvs.get (i := i) (by omega)
          have HZ : Hid _ := hz
          clear hz hSi
          generalize S[i]'(by omega) = A at *
          generalize v.l[i]'(by omega) = B at *
          go_wp2
          go_roundw
          case rel =>
            refine ⟨i + 1, S.set i ((A + B) % 4294967296), by go_num, by omega, by rw [List.length_set]; exact hSl, Small.set hSs i (Nat.mod_lt _ (by decide)), ?_, ?_, HB.out.setS hgN i _ _ (by omega)⟩
            · show _ = _
              rw [take_set (by omega), HS1.out, HZ.out]
            · show _ = _
              rw [List.drop_set_of_lt (by omega), ← List.drop_drop, HS2.out, List.drop_drop]
          case measure => simp [intOf]; omega
        · obtain rfl : i = 8 := by omega
          obtain ⟨z, hz⟩ : ∃ z : S8, z = addS s v := ⟨_, rfl⟩
          have hSe : S = z.l := by
            have h1 := HS1.out
            rw [List.take_of_length_le (by omega), List.take_of_length_le (by rw [List.length_zipWith]; show min 8 8 ≤ 8; omega)] at h1
            rw [h1, hz]
            rfl
          have HZ : Hid (z = blk s m) := by
            show z = addS s (rnds (rounds.zip (words m)) s)
            rw [hz, HVF.out, HWe.out]
          clear hz HS1 HS2
          go_upto_region 15 with (fail)
          refine wp_region_lit ?_
          refine Dg.step_value rfl (v := .agg (S.map fun (n : Nat) => Value.int .u32 (n : Int)).toArray) (w' := wr) ?_ ?_
          · have ld := Tryz.loadS HB.out.s hSl
            exact Dg.run_load rfl rfl ld
          refine Dg.step_skip rfl (w' := wr.setRow (w.heap.size + 1 + 1) (S.map fun (n : Nat) => Value.int .u32 (n : Int)).toArray) ?_ (wpList_nil ?_)
          · have st := Tryz.storeS HB.out.r (by simp) S hSl
            exact Dg.run_store rfl rfl rfl st
          go_wp2
          refine bodyPost_ret (results_cell_row rfl _ _ (w.heap.size + 1 + 1) _ _ _ _ rfl (Dg.Ar.setRow HB.out.r S) Tryz.underlying158 rfl (Tryz.sizeS S hSl)) rfl ⟨?_, below_setRow HB.out.b (by omega) _⟩
          rw [hSe, HZ.out]
end Go.Proofs
