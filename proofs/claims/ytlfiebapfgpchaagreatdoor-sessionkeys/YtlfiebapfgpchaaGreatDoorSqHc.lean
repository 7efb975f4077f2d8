/-
  Laid together by merge.py of Hc.
-/
import Derived.Test.YtlfiebapfgpchaaGreatDoorSqH1
import Derived.Test.YtlfiebapfgpchaaGreatDoorSqLq
namespace Go.Proofs
open Go.RowKit Go.Wi Go.Dg
/-- All of it while a block is read. -/
structure Tryz.Bk (w0 : World) (s : List Nat) (W : List Nat) (wr : World) : Prop where
  b : Below w0.heap.size w0 wr
  s : Dg.Ar 157 wr w0.heap.size s
  k : Dg.Ar 183 wr (w0.heap.size + 1) rounds
  w : Dg.Ar 183 wr (w0.heap.size + 1 + 1 + 1) W
  r : ∃ r, Dg.Ar 157 wr (w0.heap.size + 1 + 1) r ∧ r.length = 8
theorem Tryz.Bk.drewN {w0 : World} {s W : List Nat} {wr : World} (h : Tryz.Bk w0 s W wr) (n : Nat) : Tryz.Bk w0 s W (wr.drewN n) := ⟨belowN h.b n, h.s, h.k, h.w, h.r⟩
theorem Tryz.Bk.setW {w0 : World} {s W : List Nat} {wr : World} (h : Tryz.Bk w0 s W wr) (i x : Nat) (v : Int) (hv : v = x) : Tryz.Bk w0 s (W.set i x) (wr.setCell ⟨w0.heap.size + 1 + 1 + 1, i, none⟩ (.int .u32 v)) := by
  subst hv
  obtain ⟨r, h1, h2⟩ := h.r
  refine ⟨h.b.setCell (p := ⟨w0.heap.size + 1 + 1 + 1, i, none⟩) (by show w0.heap.size ≤ w0.heap.size + 1 + 1 + 1; omega) _, h.s.keep ?_, h.k.keep ?_, h.w.set i x, r, h1.keep ?_, h2⟩ <;> exact Below.heap_setCell _ _ _ _ (by show _ ≠ w0.heap.size + 1 + 1 + 1; omega)
theorem Tryz.Bk.alloc {w0 : World} {s W : List Nat} {wr : World} (h : Tryz.Bk w0 s W wr) (o : Obj) : Tryz.Bk w0 s W (wr.alloc o) := by
  obtain ⟨r, h1, h2⟩ := h.r
  exact ⟨h.b.alloc (Nat.le_of_lt (block_lt h.s)) o, h.s.keep (Below.heap_alloc _ _ _ (block_lt h.s)), h.k.keep (Below.heap_alloc _ _ _ (block_lt h.k)), h.w.keep (Below.heap_alloc _ _ _ (block_lt h.w)), r, h1.keep (Below.heap_alloc _ _ _ (block_lt h1)), h2⟩
theorem Tryz.Bk.setS {w0 : World} {s W : List Nat} {wr : World} (h : Tryz.Bk w0 s W wr) (i x : Nat) (v : Int) (hv : v = x) : Tryz.Bk w0 (s.set i x) W (wr.setCell ⟨w0.heap.size, i, none⟩ (.int .u32 v)) := by
  subst hv
  obtain ⟨r, h1, h2⟩ := h.r
  refine ⟨h.b.setCell (p := ⟨w0.heap.size, i, none⟩) (Nat.le_refl _) _, h.s.set i x, h.k.keep ?_, h.w.keep ?_, r, h1.keep ?_, h2⟩ <;> exact Below.heap_setCell _ _ _ _ (by show _ ≠ w0.heap.size; omega)
theorem Tryz.Bk.start (w : World) (s : List Nat) : Tryz.Bk w s (List.replicate 64 0) ((((w.alloc (.cells (s.map fun (n : Nat) => Value.int .u32 (n : Int)).toArray 157)).alloc (.cells (rounds.map fun (n : Nat) => Value.int .u32 (n : Int)).toArray 183)).alloc (.cells ((List.replicate 8 0).map fun (n : Nat) => Value.int .u32 (n : Int)).toArray 157)).alloc (.cells ((List.replicate 64 0).map fun (n : Nat) => Value.int .u32 (n : Int)).toArray 183)) := by
  refine ⟨((((Below.refl _ w).alloc (Nat.le_refl _) _).alloc (by simp only [World.size_alloc]; omega) _).alloc (by simp only [World.size_alloc]; omega) _).alloc (by simp only [World.size_alloc]; omega) _, ?_, ?_, ?_, List.replicate 8 0, ?_, by simp⟩
  · exact (Below.heap_alloc _ _ _ (by simp only [World.size_alloc]; omega)).trans ((Below.heap_alloc _ _ _ (by simp only [World.size_alloc]; omega)).trans ((Below.heap_alloc _ _ _ (by simp only [World.size_alloc]; omega)).trans (heap_alloc_new w _)))
  · have h := heap_alloc_new (w.alloc (.cells (s.map fun (n : Nat) => Value.int .u32 (n : Int)).toArray 157)) (.cells (rounds.map fun (n : Nat) => Value.int .u32 (n : Int)).toArray 183)
    rw [World.size_alloc] at h
    exact (Below.heap_alloc _ _ _ (by simp only [World.size_alloc]; omega)).trans ((Below.heap_alloc _ _ _ (by simp only [World.size_alloc]; omega)).trans h)
  · have h := heap_alloc_new (((w.alloc (.cells (s.map fun (n : Nat) => Value.int .u32 (n : Int)).toArray 157)).alloc (.cells (rounds.map fun (n : Nat) => Value.int .u32 (n : Int)).toArray 183)).alloc (.cells ((List.replicate 8 0).map fun (n : Nat) => Value.int .u32 (n : Int)).toArray 157)) (.cells ((List.replicate 64 0).map fun (n : Nat) => Value.int .u32 (n : Int)).toArray 183)
    rw [World.size_alloc, World.size_alloc, World.size_alloc] at h
    exact h
  · have h := heap_alloc_new ((w.alloc (.cells (s.map fun (n : Nat) => Value.int .u32 (n : Int)).toArray 157)).alloc (.cells (rounds.map fun (n : Nat) => Value.int .u32 (n : Int)).toArray 183)) (.cells ((List.replicate 8 0).map fun (n : Nat) => Value.int .u32 (n : Int)).toArray 157)
    rw [World.size_alloc, World.size_alloc] at h
    exact (Below.heap_alloc _ _ _ (by simp only [World.size_alloc]; omega)).trans h
theorem Tryz.Bk.setG {w0 : World} {s W : List Nat} {wr : World} (h : Tryz.Bk w0 s W wr) {g : Nat} (hg : w0.heap.size + 1 + 1 + 1 < g) (i : Nat) (v : Value) : Tryz.Bk w0 s W (wr.setCell ⟨g, i, none⟩ v) := by
  obtain ⟨r, h1, h2⟩ := h.r
  refine ⟨h.b.setCell (p := ⟨g, i, none⟩) (by show w0.heap.size ≤ g; omega) _, h.s.keep ?_, h.k.keep ?_, h.w.keep ?_, r, h1.keep ?_, h2⟩ <;> exact Below.heap_setCell _ _ _ _ (by show _ ≠ g; omega)
theorem Dg.Ar.setv {T : TypeId} {w : World} {g : Nat} {l : List Nat} (h : Dg.Ar T w g l) (i x : Nat) (v : Int) (hv : v = x) : Dg.Ar T (w.setCell ⟨g, i, none⟩ (.int .u32 v)) g (l.set i x) := by
  subst hv
  exact h.set i x
set_option maxRecDepth 20000 in
set_option maxHeartbeats 4000000 in
theorem Tryz.block_any (s : S8) (m : ByteArray) (hm : m.size = 64) (hs : Small s.l) (w : World) :
    Calls Tryz.prog 92 #[.agg (s.l.map fun (n : Nat) => Value.int .u32 (n : Int)).toArray, .agg (rounds.map fun (n : Nat) => Value.int .u32 (n : Int)).toArray, .string m] w fun e w' => e = .returned (.agg ((blk s m.toList).l.map fun (n : Nat) => Value.int .u32 (n : Int)).toArray) ∧ Below w.heap.size w w' := by
  go_enter Tryz.func92, Tryz.ntmps92
  go_wp2
  go_loopw [8] (fun iv wr => ∃ (i : Nat) (W : List Nat), iv = .int .i64 i ∧ i ≤ 16 ∧ W.length = 64 ∧ Small W ∧ W.take i = (List.range i).map (wrd m.toList) ∧ Tryz.Bk w s.l W wr) (fun iv _ => 16 - (intOf iv).toNat)
  case atStart =>
    refine ⟨0, List.replicate 64 0, rfl, by omega, by simp, fun n hn => by rw [(List.mem_replicate.1 hn).2]; decide, by simp, ?_⟩
    exact Tryz.Bk.start w s.l
  case round =>
    obtain ⟨i, W, rfl, hi16, hWl, hWs, hW, hB⟩ := hrel
    by_cases hi : i < 16
    · have q1 : (i : Int) < 16 := by omega
      have c1 := hB.w.frozen i
      have c2 := hB.w.cell (i := i) (by omega)
      obtain ⟨J, hJ⟩ : ∃ J : Nat, J = 4 * i := ⟨_, rfl⟩
      have hwr : IntKind.i64.wrap (4 * (i : Int)) = (J : Int) := by rw [IntKind.wrap_i64]; omega
      have HJ : Hid (J = 4 * i) := hJ
      have i0 : (0 : Int) ≤ (J : Int) := by omega
      have i1 : (J : Int) < 64 := by omega
      obtain ⟨J1, hJ1⟩ : ∃ J1 : Nat, J1 = 4 * i + 1 := ⟨_, rfl⟩
      have HJ1 : Hid (J1 = 4 * i + 1) := hJ1
      have hw1 : IntKind.i64.wrap ((J : Int) + 1) = (J1 : Int) := by rw [IntKind.wrap_i64]; omega
      have o1 : (0 : Int) ≤ (J1 : Int) := by omega
      have r1 : (J1 : Int) < 64 := by omega
      obtain ⟨J2, hJ2⟩ : ∃ J2 : Nat, J2 = 4 * i + 2 := ⟨_, rfl⟩
      have HJ2 : Hid (J2 = 4 * i + 2) := hJ2
      have hw2 : IntKind.i64.wrap ((J : Int) + 2) = (J2 : Int) := by rw [IntKind.wrap_i64]; omega
      have o2 : (0 : Int) ≤ (J2 : Int) := by omega
      have r2 : (J2 : Int) < 64 := by omega
      obtain ⟨J3, hJ3⟩ : ∃ J3 : Nat, J3 = 4 * i + 3 := ⟨_, rfl⟩
      have HJ3 : Hid (J3 = 4 * i + 3) := hJ3
      have hw3 : IntKind.i64.wrap ((J : Int) + 3) = (J3 : Int) := by rw [IntKind.wrap_i64]; omega
      have o3 : (0 : Int) ≤ (J3 : Int) := by omega
      have r3 : (J3 : Int) < 64 := by omega
      have q2 : (0 : Int) ≤ (i : Int) := by omega
      have q3 : (i : Int) < 64 := by omega
      have q4 : (i : Int) + 1 ≤ 100 := by omega
      have HB : Hid _ := hB
      have HW : Hid _ := hW
      have HWs : Hid _ := hWs
      clear hJ hJ1 hJ2 hJ3 hB hW hWs
      go_wp2
      (refine Go.Lq.wp_region_last 31 (by kernel_rfl) (by kernel_rfl) ?_; dsimp only [List.dropLast]; (repeat (quiet_step (fail))); refine wpQuiet_nil ?_; intro _ hw'; obtain ⟨nq, hw''⟩ := hw'; subst hw''; refine Go.Lq.wpOp_last rfl rfl ?_; unfold Oper.wp; go_simp)
      go_wp2
      go_roundw
      case rel =>
        have e0 := HJ.out
        have e1 := HJ1.out
        have e2 := HJ2.out
        have e3 := HJ3.out
        have hx : wrd m.toList i = (m[J]'(by omega)).toNat * 16777216 + (m[J1]'(by omega)).toNat * 65536 + (m[J2]'(by omega)).toNat * 256 + (m[J3]'(by omega)).toNat := by
          unfold wrd
          rw [← e3, ← e2, ← e1, ← e0, getD_bytes m J (by omega), getD_bytes m J1 (by omega), getD_bytes m J2 (by omega), getD_bytes m J3 (by omega)]
        have b0 := (m[J]'(by omega)).toNat_lt
        have b1 := (m[J1]'(by omega)).toNat_lt
        have b2 := (m[J2]'(by omega)).toNat_lt
        have b3 := (m[J3]'(by omega)).toNat_lt
        refine ⟨i + 1, W.set i (wrd m.toList i), by go_num, by omega, by rw [List.length_set]; exact hWl, Small.set HWs.out i (by omega), ?_, (HB.out.drewN nq).setW i _ _ ?_⟩
        · rw [take_set (by omega), HW.out, List.range_succ, List.map_append]
          rfl
        · rw [hx]
          exact wrd_bits _ _ _ _ (by omega) (by omega) (by omega) (by omega)
      case measure => simp [intOf]; omega
    · obtain rfl : i = 16 := by omega
      go_wp2
      go_loopw [9] (fun iv wr => ∃ (t : Nat) (W : List Nat), iv = .int .i64 t ∧ 16 ≤ t ∧ t ≤ 64 ∧ W.length = 64 ∧ Small W ∧ W.take t = sched (t - 16) ((List.range 16).map (wrd m.toList)) ∧ Tryz.Bk w s.l W wr) (fun iv _ => 64 - (intOf iv).toNat)
      case atStart => exact ⟨16, W, rfl, by omega, by omega, hWl, hWs, hW, hB⟩
      case round =>
        clear hB hW hWs hWl W hi hi16
        obtain ⟨t, W, rfl, ht1, ht2, hWl, hWs, hW, hB⟩ := hrel
        by_cases ht : t < 64
        · have q1 : (t : Int) < 64 := by omega
          obtain ⟨T15, h15⟩ : ∃ T : Nat, T = t - 15 := ⟨_, rfl⟩
          obtain ⟨T2, h2⟩ : ∃ T : Nat, T = t - 2 := ⟨_, rfl⟩
          obtain ⟨T16, h16⟩ : ∃ T : Nat, T = t - 16 := ⟨_, rfl⟩
          obtain ⟨T7, h7⟩ : ∃ T : Nat, T = t - 7 := ⟨_, rfl⟩
          have e15 : (t : Int) - 15 = (T15 : Int) := by omega
          have e2 : (t : Int) - 2 = (T2 : Int) := by omega
          have e16 : IntKind.i64.wrap ((t : Int) - 16) = (T16 : Int) := by rw [IntKind.wrap_i64]; omega
          have e7 : IntKind.i64.wrap ((t : Int) - 7) = (T7 : Int) := by rw [IntKind.wrap_i64]; omega
          have c15 := hB.w.cell (i := T15) (by omega)
          have c2 := hB.w.cell (i := T2) (by omega)
          have c16 := hB.w.cell (i := T16) (by omega)
          have c7 := hB.w.cell (i := T7) (by omega)
          have ct := hB.w.cell (i := t) (by omega)
          have cf := hB.w.frozen t
          have hX := hWs.get (i := T15) (by omega)
          have hY := hWs.get (i := T2) (by omega)
          have hA := hWs.get (i := T16) (by omega)
          have hBb := hWs.get (i := T7) (by omega)
          have hnx : nxt (W.take t) = (W[T16]'(by omega) + W[T7]'(by omega) + sml (W[T15]'(by omega)) + smr (W[T2]'(by omega))) % 4294967296 := by
            unfold nxt
            rw [List.length_take, Nat.min_eq_left (by omega), take_getD (by omega) (by omega), take_getD (by omega) (by omega), take_getD (by omega) (by omega), take_getD (by omega) (by omega)]
            simp only [h15, h2, h16, h7]
          have k1 : (0 : Int) ≤ (T15 : Int) := by omega
          have k2 : (T15 : Int) < 64 := by omega
          have k3 : (0 : Int) ≤ (T2 : Int) := by omega
          have k4 : (T2 : Int) < 64 := by omega
          have k5 : (0 : Int) ≤ (T16 : Int) := by omega
          have k6 : (T16 : Int) < 64 := by omega
          have k7 : (0 : Int) ≤ (T7 : Int) := by omega
          have k8 : (T7 : Int) < 64 := by omega
          have k9 : (0 : Int) ≤ (t : Int) := by omega
          have k10 : (t : Int) + 1 ≤ 100 := by omega
          have HB : Hid _ := hB
          have HW : Hid _ := hW
          have HWs : Hid _ := hWs
          have Hnx : Hid _ := hnx
          clear hB hW hWs hnx
          generalize W[T15]'(by omega) = X at *
          generalize W[T2]'(by omega) = Y at *
          generalize W[T16]'(by omega) = A at *
          generalize W[T7]'(by omega) = B at *
          generalize W[t]'(by omega) = O at *
          clear h15 h2 h16 h7
          have t7 : ∀ Z, Calls Tryz.prog 98 #[.int .u32 (X : Int), .int .i64 7] Z fun e w' => e = .returned (.int .u32 ((rot X 7 : Nat) : Int)) ∧ ∃ m, w' = Z.drewN m := fun Z => Tryz.turned_any X 7 hX (by decide) Z
          have t18 : ∀ Z, Calls Tryz.prog 98 #[.int .u32 (X : Int), .int .i64 18] Z fun e w' => e = .returned (.int .u32 ((rot X 18 : Nat) : Int)) ∧ ∃ m, w' = Z.drewN m := fun Z => Tryz.turned_any X 18 hX (by decide) Z
          have t17 : ∀ Z, Calls Tryz.prog 98 #[.int .u32 (Y : Int), .int .i64 17] Z fun e w' => e = .returned (.int .u32 ((rot Y 17 : Nat) : Int)) ∧ ∃ m, w' = Z.drewN m := fun Z => Tryz.turned_any Y 17 hY (by decide) Z
          have t19 : ∀ Z, Calls Tryz.prog 98 #[.int .u32 (Y : Int), .int .i64 19] Z fun e w' => e = .returned (.int .u32 ((rot Y 19 : Nat) : Int)) ∧ ∃ m, w' = Z.drewN m := fun Z => Tryz.turned_any Y 19 hY (by decide) Z
          go_wp2
          (refine Go.Lq.wp_region_last 29 (by kernel_rfl) (by kernel_rfl) ?_; dsimp only [List.dropLast]; (repeat (quiet_step (first | (go_at_call_of 98 (Value.int IntKind.i64 7); exact Calls.quiet_of (t7 _)) | (go_at_call_of 98 (Value.int IntKind.i64 18); exact Calls.quiet_of (t18 _)) | (go_at_call_of 98 (Value.int IntKind.i64 17); exact Calls.quiet_of (t17 _)) | (go_at_call_of 98 (Value.int IntKind.i64 19); exact Calls.quiet_of (t19 _))))); refine wpQuiet_nil ?_; intro _ hw'; obtain ⟨nq, hw''⟩ := hw'; subst hw''; refine Go.Lq.wpOp_last rfl rfl ?_; unfold Oper.wp; go_simp)
          go_wp2
          refine ⟨⟨_, _, _, _, _, _, _, _, _, _, _, _, _, _, _, _, _, _, _, _, _, _, _, _, _, _, _, _, _, _, _, _, _, _, _, _, _, _, _, _, _, _, _, _, ?rr, rfl⟩, ?mm⟩
          case rr =>
            refine ⟨t + 1, W.set t (nxt (W.take t)), by go_num, by omega, by omega, by rw [List.length_set]; exact hWl, Small.set HWs.out t (by rw [Hnx.out]; exact Nat.mod_lt _ (by decide)), ?_, (HB.out.drewN nq).setW t _ _ ?_⟩
            · rw [take_set (by omega), show t + 1 - 16 = (t - 16) + 1 by omega, sched_snoc, HW.out]
            · rw [Hnx.out]
              exact nxt_bits hA hBb hX hY
          case mm => show 64 - (intOf (Value.int .i64 ((t : Int) + 1))).toNat < 64 - (intOf (Value.int .i64 (t : Int))).toNat; simp [intOf]; omega
        · obtain rfl : t = 64 := by omega
          have hWe : W = words m.toList := by
            rw [List.take_of_length_le (by omega), show 64 - 16 = 48 from rfl] at hW
            exact hW
          have HB : Hid _ := hB
          have d0 : wr.cell? ⟨w.heap.size, 0, none⟩ = some (.int .u32 (s.a : Int)) := hB.s.cell (i := 0) (by simp [S8.l])
          have d1 : wr.cell? ⟨w.heap.size, 1, none⟩ = some (.int .u32 (s.b : Int)) := hB.s.cell (i := 1) (by simp [S8.l])
          have d2 : wr.cell? ⟨w.heap.size, 2, none⟩ = some (.int .u32 (s.c : Int)) := hB.s.cell (i := 2) (by simp [S8.l])
          have d3 : wr.cell? ⟨w.heap.size, 3, none⟩ = some (.int .u32 (s.d : Int)) := hB.s.cell (i := 3) (by simp [S8.l])
          have d4 : wr.cell? ⟨w.heap.size, 4, none⟩ = some (.int .u32 (s.e : Int)) := hB.s.cell (i := 4) (by simp [S8.l])
          have d5 : wr.cell? ⟨w.heap.size, 5, none⟩ = some (.int .u32 (s.f : Int)) := hB.s.cell (i := 5) (by simp [S8.l])
          have d6 : wr.cell? ⟨w.heap.size, 6, none⟩ = some (.int .u32 (s.g : Int)) := hB.s.cell (i := 6) (by simp [S8.l])
          have d7 : wr.cell? ⟨w.heap.size, 7, none⟩ = some (.int .u32 (s.h : Int)) := hB.s.cell (i := 7) (by simp [S8.l])
          have HWe : Hid _ := hWe
          clear hW hWe hB
          go_wp2
          have hgN : w.heap.size + 1 + 1 + 1 < wr.heap.size := block_lt HB.out.w
          have a1 : Dg.Ar 157 (wr.alloc (.cells #[.int .u32 (s.a : Int), .int .u32 (s.b : Int), .int .u32 (s.c : Int), .int .u32 (s.d : Int), .int .u32 (s.e : Int), .int .u32 (s.f : Int), .int .u32 (s.g : Int), .int .u32 (s.h : Int)] 157)) wr.heap.size s.l := heap_alloc_new wr _
          have a2 := HB.out.alloc (.cells #[.int .u32 (s.a : Int), .int .u32 (s.b : Int), .int .u32 (s.c : Int), .int .u32 (s.d : Int), .int .u32 (s.e : Int), .int .u32 (s.f : Int), .int .u32 (s.g : Int), .int .u32 (s.h : Int)] 157)
          clear d0 d1 d2 d3 d4 d5 d6 d7
          generalize wr.alloc (.cells #[.int .u32 (s.a : Int), .int .u32 (s.b : Int), .int .u32 (s.c : Int), .int .u32 (s.d : Int), .int .u32 (s.e : Int), .int .u32 (s.f : Int), .int .u32 (s.g : Int), .int .u32 (s.h : Int)] 157) = wq at *
          clear HB
          generalize wr.heap.size = g at *
          go_loopw [13] (fun iv wr => ∃ (t : Nat) (v : S8), iv = .int .i64 t ∧ t ≤ 64 ∧ Small v.l ∧ v = rnds ((rounds.zip W).take t) s ∧ Tryz.Bk w s.l W wr ∧ Dg.Ar 157 wr g v.l) (fun iv _ => 64 - (intOf iv).toNat)
          case atStart => exact ⟨0, s, rfl, by omega, hs, rfl, a2, a1⟩
          case round =>
            clear a1 a2
            obtain ⟨t, v, rfl, ht64, hvs, hve, hB, hV⟩ := hrel
            by_cases ht : t < 64
            · have q1 : (t : Int) < 64 := by omega
              have q2 : (0 : Int) ≤ (t : Int) := by omega
              have q3 : (t : Int) + 1 ≤ 100 := by omega
              obtain ⟨l0, l1, l2, l3, l4, l5, l6, l7⟩ := S8.lt hvs
              have d0 : wr.cell? ⟨g, 0, none⟩ = some (.int .u32 (v.a : Int)) := hV.cell (i := 0) (by simp [S8.l])
              have d1 : wr.cell? ⟨g, 1, none⟩ = some (.int .u32 (v.b : Int)) := hV.cell (i := 1) (by simp [S8.l])
              have d2 : wr.cell? ⟨g, 2, none⟩ = some (.int .u32 (v.c : Int)) := hV.cell (i := 2) (by simp [S8.l])
              have d3 : wr.cell? ⟨g, 3, none⟩ = some (.int .u32 (v.d : Int)) := hV.cell (i := 3) (by simp [S8.l])
              have d4 : wr.cell? ⟨g, 4, none⟩ = some (.int .u32 (v.e : Int)) := hV.cell (i := 4) (by simp [S8.l])
              have d5 : wr.cell? ⟨g, 5, none⟩ = some (.int .u32 (v.f : Int)) := hV.cell (i := 5) (by simp [S8.l])
              have d6 : wr.cell? ⟨g, 6, none⟩ = some (.int .u32 (v.g : Int)) := hV.cell (i := 6) (by simp [S8.l])
              have d7 : wr.cell? ⟨g, 7, none⟩ = some (.int .u32 (v.h : Int)) := hV.cell (i := 7) (by simp [S8.l])
              have hrl : rounds.length = 64 := rfl
              have ck := hB.k.cell (i := t) (by omega)
              have cw := hB.w.cell (i := t) (by omega)
              have HB : Hid _ := hB
              have HV : Hid _ := hV
              have HVE : Hid _ := hve
              have hlk := small_rounds.get (i := t) (by omega)
              have hlw := hWs.get (i := t) (by omega)
              have hst := rnds_snoc ((rounds.zip W).take t) (rounds[t]'(by omega)) (W[t]'(by omega)) s
              rw [← zip_take (by omega) (by omega), ← hve] at hst
              have HST : Hid _ := hst
              clear hB hV hve hst
              generalize rounds[t]'(by omega) = kt at *
              generalize W[t]'(by omega) = wt at *
              have te6 : ∀ Z, Calls Tryz.prog 98 #[.int .u32 (v.e : Int), .int .i64 6] Z fun e w' => e = .returned (.int .u32 ((rot v.e 6 : Nat) : Int)) ∧ ∃ m, w' = Z.drewN m := fun Z => Tryz.turned_any v.e 6 l4 (by decide) Z
              have te11 : ∀ Z, Calls Tryz.prog 98 #[.int .u32 (v.e : Int), .int .i64 11] Z fun e w' => e = .returned (.int .u32 ((rot v.e 11 : Nat) : Int)) ∧ ∃ m, w' = Z.drewN m := fun Z => Tryz.turned_any v.e 11 l4 (by decide) Z
              have te25 : ∀ Z, Calls Tryz.prog 98 #[.int .u32 (v.e : Int), .int .i64 25] Z fun e w' => e = .returned (.int .u32 ((rot v.e 25 : Nat) : Int)) ∧ ∃ m, w' = Z.drewN m := fun Z => Tryz.turned_any v.e 25 l4 (by decide) Z
              have ta2 : ∀ Z, Calls Tryz.prog 98 #[.int .u32 (v.a : Int), .int .i64 2] Z fun e w' => e = .returned (.int .u32 ((rot v.a 2 : Nat) : Int)) ∧ ∃ m, w' = Z.drewN m := fun Z => Tryz.turned_any v.a 2 l0 (by decide) Z
              have ta13 : ∀ Z, Calls Tryz.prog 98 #[.int .u32 (v.a : Int), .int .i64 13] Z fun e w' => e = .returned (.int .u32 ((rot v.a 13 : Nat) : Int)) ∧ ∃ m, w' = Z.drewN m := fun Z => Tryz.turned_any v.a 13 l0 (by decide) Z
              have ta22 : ∀ Z, Calls Tryz.prog 98 #[.int .u32 (v.a : Int), .int .i64 22] Z fun e w' => e = .returned (.int .u32 ((rot v.a 22 : Nat) : Int)) ∧ ∃ m, w' = Z.drewN m := fun Z => Tryz.turned_any v.a 22 l0 (by decide) Z
              go_wp2
              go_quiet (first | (go_at_call_of 98 (Value.int IntKind.i64 6); exact Calls.quiet_of (te6 _)) | (go_at_call_of 98 (Value.int IntKind.i64 11); exact Calls.quiet_of (te11 _)) | (go_at_call_of 98 (Value.int IntKind.i64 25); exact Calls.quiet_of (te25 _)))
              rw [one_bits hvs]
              have HB2 : Hid (Tryz.Bk w s.l W (wr.drewN nq)) := HB.out.drewN nq
              have hV2 : Dg.Ar 157 (wr.drewN nq) g v.l := HV.out
              clear d0 d1 d2 d3 d4 d5 d6 d7 ck cw HB HV te6 te11 te25
              generalize wr.drewN nq = wz at *
              generalize hon : one v kt wt = on
              have d0 : wz.cell? ⟨g, 0, none⟩ = some (.int .u32 (v.a : Int)) := hV2.cell (i := 0) (by simp [S8.l])
              have d1 : wz.cell? ⟨g, 1, none⟩ = some (.int .u32 (v.b : Int)) := hV2.cell (i := 1) (by simp [S8.l])
              have d2 : wz.cell? ⟨g, 2, none⟩ = some (.int .u32 (v.c : Int)) := hV2.cell (i := 2) (by simp [S8.l])
              have d3 : wz.cell? ⟨g, 3, none⟩ = some (.int .u32 (v.d : Int)) := hV2.cell (i := 3) (by simp [S8.l])
              have d4 : wz.cell? ⟨g, 4, none⟩ = some (.int .u32 (v.e : Int)) := hV2.cell (i := 4) (by simp [S8.l])
              have d5 : wz.cell? ⟨g, 5, none⟩ = some (.int .u32 (v.f : Int)) := hV2.cell (i := 5) (by simp [S8.l])
              have d6 : wz.cell? ⟨g, 6, none⟩ = some (.int .u32 (v.g : Int)) := hV2.cell (i := 6) (by simp [S8.l])
              have d7 : wz.cell? ⟨g, 7, none⟩ = some (.int .u32 (v.h : Int)) := hV2.cell (i := 7) (by simp [S8.l])
              have HV2 : Hid _ := hV2
              clear hV2
              go_wp2
              go_quiet (first | (go_at_call_of 98 (Value.int IntKind.i64 2); exact Calls.quiet_of (ta2 _)) | (go_at_call_of 98 (Value.int IntKind.i64 13); exact Calls.quiet_of (ta13 _)) | (go_at_call_of 98 (Value.int IntKind.i64 22); exact Calls.quiet_of (ta22 _)))
              rw [two_bits hvs]
              have HB3 : Hid (Tryz.Bk w s.l W (wz.drewN nq)) := HB2.out.drewN nq
              have hV3 : Dg.Ar 157 (wz.drewN nq) g v.l := HV2.out
              clear d0 d1 d2 d3 d4 d5 d6 d7 HB2 HV2 ta2 ta13 ta22
              generalize wz.drewN nq = wy at *
              generalize htw : two v = tw
              have d0 : wy.cell? ⟨g, 0, none⟩ = some (.int .u32 (v.a : Int)) := hV3.cell (i := 0) (by simp [S8.l])
              have f0 := hV3.frozen 0
              have d1 : wy.cell? ⟨g, 1, none⟩ = some (.int .u32 (v.b : Int)) := hV3.cell (i := 1) (by simp [S8.l])
              have f1 := hV3.frozen 1
              have d2 : wy.cell? ⟨g, 2, none⟩ = some (.int .u32 (v.c : Int)) := hV3.cell (i := 2) (by simp [S8.l])
              have f2 := hV3.frozen 2
              have d3 : wy.cell? ⟨g, 3, none⟩ = some (.int .u32 (v.d : Int)) := hV3.cell (i := 3) (by simp [S8.l])
              have f3 := hV3.frozen 3
              have d4 : wy.cell? ⟨g, 4, none⟩ = some (.int .u32 (v.e : Int)) := hV3.cell (i := 4) (by simp [S8.l])
              have f4 := hV3.frozen 4
              have d5 : wy.cell? ⟨g, 5, none⟩ = some (.int .u32 (v.f : Int)) := hV3.cell (i := 5) (by simp [S8.l])
              have f5 := hV3.frozen 5
              have d6 : wy.cell? ⟨g, 6, none⟩ = some (.int .u32 (v.g : Int)) := hV3.cell (i := 6) (by simp [S8.l])
              have f6 := hV3.frozen 6
              have d7 : wy.cell? ⟨g, 7, none⟩ = some (.int .u32 (v.h : Int)) := hV3.cell (i := 7) (by simp [S8.l])
              have f7 := hV3.frozen 7
              have HV3 : Hid _ := hV3
              clear hV3
              go_wp2
              refine ⟨⟨_, _, _, _, _, _, _, _, _, _, _, _, _, _, _, _, _, _, _, _, _, _, _, _, _, _, _, _, _, _, _, _, _, _, _, _, _, _, _, _, _, _, _, _, _, _, _, _, _, _, _, _, _, _, _, _, _, _, _, _, _, _, _, _, _, _, _, _, _, _, _, _, _, _, _, _, _, _, _, _, _, _, _, _, _, ?r3, rfl⟩, ?m3⟩
              case r3 =>
                refine ⟨t + 1, rnd v kt wt, by go_num, by omega, rnd_small hvs kt wt, HST.out.symm, (((((((HB3.out.setG hgN 0 _).setG hgN 1 _).setG hgN 2 _).setG hgN 3 _).setG hgN 4 _).setG hgN 5 _).setG hgN 6 _).setG hgN 7 _, ?_⟩
                have hv3 : Dg.Ar 157 wy g v.l := HV3.out
                have h9 := (((((((hv3.setv 0 ((on + tw) % 4294967296) _ rfl).setv 1 v.a _ rfl).setv 2 v.b _ rfl).setv 3 v.c _ rfl).setv 4 ((v.d + on) % 4294967296) _ rfl).setv 5 v.e _ rfl).setv 6 v.f _ rfl).setv 7 v.g _ rfl
                have h8 : (rnd v kt wt).l = [(on + tw) % 4294967296, v.a, v.b, v.c, (v.d + on) % 4294967296, v.e, v.f, v.g] := by rw [← hon, ← htw]; rfl
                rw [h8]
                exact h9
              case m3 => show 64 - (intOf (Value.int .i64 ((t : Int) + 1))).toNat < 64 - (intOf (Value.int .i64 (t : Int))).toNat; simp [intOf]; omega
            · obtain rfl : t = 64 := by omega
              have hvf : v = rnds (rounds.zip (words m.toList)) s := by
                rw [List.take_of_length_le (by rw [List.length_zip]; omega), HWe.out] at hve
                exact hve
              have HVF : Hid _ := hvf
              have HB : Hid _ := hB
              have HV : Hid _ := hV
              clear hve hvf hB hV
              go_wp2
              go_loopw [18] (fun iv wr => ∃ (i : Nat) (S : List Nat), iv = .int .i64 i ∧ i ≤ 8 ∧ S.length = 8 ∧ Small S ∧ S.take i = (List.zipWith (fun a b => (a + b) % 4294967296) s.l v.l).take i ∧ S.drop i = s.l.drop i ∧ Tryz.Bk w S W wr ∧ Dg.Ar 157 wr g v.l) (fun iv _ => 8 - (intOf iv).toNat)
              case atStart => exact ⟨0, s.l, rfl, by omega, rfl, hs, by simp, rfl, HB.out, HV.out⟩
              case round =>
                clear HB HV
                obtain ⟨i, S, rfl, hi8, hSl, hSs, hS1, hS2, hB, hV⟩ := hrel
                have hsl : s.l.length = 8 := rfl
                have hvl : v.l.length = 8 := rfl
                by_cases hi : i < 8
                · have q1 : (i : Int) < 8 := by omega
                  have q2 : (0 : Int) ≤ (i : Int) := by omega
                  have q3 : (i : Int) + 1 ≤ 100 := by omega
                  have c1 := hB.s.cell (i := i) (by omega)
                  have c2 := hB.s.frozen i
                  have c3 := hV.cell (i := i) (by omega)
                  have hSi : S[i]'(by omega) = s.l[i]'(by omega) := by
                    have h5 := congrArg (fun l => l[0]?) hS2
                    simp only [List.getElem?_drop, Nat.add_zero] at h5
                    rw [List.getElem?_eq_getElem (by omega), List.getElem?_eq_getElem (by omega)] at h5
                    exact Option.some.inj h5
                  have hz : (List.zipWith (fun a b => (a + b) % 4294967296) s.l v.l).take (i + 1) = (List.zipWith (fun a b => (a + b) % 4294967296) s.l v.l).take i ++ [(S[i]'(by omega) + v.l[i]'(by omega)) % 4294967296] := by
                    rw [List.take_add_one, List.getElem?_eq_getElem (by rw [List.length_zipWith]; omega), List.getElem_zipWith, hSi]
                    rfl
                  have l1 := hSs.get (i := i) (by omega)
                  have l2 := hvs.get (i := i) (by omega)
                  have HZ : Hid _ := hz
                  have HB : Hid _ := hB
                  have HV : Hid _ := hV
                  have HS1 : Hid _ := hS1
                  have HS2 : Hid _ := hS2
                  have HSs : Hid _ := hSs
                  clear hz hB hV hS1 hS2 hSs hSi
                  generalize S[i]'(by omega) = A at *
                  generalize v.l[i]'(by omega) = B at *
                  go_wp2
                  (refine Go.Lq.wp_region_last 9 (by kernel_rfl) (by kernel_rfl) ?_; dsimp only [List.dropLast]; (repeat (quiet_step (fail))); refine wpQuiet_nil ?_; intro _ hw'; obtain ⟨nq, hw''⟩ := hw'; subst hw''; refine Go.Lq.wpOp_last rfl rfl ?_; unfold Oper.wp; go_simp)
                  go_wp2
                  refine ⟨⟨_, _, _, _, _, _, _, _, _, _, _, _, _, _, ?r4, rfl⟩, ?m4⟩
                  case r4 =>
                    refine ⟨i + 1, S.set i ((A + B) % 4294967296), by go_num, by omega, by rw [List.length_set]; exact hSl, Small.set HSs.out i (Nat.mod_lt _ (by decide)), ?_, ?_, (HB.out.drewN nq).setS i _ _ rfl, ?_⟩
                    · rw [take_set (by omega), HS1.out, HZ.out]
                    · rw [List.drop_set_of_lt (by omega), ← List.drop_drop, HS2.out, List.drop_drop]
                    · have hv4 : Dg.Ar 157 (wr.drewN nq) g v.l := HV.out
                      exact hv4.keep (Below.heap_setCell _ _ _ _ (by show g ≠ w.heap.size; omega))
                  case m4 => show 8 - (intOf (Value.int .i64 ((i : Int) + 1))).toNat < 8 - (intOf (Value.int .i64 (i : Int))).toNat; simp [intOf]; omega
                · obtain rfl : i = 8 := by omega
                  obtain ⟨z, hz⟩ : ∃ z : S8, z = addS s v := ⟨_, rfl⟩
                  have hSe : S = z.l := by
                    rw [List.take_of_length_le (by omega), List.take_of_length_le (by rw [List.length_zipWith]; omega)] at hS1
                    rw [hS1, hz]
                    rfl
                  subst hSe
                  have HZ : Hid (z = blk s m.toList) := by
                    show z = addS s (rnds (rounds.zip (words m.toList)) s)
                    rw [hz, HVF.out]
                  obtain ⟨r, hr, hrl⟩ := hB.r
                  have d0 : wr.cell? ⟨w.heap.size, 0, none⟩ = some (.int .u32 (z.a : Int)) := hB.s.cell (i := 0) (by simp [S8.l])
                  have p0 := hr.cell (i := 0) (by omega)
                  have f0 := hr.frozen 0
                  have d1 : wr.cell? ⟨w.heap.size, 1, none⟩ = some (.int .u32 (z.b : Int)) := hB.s.cell (i := 1) (by simp [S8.l])
                  have p1 := hr.cell (i := 1) (by omega)
                  have f1 := hr.frozen 1
                  have d2 : wr.cell? ⟨w.heap.size, 2, none⟩ = some (.int .u32 (z.c : Int)) := hB.s.cell (i := 2) (by simp [S8.l])
                  have p2 := hr.cell (i := 2) (by omega)
                  have f2 := hr.frozen 2
                  have d3 : wr.cell? ⟨w.heap.size, 3, none⟩ = some (.int .u32 (z.d : Int)) := hB.s.cell (i := 3) (by simp [S8.l])
                  have p3 := hr.cell (i := 3) (by omega)
                  have f3 := hr.frozen 3
                  have d4 : wr.cell? ⟨w.heap.size, 4, none⟩ = some (.int .u32 (z.e : Int)) := hB.s.cell (i := 4) (by simp [S8.l])
                  have p4 := hr.cell (i := 4) (by omega)
                  have f4 := hr.frozen 4
                  have d5 : wr.cell? ⟨w.heap.size, 5, none⟩ = some (.int .u32 (z.f : Int)) := hB.s.cell (i := 5) (by simp [S8.l])
                  have p5 := hr.cell (i := 5) (by omega)
                  have f5 := hr.frozen 5
                  have d6 : wr.cell? ⟨w.heap.size, 6, none⟩ = some (.int .u32 (z.g : Int)) := hB.s.cell (i := 6) (by simp [S8.l])
                  have p6 := hr.cell (i := 6) (by omega)
                  have f6 := hr.frozen 6
                  have d7 : wr.cell? ⟨w.heap.size, 7, none⟩ = some (.int .u32 (z.h : Int)) := hB.s.cell (i := 7) (by simp [S8.l])
                  have p7 := hr.cell (i := 7) (by omega)
                  have f7 := hr.frozen 7
                  have HB : Hid _ := hB
                  have HR : Hid _ := hr
                  clear hB hr hz hS1 hS2 hV
                  go_wp2
                  have hr0 : Dg.Ar 157 wr (w.heap.size + 1 + 1) r := HR.out
                  have h9 := (((((((hr0.setv 0 z.a _ rfl).setv 1 z.b _ rfl).setv 2 z.c _ rfl).setv 3 z.d _ rfl).setv 4 z.e _ rfl).setv 5 z.f _ rfl).setv 6 z.g _ rfl).setv 7 z.h _ rfl
                  rw [set8 _ _ _ _ _ _ _ _ r hrl] at h9
                  have hN : w.heap.size ≤ w.heap.size + 1 + 1 := by omega
                  have hbe := (((((((HB.out.b.setCell (p := ⟨w.heap.size + 1 + 1, 0, none⟩) hN (.int .u32 (z.a : Int))).setCell (p := ⟨w.heap.size + 1 + 1, 1, none⟩) hN (.int .u32 (z.b : Int))).setCell (p := ⟨w.heap.size + 1 + 1, 2, none⟩) hN (.int .u32 (z.c : Int))).setCell (p := ⟨w.heap.size + 1 + 1, 3, none⟩) hN (.int .u32 (z.d : Int))).setCell (p := ⟨w.heap.size + 1 + 1, 4, none⟩) hN (.int .u32 (z.e : Int))).setCell (p := ⟨w.heap.size + 1 + 1, 5, none⟩) hN (.int .u32 (z.f : Int))).setCell (p := ⟨w.heap.size + 1 + 1, 6, none⟩) hN (.int .u32 (z.g : Int))).setCell (p := ⟨w.heap.size + 1 + 1, 7, none⟩) hN (.int .u32 (z.h : Int))
                  refine bodyPost_ret (results_cell_row rfl _ _ (w.heap.size + 1 + 1) _ _ _ _ rfl h9 Tryz.underlying157 rfl (by kernel_rfl)) rfl ⟨?_, hbe⟩
                  rw [← HZ.out]
                  rfl
end Go.Proofs
