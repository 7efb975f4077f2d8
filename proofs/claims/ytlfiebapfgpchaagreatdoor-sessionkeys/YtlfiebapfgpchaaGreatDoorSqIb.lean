/-
  Laid together by merge.py of Ib Ic.
-/
import Derived.Test.YtlfiebapfgpchaaGreatDoorSqIa
import Derived.Test.YtlfiebapfgpchaaGreatDoorSqHf
import Derived.Deep.DeepCutAuto
namespace Go.Proofs
open Go.RowKit Go.Wi Go.Dg
/-- Bytes in a block. -/
def Dg.Br (T : TypeId) (w : World) (g : Nat) (l : List UInt8) : Prop := w.heap[g]? = some (.cells (Lib.byteCells l).toArray T (0, 0))
theorem Dg.Br.cell {T : TypeId} {w : World} {g : Nat} {l : List UInt8} (h : Dg.Br T w g l) {i : Nat} (hi : i < l.length) : w.cell? ⟨g, i, none⟩ = some (.int .u8 (l[i].toNat : Nat)) := by
  rw [cell_of_row _ _ _ _ _ _ h]
  simp [Lib.byteCells, hi]
theorem Dg.Br.frozen {T : TypeId} {w : World} {g : Nat} {l : List UInt8} (h : Dg.Br T w g l) (i : Nat) : w.frozen? ⟨g, i, none⟩ = false := by
  simp [World.frozen?, show w.heap[g]? = _ from h]
theorem Dg.Br.keep {T : TypeId} {w w' : World} {g : Nat} {l : List UInt8} (h : Dg.Br T w g l) (e : w'.heap[g]? = w.heap[g]?) : Dg.Br T w' g l := e.trans h
theorem Dg.Br.lt {T : TypeId} {w : World} {g : Nat} {l : List UInt8} (h : Dg.Br T w g l) : g < w.heap.size := block_lt h
theorem Dg.Br.set {T : TypeId} {w : World} {g : Nat} {l : List UInt8} (h : Dg.Br T w g l) (i : Nat) (c : UInt8) (z : Int) (hz : z = (c.toNat : Nat)) : Dg.Br T (w.setCell ⟨g, i, none⟩ (.int .u8 z)) g (l.set i c) := by
  subst hz
  obtain ⟨hlt, hk⟩ := Array.getElem?_eq_some_iff.1 h
  show (w.heap.modify g _)[g]? = _
  rw [Array.getElem?_eq_getElem (by rw [Array.size_modify]; exact hlt), Array.getElem_modify_self, hk]
  simp [Lib.byteCells, List.map_set]
theorem Dg.or_add {a b k : Nat} (hb : b < 2 ^ k) (ha : a % 2 ^ k = 0) : a ||| b = a + b := by
  obtain ⟨q, hq⟩ : ∃ q, a = 2 ^ k * q := ⟨a / 2 ^ k, by have := Nat.div_add_mod a (2 ^ k); omega⟩
  rw [hq, ← Nat.two_pow_add_eq_or_of_lt hb]
theorem Dg.wrd_or (a b c d : Nat) (ha : a < 256) (hb : b < 256) (hc : c < 256) (hd : d < 256) :
    bits .or .u32 (bits .or .u32 (bits .or .u32 ((a : Int) * 16777216) ((b : Int) * 65536)) ((c : Int) * 256)) (d : Int) = ((a * 16777216 + b * 65536 + c * 256 + d : Nat) : Int) := by
  have e1 : (a : Int) * 16777216 = ((a * 16777216 : Nat) : Int) := by omega
  have e2 : (b : Int) * 65536 = ((b * 65536 : Nat) : Int) := by omega
  have e3 : (c : Int) * 256 = ((c * 256 : Nat) : Int) := by omega
  rw [e1, e2, e3, u32_or_nat _ _ (by omega) (by omega), Dg.or_add (k := 24) (by omega) (by omega), u32_or_nat _ _ (by omega) (by omega), Dg.or_add (k := 16) (by omega) (by omega), u32_or_nat _ _ (by omega) (by omega), Dg.or_add (k := 8) (by omega) (by omega)]
/-- All of it while the words are made. -/
structure Tryz.Sp (w0 : World) (m : List UInt8) (W : List Nat) (wr : World) : Prop where
  b : Below w0.heap.size w0 wr
  m : Dg.Br 155 wr w0.heap.size m
  w : Dg.Ar 183 wr (w0.heap.size + 1 + 1) W
  r : Dg.Ar 183 wr (w0.heap.size + 1) (List.replicate 64 0)
theorem Tryz.Sp.drewN {w0 : World} {m : List UInt8} {W : List Nat} {wr : World} (h : Tryz.Sp w0 m W wr) (n : Nat) : Tryz.Sp w0 m W (wr.drewN n) := ⟨belowN h.b n, h.m, h.w, h.r⟩
theorem Tryz.Sp.setW {w0 : World} {m : List UInt8} {W : List Nat} {wr : World} (h : Tryz.Sp w0 m W wr) (i x : Nat) (v : Int) (hv : v = x) : Tryz.Sp w0 m (W.set i x) (wr.setCell ⟨w0.heap.size + 1 + 1, i, none⟩ (.int .u32 v)) := by
  subst hv
  refine ⟨h.b.setCell (p := ⟨w0.heap.size + 1 + 1, i, none⟩) (by show w0.heap.size ≤ w0.heap.size + 1 + 1; omega) _, h.m.keep ?_, h.w.set i x, h.r.keep ?_⟩ <;> exact Below.heap_setCell _ _ _ _ (by show _ ≠ w0.heap.size + 1 + 1; omega)
theorem Tryz.Sp.start (w : World) (m : List UInt8) : Tryz.Sp w m (List.replicate 64 0) (((w.alloc (.cells (Lib.byteCells m).toArray 155)).alloc (.cells ((List.replicate 64 0).map fun (n : Nat) => Value.int .u32 (n : Int)).toArray 183)).alloc (.cells ((List.replicate 64 0).map fun (n : Nat) => Value.int .u32 (n : Int)).toArray 183)) := by
  refine ⟨(((Below.refl _ w).alloc (Nat.le_refl _) _).alloc (by simp only [World.size_alloc]; omega) _).alloc (by simp only [World.size_alloc]; omega) _, ?_, ?_, ?_⟩
  · exact (Below.heap_alloc _ _ _ (by simp only [World.size_alloc]; omega)).trans ((Below.heap_alloc _ _ _ (by simp only [World.size_alloc]; omega)).trans (heap_alloc_new w _))
  · have h := heap_alloc_new ((w.alloc (.cells (Lib.byteCells m).toArray 155)).alloc (.cells ((List.replicate 64 0).map fun (n : Nat) => Value.int .u32 (n : Int)).toArray 183)) (.cells ((List.replicate 64 0).map fun (n : Nat) => Value.int .u32 (n : Int)).toArray 183)
    rw [World.size_alloc, World.size_alloc] at h
    exact h
  · have h := heap_alloc_new (w.alloc (.cells (Lib.byteCells m).toArray 155)) (.cells ((List.replicate 64 0).map fun (n : Nat) => Value.int .u32 (n : Int)).toArray 183)
    rw [World.size_alloc] at h
    exact (Below.heap_alloc _ _ _ (by simp only [World.size_alloc]; omega)).trans h
theorem Tryz.over64 {w : World} {g : Nat} {l0 : List Nat} (h : Dg.Ar 183 w g l0) (h0 : l0.length = 64) (l : List Nat) (hl : l.length = 64) : (storeCells ⟨g, 0, none⟩ (l.map fun (n : Nat) => Value.int .u32 (n : Int)) 0).run Tryz.prog w = .ok () (w.setRow g (l.map fun (n : Nat) => Value.int .u32 (n : Int)).toArray) := by
  have := run_storeCells_from (P := Tryz.prog) g 183 (l.map fun (n : Nat) => Value.int .u32 (n : Int)) 0 _ w h (by simp [h0, hl]) (fun v hv => by
    simp only [List.mem_map] at hv
    obtain ⟨n, _, rfl⟩ := hv
    rfl)
  simpa [h0, hl] using this
set_option maxRecDepth 20000 in
set_option maxHeartbeats 1000000 in
theorem Tryz.spread_any (m : List UInt8) (hm : m.length = 64) (w : World) :
    Calls Tryz.prog 93 #[.agg (Lib.byteCells m).toArray] w fun e w' => e = .returned (.agg ((words m).map fun (n : Nat) => Value.int .u32 (n : Int)).toArray) ∧ Below w.heap.size w w' := by
  go_enter Tryz.func93, Tryz.ntmps93
  go_wp2
  go_loopw [8] (fun iv wr => ∃ (i : Nat) (W : List Nat), iv = .int .i64 i ∧ i ≤ 16 ∧ W.length = 64 ∧ Small W ∧ W.take i = (List.range i).map (wrd m) ∧ Tryz.Sp w m W wr) (fun iv _ => 16 - (intOf iv).toNat)
  case atStart =>
    refine ⟨0, List.replicate 64 0, rfl, by omega, by simp, fun n hn => by rw [(List.mem_replicate.1 hn).2]; decide, by simp, ?_⟩
    exact Tryz.Sp.start w m
  case round =>
    obtain ⟨i, W, rfl, hi16, hWl, hWs, hW, hB⟩ := hrel
    by_cases hi : i < 16
    · have q1 : (i : Int) < 16 := by omega
      have c1 := hB.w.frozen i
      have c2 := hB.w.cell (i := i) (by omega)
      obtain ⟨J, hJ⟩ : ∃ J : Nat, J = 4 * i := ⟨_, rfl⟩
      have hwr : IntKind.i64.wrap (4 * (i : Int)) = (J : Int) := by rw [IntKind.wrap_i64]; omega
      obtain ⟨J1, hJ1⟩ : ∃ J1 : Nat, J1 = 4 * i + 1 := ⟨_, rfl⟩
      have hw1 : IntKind.i64.wrap ((J : Int) + 1) = (J1 : Int) := by rw [IntKind.wrap_i64]; omega
      obtain ⟨J2, hJ2⟩ : ∃ J2 : Nat, J2 = 4 * i + 2 := ⟨_, rfl⟩
      have hw2 : IntKind.i64.wrap ((J : Int) + 2) = (J2 : Int) := by rw [IntKind.wrap_i64]; omega
      obtain ⟨J3, hJ3⟩ : ∃ J3 : Nat, J3 = 4 * i + 3 := ⟨_, rfl⟩
      have hw3 : IntKind.i64.wrap ((J : Int) + 3) = (J3 : Int) := by rw [IntKind.wrap_i64]; omega
      have b0 := hB.m.cell (i := J) (by omega)
      have b1 := hB.m.cell (i := J1) (by omega)
      have b2 := hB.m.cell (i := J2) (by omega)
      have b3 := hB.m.cell (i := J3) (by omega)
      have l0 := (m[J]'(by omega)).toNat_lt
      have l1 := (m[J1]'(by omega)).toNat_lt
      have l2 := (m[J2]'(by omega)).toNat_lt
      have l3 := (m[J3]'(by omega)).toNat_lt
      have hx : wrd m i = (m[J]'(by omega)).toNat * 16777216 + (m[J1]'(by omega)).toNat * 65536 + (m[J2]'(by omega)).toNat * 256 + (m[J3]'(by omega)).toNat := by
        unfold wrd
        rw [← hJ3, ← hJ2, ← hJ1, ← hJ]
        simp only [List.getD_eq_getElem?_getD]
        rw [List.getElem?_eq_getElem (by omega), List.getElem?_eq_getElem (by omega), List.getElem?_eq_getElem (by omega), List.getElem?_eq_getElem (by omega)]
        rfl
      have i0 : (0 : Int) ≤ (J : Int) := by omega
      have i1 : (J : Int) < 64 := by omega
      have o1 : (0 : Int) ≤ (J1 : Int) := by omega
      have r1 : (J1 : Int) < 64 := by omega
      have o2 : (0 : Int) ≤ (J2 : Int) := by omega
      have r2 : (J2 : Int) < 64 := by omega
      have o3 : (0 : Int) ≤ (J3 : Int) := by omega
      have r3 : (J3 : Int) < 64 := by omega
      have q2 : (0 : Int) ≤ (i : Int) := by omega
      have q3 : (i : Int) < 64 := by omega
      have q4 : (i : Int) + 1 ≤ 100 := by omega
      have HX : Hid _ := hx
      have HB : Hid _ := hB
      have HW : Hid _ := hW
      have HWs : Hid _ := hWs
      clear hB hW hWs hx
      generalize (m[J]'(by omega)).toNat = A at *
      generalize (m[J1]'(by omega)).toNat = B at *
      generalize (m[J2]'(by omega)).toNat = C at *
      generalize (m[J3]'(by omega)).toNat = D at *
      clear hJ hJ1 hJ2 hJ3
      go_wp2
      (refine Go.Lq.wp_region_last 31 (by kernel_rfl) (by kernel_rfl) ?_; dsimp only [List.dropLast]; (repeat (quiet_step (fail))); refine wpQuiet_nil ?_; intro _ hw'; obtain ⟨nq, hw''⟩ := hw'; subst hw''; refine Go.Lq.wpOp_last rfl rfl ?_; unfold Oper.wp; go_simp)
      go_wp2
      go_roundw
      case rel =>
        refine ⟨i + 1, W.set i (wrd m i), by go_num, by omega, by rw [List.length_set]; exact hWl, Small.set HWs.out i (by rw [HX.out]; omega), ?_, (HB.out.drewN nq).setW i _ _ ?_⟩
        · rw [take_set (by omega), HW.out, List.range_succ, List.map_append]
          rfl
        · rw [HX.out]
          exact Dg.wrd_or A B C D l0 l1 l2 l3
      case measure => simp [intOf]; omega
    · obtain rfl : i = 16 := by omega
      go_wp2
      go_loopw [5] (fun iv wr => ∃ (t : Nat) (W : List Nat), iv = .int .i64 t ∧ 16 ≤ t ∧ t ≤ 64 ∧ W.length = 64 ∧ Small W ∧ W.take t = sched (t - 16) ((List.range 16).map (wrd m)) ∧ Tryz.Sp w m W wr) (fun iv _ => 64 - (intOf iv).toNat)
      case atStart => exact ⟨16, W, rfl, by omega, by omega, hWl, hWs, hW, hB⟩
      case round =>
        clear hB hW hWs hWl W hi hi16
        obtain ⟨t, W, rfl, ht1, ht2, hWl, hWs, hW, hB⟩ := hrel
        by_cases ht : t < 64
        · have q1 : (t : Int) < 64 := by omega
          obtain ⟨T15, h15⟩ : ∃ T : Nat, T = t - 15 := ⟨_, rfl⟩
          obtain ⟨T2, h2⟩ : ∃ T : Nat, T = t - 2 := ⟨_, rfl⟩
          obtain ⟨T16, h16⟩ : ∃ T : Nat, T = t - 16 := ⟨_, rfl⟩
          obtain ⟨T7, h7⟩ : ∃ T : Nat, T = t - 7 := ⟨_, rfl⟩
          have e15 : IntKind.i64.wrap ((t : Int) - 15) = (T15 : Int) := by rw [IntKind.wrap_i64]; omega
          have e2 : IntKind.i64.wrap ((t : Int) - 2) = (T2 : Int) := by rw [IntKind.wrap_i64]; omega
          have e16 : IntKind.i64.wrap ((t : Int) - 16) = (T16 : Int) := by rw [IntKind.wrap_i64]; omega
          have e7 : IntKind.i64.wrap ((t : Int) - 7) = (T7 : Int) := by rw [IntKind.wrap_i64]; omega
          have c15 := hB.w.cell (i := T15) (by omega)
          have c2 := hB.w.cell (i := T2) (by omega)
          have c16 := hB.w.cell (i := T16) (by omega)
          have c7 := hB.w.cell (i := T7) (by omega)
          have ct := hB.w.cell (i := t) (by omega)
          have cf := hB.w.frozen t
          have hX := hWs.get (i := T15) (by omega)
          have hY := hWs.get (i := T2) (by omega)
          have hA := hWs.get (i := T16) (by omega)
          have hBb := hWs.get (i := T7) (by omega)
          have hnx : nxt (W.take t) = (W[T16]'(by omega) + W[T7]'(by omega) + sml (W[T15]'(by omega)) + smr (W[T2]'(by omega))) % 4294967296 := by
            unfold nxt
            rw [List.length_take, Nat.min_eq_left (by omega), take_getD (by omega) (by omega), take_getD (by omega) (by omega), take_getD (by omega) (by omega), take_getD (by omega) (by omega)]
            simp only [h15, h2, h16, h7]
          have k1 : (0 : Int) ≤ (T15 : Int) := by omega
          have k2 : (T15 : Int) < 64 := by omega
          have k3 : (0 : Int) ≤ (T2 : Int) := by omega
          have k4 : (T2 : Int) < 64 := by omega
          have k5 : (0 : Int) ≤ (T16 : Int) := by omega
          have k6 : (T16 : Int) < 64 := by omega
          have k7 : (0 : Int) ≤ (T7 : Int) := by omega
          have k8 : (T7 : Int) < 64 := by omega
          have k9 : (0 : Int) ≤ (t : Int) := by omega
          have k10 : (t : Int) + 1 ≤ 100 := by omega
          have HB : Hid _ := hB
          have HW : Hid _ := hW
          have HWs : Hid _ := hWs
          have Hnx : Hid _ := hnx
          clear hB hW hWs hnx
          generalize W[T15]'(by omega) = X at *
          generalize W[T2]'(by omega) = Y at *
          generalize W[T16]'(by omega) = A at *
          generalize W[T7]'(by omega) = B at *
          generalize W[t]'(by omega) = O at *
          clear h15 h2 h16 h7
          have t7 : ∀ Z, Calls Tryz.prog 94 #[.int .u32 (X : Int), .int .i64 7] Z fun e w' => e = .returned (.int .u32 ((rot X 7 : Nat) : Int)) ∧ ∃ m, w' = Z.drewN m := fun Z => Tryz.turn_any X 7 hX (by decide) (by decide) Z
          have t18 : ∀ Z, Calls Tryz.prog 94 #[.int .u32 (X : Int), .int .i64 18] Z fun e w' => e = .returned (.int .u32 ((rot X 18 : Nat) : Int)) ∧ ∃ m, w' = Z.drewN m := fun Z => Tryz.turn_any X 18 hX (by decide) (by decide) Z
          have t17 : ∀ Z, Calls Tryz.prog 94 #[.int .u32 (Y : Int), .int .i64 17] Z fun e w' => e = .returned (.int .u32 ((rot Y 17 : Nat) : Int)) ∧ ∃ m, w' = Z.drewN m := fun Z => Tryz.turn_any Y 17 hY (by decide) (by decide) Z
          have t19 : ∀ Z, Calls Tryz.prog 94 #[.int .u32 (Y : Int), .int .i64 19] Z fun e w' => e = .returned (.int .u32 ((rot Y 19 : Nat) : Int)) ∧ ∃ m, w' = Z.drewN m := fun Z => Tryz.turn_any Y 19 hY (by decide) (by decide) Z
          go_wp2
          go_quiet (fail)
          have HB2 : Hid (Tryz.Sp w m W (wr.drewN nq)) := HB.out.drewN nq
          have c16' : (wr.drewN nq).cell? ⟨w.heap.size + 1 + 1, T16, none⟩ = some (.int .u32 (A : Int)) := c16
          have c7' : (wr.drewN nq).cell? ⟨w.heap.size + 1 + 1, T7, none⟩ = some (.int .u32 (B : Int)) := c7
          have ct' : (wr.drewN nq).cell? ⟨w.heap.size + 1 + 1, t, none⟩ = some (.int .u32 (O : Int)) := ct
          have cf' : (wr.drewN nq).frozen? ⟨w.heap.size + 1 + 1, t, none⟩ = false := cf
          clear c15 c2 c16 c7 ct cf HB
          generalize wr.drewN nq = wz at *
          go_wp2
          (refine Go.Lq.wp_region_last 29 (by kernel_rfl) (by kernel_rfl) ?_; dsimp only [List.dropLast]; (repeat (quiet_step (first | (go_at_call_of 94 (Value.int IntKind.i64 7); exact Calls.quiet_of (t7 _)) | (go_at_call_of 94 (Value.int IntKind.i64 18); exact Calls.quiet_of (t18 _)) | (go_at_call_of 94 (Value.int IntKind.i64 17); exact Calls.quiet_of (t17 _)) | (go_at_call_of 94 (Value.int IntKind.i64 19); exact Calls.quiet_of (t19 _))))); refine wpQuiet_nil ?_; intro _ hw'; obtain ⟨nq, hw''⟩ := hw'; subst hw''; refine Go.Lq.wpOp_last rfl rfl ?_; unfold Oper.wp; go_simp)
          go_wp2
          refine ⟨⟨_, _, _, _, _, _, _, _, _, _, _, _, _, _, _, _, _, _, _, _, _, _, _, _, _, _, _, _, _, _, _, _, _, _, _, _, _, _, _, _, _, _, _, _, ?rr, rfl⟩, ?mm⟩
          case rr =>
            refine ⟨t + 1, W.set t (nxt (W.take t)), by go_num, by omega, by omega, by rw [List.length_set]; exact hWl, Small.set HWs.out t (by rw [Hnx.out]; exact Nat.mod_lt _ (by decide)), ?_, (HB2.out.drewN nq).setW t _ _ ?_⟩
            · rw [take_set (by omega), show t + 1 - 16 = (t - 16) + 1 by omega, sched_snoc, HW.out]
            · rw [Hnx.out]
              exact nxt_bits hA hBb hX hY
          case mm => show 64 - (intOf (Value.int .i64 ((t : Int) + 1))).toNat < 64 - (intOf (Value.int .i64 (t : Int))).toNat; simp [intOf]; omega
        · obtain rfl : t = 64 := by omega
          have hWe : W = words m := by
            rw [List.take_of_length_le (by omega), show 64 - 16 = 48 from rfl] at hW
            exact hW
          have HWe : Hid _ := hWe
          have HB : Hid _ := hB
          clear hB hW hWe
          go_upto_region 12 with (fail)
          refine wp_region_lit ?_
          refine Dg.step_value rfl (v := .agg (W.map fun (n : Nat) => Value.int .u32 (n : Int)).toArray) (w' := wr) ?_ ?_
          · have ld := Tryz.load64 HB.out.w hWl
            exact Dg.run_load rfl rfl ld
          refine Dg.step_skip rfl (w' := wr.setRow (w.heap.size + 1) (W.map fun (n : Nat) => Value.int .u32 (n : Int)).toArray) ?_ (wpList_nil ?_)
          · have st := Tryz.store64 HB.out.r (by simp) W hWl
            exact Dg.run_store rfl rfl rfl st
          go_wp2
          refine bodyPost_ret (results_cell_row rfl _ _ (w.heap.size + 1) _ _ _ _ rfl (Dg.Ar.setRow HB.out.r W) Tryz.underlying183 rfl (Tryz.size64 W hWl)) rfl ⟨?_, below_setRow HB.out.b (by omega) _⟩
          rw [← HWe.out]
end Go.Proofs

namespace Go.Proofs
open Go.RowKit Go.Wi Go.Dg
theorem Tryz.sizeS (l : List Nat) (h : l.length = 8) : (Tryz.prog.info? 158).map (·.size) = some ((l.map fun (n : Nat) => Value.int .u32 (n : Int)).toArray).size := by
  have : (Tryz.prog.info? 158).map (·.size) = some 8 := by kernel_rfl
  rw [this]
  simp [h]
theorem Tryz.storeS {w : World} {g : Nat} {l0 : List Nat} (h : Dg.Ar 158 w g l0) (h0 : l0.length = 8) (l : List Nat) (hl : l.length = 8) : (Instr.storeAt 158 (.pointer (some ⟨g, 0, none⟩)) (.agg (l.map fun (n : Nat) => Value.int .u32 (n : Int)).toArray)).run Tryz.prog w = .ok () (w.setRow g (l.map fun (n : Nat) => Value.int .u32 (n : Int)).toArray) := by
  simp only [Instr.storeAt, Instr.sureAddr, Sem.run_bind, Sem.run_pure, Result.andThen]
  exact run_storeVar_row w g _ _ _ _ h (Tryz.sizeS l hl) (by simp [h0, hl]) (Dg.all_one l)
theorem Tryz.loadS {w : World} {g : Nat} {l : List Nat} (h : Dg.Ar 158 w g l) (hl : l.length = 8) : (Instr.loadAt 158 (.pointer (some ⟨g, 0, none⟩))).run Tryz.prog w = .ok (.agg (l.map fun (n : Nat) => Value.int .u32 (n : Int)).toArray) w := by
  simp only [Instr.loadAt, Instr.sureAddr, Sem.run_bind, Sem.run_pure, Result.andThen]
  exact run_loadVar_row w g _ _ _ _ _ h Tryz.underlying158 rfl (Tryz.sizeS l hl)
theorem Tryz.sizeB (l : List UInt8) (h : l.length = 64) : (Tryz.prog.info? 155).map (·.size) = some ((Lib.byteCells l).toArray).size := by
  have : (Tryz.prog.info? 155).map (·.size) = some 64 := by kernel_rfl
  rw [this]
  simp [Lib.byteCells, h]
theorem Tryz.loadB {w : World} {g : Nat} {l : List UInt8} (h : Dg.Br 155 w g l) (hl : l.length = 64) : (Instr.loadAt 155 (.pointer (some ⟨g, 0, none⟩))).run Tryz.prog w = .ok (.agg (Lib.byteCells l).toArray) w := by
  simp only [Instr.loadAt, Instr.sureAddr, Sem.run_bind, Sem.run_pure, Result.andThen]
  exact run_loadVar_row w g _ _ _ _ _ h Tryz.underlying155 rfl (Tryz.sizeB l hl)
/-- The two tables. -/
structure Tryz.Tq (w : World) : Prop where
  sz : 2 ≤ w.heap.size
  sq : ∀ i (h : i < 8), w.cell? ⟨0, i, none⟩ = some (.int .u32 ((Dg.start.l[i]'h : Nat) : Int))
  cu : ∀ i (h : i < 64), w.cell? ⟨1, i, none⟩ = some (.int .u32 ((rounds[i]'h : Nat) : Int))
theorem Tryz.Tq.keep {w w' : World} (h : Tryz.Tq w) (hs : w.heap.size ≤ w'.heap.size) (hk : ∀ k, k < 2 → w'.heap[k]? = w.heap[k]?) : Tryz.Tq w' :=
  ⟨Nat.le_trans h.sz hs, fun i hi => (World.cell?_of_block (w := w) (a := ⟨0, i, none⟩) (hk 0 (by decide))).trans (h.sq i hi), fun i hi => (World.cell?_of_block (w := w) (a := ⟨1, i, none⟩) (hk 1 (by decide))).trans (h.cu i hi)⟩
theorem Tryz.Tq.below {B : Nat} {w w' : World} (h : Tryz.Tq w) (g : Below B w w') (hB : 2 ≤ B) : Tryz.Tq w' := h.keep g.size fun k hk => g.block k (by omega)
/-- All of it while a block is stirred in. -/
structure Tryz.Sr (w0 : World) (s : List Nat) (g : Nat) (W : List Nat) (wr : World) : Prop where
  b : Below w0.heap.size w0 wr
  s : Dg.Ar 158 wr w0.heap.size s
  r : Dg.Ar 158 wr (w0.heap.size + 1 + 1) (List.replicate 8 0)
  w : Dg.Ar 183 wr g W
theorem Tryz.Sr.drewN {w0 : World} {s : List Nat} {g : Nat} {W : List Nat} {wr : World} (h : Tryz.Sr w0 s g W wr) (n : Nat) : Tryz.Sr w0 s g W (wr.drewN n) := ⟨belowN h.b n, h.s, h.r, h.w⟩
theorem Tryz.Sr.setS {w0 : World} {s : List Nat} {g : Nat} {W : List Nat} {wr : World} (h : Tryz.Sr w0 s g W wr) (hg : w0.heap.size + 1 + 1 < g) (i x : Nat) (v : Int) (hv : v = x) : Tryz.Sr w0 (s.set i x) g W (wr.setCell ⟨w0.heap.size, i, none⟩ (.int .u32 v)) := by
  subst hv
  refine ⟨h.b.setCell (p := ⟨w0.heap.size, i, none⟩) (Nat.le_refl _) _, h.s.set i x, h.r.keep ?_, h.w.keep ?_⟩ <;> exact Below.heap_setCell _ _ _ _ (by show _ ≠ w0.heap.size; omega)
theorem Dg.words_len (m : List UInt8) : (words m).length = 64 := by unfold words; rw [sched_len]; simp
theorem Dg.nxt_lt (w : List Nat) : nxt w < 4294967296 := Nat.mod_lt _ (by decide)
theorem Dg.sched_small : ∀ (n : Nat) (w : List Nat), Small w → Small (sched n w)
  | 0, _, h => h
  | n + 1, w, h => Dg.sched_small n _ fun x hx => by
    rcases List.mem_append.1 hx with h1 | h1
    · exact h x h1
    · rw [List.mem_singleton.1 h1]; exact Dg.nxt_lt w
theorem Dg.words_small (m : List UInt8) : Small (words m) := Dg.sched_small _ _ fun x hx => by
  simp only [List.mem_map] at hx
  obtain ⟨t, _, rfl⟩ := hx
  unfold wrd
  have h0 := (m.getD (4 * t) 0).toNat_lt
  have h1 := (m.getD (4 * t + 1) 0).toNat_lt
  have h2 := (m.getD (4 * t + 2) 0).toNat_lt
  have h3 := (m.getD (4 * t + 3) 0).toNat_lt
  omega
set_option maxRecDepth 20000 in
theorem Tryz.idx8 (v : S8) : ∀ (i : Nat) (hi : i < 8) (w : World), (Instr.index 157 (.agg #[.int .u32 (v.a : Int), .int .u32 (v.b : Int), .int .u32 (v.c : Int), .int .u32 (v.d : Int), .int .u32 (v.e : Int), .int .u32 (v.f : Int), .int .u32 (v.g : Int), .int .u32 (v.h : Int)]) (.int .i64 (i : Int))).run Tryz.prog w = .ok (.int .u32 ((v.l[i]'hi : Nat) : Int)) w
  | 0, _, _ => rfl
  | 1, _, _ => rfl
  | 2, _, _ => rfl
  | 3, _, _ => rfl
  | 4, _, _ => rfl
  | 5, _, _ => rfl
  | 6, _, _ => rfl
  | 7, _, _ => rfl
  | i + 8, h, _ => by omega
end Go.Proofs
