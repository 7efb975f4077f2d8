/-
  Laid together by merge.py of Ig Ih.
-/
import Derived.Test.YtlfiebapfgpchaaGreatDoorSqIe
namespace Go.Proofs
open Go.RowKit Go.Wi Go.Dg
theorem Tryz.size32 (l : List UInt8) (h : l.length = 32) : (Tryz.prog.info? 102).map (·.size) = some ((Lib.byteCells l).toArray).size := by
  have : (Tryz.prog.info? 102).map (·.size) = some 32 := by kernel_rfl
  rw [this]
  simp [Lib.byteCells, h]
theorem Dg.all_byte (l : List UInt8) : ((Lib.byteCells l).toArray).all (·.oneCell') = true := by simp [Lib.byteCells, Value.oneCell']
theorem Tryz.load32 {w : World} {g : Nat} {l : List UInt8} (h : Dg.Br 102 w g l) (hl : l.length = 32) : (Instr.loadAt 102 (.pointer (some ⟨g, 0, none⟩))).run Tryz.prog w = .ok (.agg (Lib.byteCells l).toArray) w := by
  simp only [Instr.loadAt, Instr.sureAddr, Sem.run_bind, Sem.run_pure, Result.andThen]
  exact run_loadVar_row w g _ _ _ _ _ h Tryz.underlying102 rfl (Tryz.size32 l hl)
theorem Tryz.store32 {w : World} {g : Nat} {l0 : List UInt8} (h : Dg.Br 102 w g l0) (h0 : l0.length = 32) (l : List UInt8) (hl : l.length = 32) : (Instr.storeAt 102 (.pointer (some ⟨g, 0, none⟩)) (.agg (Lib.byteCells l).toArray)).run Tryz.prog w = .ok () (w.setRow g (Lib.byteCells l).toArray) := by
  simp only [Instr.storeAt, Instr.sureAddr, Sem.run_bind, Sem.run_pure, Result.andThen]
  exact run_storeVar_row w g _ _ _ _ h (Tryz.size32 l hl) (by simp [Lib.byteCells, h0, hl]) (Dg.all_byte l)
theorem Dg.Br.setRow {T : TypeId} {w : World} {g : Nat} {l : List UInt8} (h : Dg.Br T w g l) (l' : List UInt8) : Dg.Br T (w.setRow g (Lib.byteCells l').toArray) g l' := setRow_heap w g _ _ _ _ h
/-- All of it while the bytes are written. -/
structure Tryz.By (w0 : World) (L : List UInt8) (wr : World) : Prop where
  b : Below w0.heap.size w0 wr
  r : Dg.Br 102 wr (w0.heap.size + 1) (List.replicate 32 0)
  l : Dg.Br 102 wr (w0.heap.size + 1 + 1) L
theorem Tryz.By.set {w0 : World} {L : List UInt8} {wr : World} (h : Tryz.By w0 L wr) (i : Nat) (c : UInt8) (z : Int) (hz : z = (c.toNat : Nat)) : Tryz.By w0 (L.set i c) (wr.setCell ⟨w0.heap.size + 1 + 1, i, none⟩ (.int .u8 z)) :=
  ⟨h.b.setCell (p := ⟨w0.heap.size + 1 + 1, i, none⟩) (by show w0.heap.size ≤ w0.heap.size + 1 + 1; omega) _, h.r.keep (Below.heap_setCell _ _ _ _ (by show _ ≠ w0.heap.size + 1 + 1; omega)), h.l.set i c z hz⟩
theorem Dg.take_set8 {l : List UInt8} {t : Nat} {v : UInt8} (ht : t < l.length) : (l.set t v).take (t + 1) = l.take t ++ [v] := by
  rw [List.take_add_one, List.take_set_of_le (Nat.le_refl _)]
  simp [ht]
theorem Dg.take_next8 {l : List UInt8} {t : Nat} {v : UInt8} (h : l[t]? = some v) : l.take (t + 1) = l.take t ++ [v] := by
  rw [List.take_add_one, h]
  rfl
set_option maxRecDepth 20000 in
set_option maxHeartbeats 1000000 in
theorem Tryz.bytes_any (s : S8) (hs : Small s.l) (w : World) :
    Calls Tryz.prog 84 #[.agg (s.l.map fun (n : Nat) => Value.int .u32 (n : Int)).toArray] w fun e w' => e = .returned (.agg (Lib.byteCells (out s)).toArray) ∧ Below w.heap.size w w' := by
  go_enter Tryz.func84, Tryz.ntmps84
  go_upto_region 2 with (fail)
  obtain ⟨wa, hwa⟩ : ∃ wa, wa = ((w.alloc (.cells (s.l.map fun (n : Nat) => Value.int .u32 (n : Int)).toArray 158)).alloc (.cells (Lib.byteCells (List.replicate 32 0)).toArray 102)).alloc (.cells (Lib.byteCells (List.replicate 32 0)).toArray 102) := ⟨_, rfl⟩
  have HA : Hid (Dg.Ar 158 wa w.heap.size s.l ∧ Tryz.By w (List.replicate 32 0) wa) := by
    rw [hwa]
    refine ⟨?_, (((Below.refl _ w).alloc (Nat.le_refl _) _).alloc (by simp only [World.size_alloc]; omega) _).alloc (by simp only [World.size_alloc]; omega) _, ?_, ?_⟩
    · exact (Below.heap_alloc _ _ _ (by simp only [World.size_alloc]; omega)).trans ((Below.heap_alloc _ _ _ (by simp only [World.size_alloc]; omega)).trans (heap_alloc_new w _))
    · have h := heap_alloc_new (w.alloc (.cells (s.l.map fun (n : Nat) => Value.int .u32 (n : Int)).toArray 158)) (.cells (Lib.byteCells (List.replicate 32 0)).toArray 102)
      rw [World.size_alloc] at h
      exact (Below.heap_alloc _ _ _ (by simp only [World.size_alloc]; omega)).trans h
    · have h := heap_alloc_new ((w.alloc (.cells (s.l.map fun (n : Nat) => Value.int .u32 (n : Int)).toArray 158)).alloc (.cells (Lib.byteCells (List.replicate 32 0)).toArray 102)) (.cells (Lib.byteCells (List.replicate 32 0)).toArray 102)
      rw [World.size_alloc, World.size_alloc] at h
      exact h
  refine wp_region_lit ?_
  refine Dg.step_value rfl (v := .agg (s.l.map fun (n : Nat) => Value.int .u32 (n : Int)).toArray) (w' := wa) ?_ ?_
  · have ld := Tryz.loadS HA.out.1 rfl
    rw [hwa] at ld ⊢
    exact Dg.run_load rfl rfl ld
  clear hwa
  have HB : Hid _ := HA.out.2
  clear HA
  go_wp2
  go_loopw [8] (fun iv wr => ∃ (i : Nat) (L : List UInt8), iv = .int .i64 i ∧ i ≤ 8 ∧ L.length = 32 ∧ Hid (L.take (4 * i) = (out s).take (4 * i)) ∧ Hid (Tryz.By w L wr)) (fun iv _ => 8 - (intOf iv).toNat)
  case atStart => exact ⟨0, List.replicate 32 0, rfl, by omega, rfl, by rw [Nat.mul_zero, List.take_zero, List.take_zero]; rfl, HB⟩
  case round =>
    clear HB
    obtain ⟨i, L, rfl, hi8, hLl, HL, HB⟩ := hrel
    by_cases hi : i < 8
    · have q1 : (i : Int) < 8 := by omega
      have q2 : (0 : Int) ≤ (i : Int) := by omega
      have q3 : (i : Int) + 1 ≤ 100 := by omega
      have hix := Tryz.idxS s i hi wr
      obtain ⟨x, hx⟩ : ∃ x, x = s.l[i]'hi := ⟨_, rfl⟩
      have hxl : x < 4294967296 := by rw [hx]; exact hs.get hi
      rw [← hx] at hix
      have HX : Hid (x = s.l[i]'hi) := hx
      clear hx
      obtain ⟨J, hJ⟩ : ∃ J : Nat, J = 4 * i := ⟨_, rfl⟩
      have HJ : Hid (J = 4 * i) := hJ
      have e1 : 4 * (i : Int) = (J : Int) := by omega
      have HL0 : Hid (L.take J = (out s).take J) := by rw [hJ]; exact HL
      clear hJ HL
      go_wp2
      go_loopw [12] (fun iv wr => ∃ (k : Nat) (L : List UInt8), iv = .int .i64 k ∧ k ≤ 4 ∧ L.length = 32 ∧ Hid (L.take (J + k) = (out s).take (J + k)) ∧ Hid (Tryz.By w L wr)) (fun iv _ => 4 - (intOf iv).toNat)
      case atStart => exact ⟨0, L, rfl, by omega, hLl, by rw [Nat.add_zero]; exact HL0, HB⟩
      case round =>
        clear HB HL0 hLl L hix
        obtain ⟨k, L, rfl, hk4, hLl, HL, HB⟩ := hrel
        by_cases hk : k < 4
        · have r1 : (k : Int) < 4 := by omega
          obtain ⟨I, hI⟩ : ∃ I : Nat, I = J + k := ⟨_, rfl⟩
          have hI32 : I < 32 := by have := HJ.out; omega
          have e2 : (J : Int) + (k : Int) = (I : Int) := by omega
          have r2 : (0 : Int) ≤ (I : Int) := by omega
          have r3 : (I : Int) < 32 := by omega
          obtain ⟨A, hA⟩ : ∃ A : Int, A = 24 - 8 * (k : Int) := ⟨_, rfl⟩
          have HA : Hid (A = 24 - 8 * (k : Int)) := hA
          have e3 : 24 - 8 * (k : Int) = A := by omega
          have r4 : 0 ≤ A := by omega
          have r5 : ¬ A < 0 := by omega
          have c1 := HB.out.l.cell (i := I) (by omega)
          have c2 := HB.out.l.frozen I
          have HI : Hid (I = J + k) := hI
          clear hI hA
          go_wp2
          refine ⟨⟨k + 1, L.set I (UInt8.ofNat (x / 2 ^ (24 - 8 * k))), by go_num, by omega, by rw [List.length_set]; exact hLl, ?_, HB.out.set I _ _ ?_⟩, ?_⟩
          · show _ = _
            have h1 := Dg.out_at s i k hi hk
            rw [← HX.out, ← HJ.out, ← HI.out] at h1
            have h2 := HL.out
            rw [← HI.out] at h2
            rw [show J + (k + 1) = I + 1 by have := HI.out; omega, Dg.take_set8 (by omega), Dg.take_next8 h1, h2]
          · have e4 : A.toNat = 24 - 8 * k := by have := HA.out; omega
            rw [e4, UInt8.toNat_ofNat']
            simp
          · show 4 - (intOf (Value.int .i64 ((k : Int) + 1))).toNat < 4 - (intOf (Value.int .i64 (k : Int))).toNat
            simp [intOf]
            omega
        · obtain rfl : k = 4 := by omega
          go_wp2
          refine ⟨⟨i + 1, L, by go_num, by omega, hLl, ?_, HB⟩, ?_⟩
          · have h2 := HL.out
            rw [HJ.out] at h2
            exact h2
          · show 8 - (intOf (Value.int .i64 ((i : Int) + 1))).toNat < 8 - (intOf (Value.int .i64 (i : Int))).toNat
            simp [intOf]
            omega
    · obtain rfl : i = 8 := by omega
      have hLe : L = out s := by
        have h1 := HL.out
        rw [List.take_of_length_le (by omega), List.take_of_length_le (by rw [Dg.out_len]; omega)] at h1
        exact h1
      have HLe : Hid _ := hLe
      clear hLe HL
      go_upto_region 11 with (fail)
      refine wp_region_lit ?_
      refine Dg.step_value rfl (v := .agg (Lib.byteCells L).toArray) (w' := wr) ?_ ?_
      · have ld := Tryz.load32 HB.out.l hLl
        exact Dg.run_load rfl rfl ld
      refine Dg.step_skip rfl (w' := wr.setRow (w.heap.size + 1) (Lib.byteCells L).toArray) ?_ (wpList_nil ?_)
      · have st := Tryz.store32 HB.out.r (by simp) L hLl
        exact Dg.run_store rfl rfl rfl st
      go_wp2
      refine bodyPost_ret (results_cell_row rfl _ _ (w.heap.size + 1) _ _ _ _ rfl (Dg.Br.setRow HB.out.r L) Tryz.underlying102 rfl (Tryz.size32 L hLl)) rfl ⟨?_, below_setRow HB.out.b (by omega) _⟩
      rw [← HLe.out]
end Go.Proofs

namespace Go.Proofs
open Go.RowKit Go.Wi Go.Dg
/-- What stands behind so many bytes. -/
def Dg.tail (c : Nat) : List UInt8 := [128] ++ List.replicate ((119 - c % 64) % 64) 0 ++ be8 (c * 8)
theorem Dg.fill_tail (l : List UInt8) : fill l = l ++ Dg.tail l.length := by simp [fill, Dg.tail]
theorem Dg.tail_len (c : Nat) : (Dg.tail c).length = 9 + (119 - c % 64) % 64 := by simp [Dg.tail, be8]; omega
set_option maxRecDepth 20000 in
set_option maxHeartbeats 1000000 in
theorem Tryz.ending_any (c : Nat) (hc : c ≤ 1000000000000000) (w : World) :
    Calls Tryz.prog 83 #[.int .u64 (c : Int)] w fun e w' => ∃ cap, e = .returned (.slice (some ⟨w.heap.size, 0, none⟩) (Dg.tail c).length cap) ∧ Ob w' w.heap.size (.slice (some ⟨w.heap.size, 0, none⟩) (Dg.tail c).length cap) (Dg.tail c) ∧ Below w.heap.size w w' := by
  obtain ⟨K, hK⟩ : ∃ K : Nat, K = 64 - (c + 8) % 64 := ⟨_, rfl⟩
  have hK1 : 1 ≤ K := by omega
  have hK64 : K ≤ 64 := by omega
  obtain ⟨c8, hc8⟩ : ∃ c8 : Nat, c8 = c + 8 := ⟨_, rfl⟩
  have e0 : (c : Int) + 8 = (c8 : Int) := by omega
  have e1 : IntKind.u64.wrap ((c : Int) + 8) = (c8 : Int) := by rw [IntKind.wrap_u64]; omega
  have e3 : 64 - (c8 : Int) % 64 = (K : Int) := by omega
  have e4 : IntKind.u64.wrap (64 - (c8 : Int) % 64) = (K : Int) := by rw [IntKind.wrap_u64]; omega
  have HK : Hid (K = 64 - (c + 8) % 64) := hK
  obtain ⟨T, hT⟩ : ∃ T : Nat, T = c * 8 := ⟨_, rfl⟩
  have e5 : IntKind.u64.wrap ((c : Int) * 8) = (T : Int) := by rw [IntKind.wrap_u64]; omega
  have e6 : (c : Int) * 8 = (T : Int) := by omega
  have HT : Hid (T = c * 8) := hT
  have q0 : (0 : Int) < (K : Int) := by omega
  clear hK hc8 hT
  go_enter Tryz.func83, Tryz.ntmps83
  go_wp2_with (first | (refine Tryz.makeLC rfl _ _ rfl _ _ _ _ K 72 rfl rfl rfl rfl (by omega) (by omega) ?_; intro w1 ho1 hb1 hs1; have HO1 : Hid _ := ho1; have HB1 : Hid _ := hb1; have hc1 := (Ob.cell ho1 (i := 0) (by rw [List.length_replicate]; omega)).2; have hc2 : w1.cell? ⟨w.heap.size, 0, none⟩ = some (.int .u8 0) := (by have h9 := (Ob.cell ho1 (i := 0) (by rw [List.length_replicate]; omega)).1; simpa using h9); clear ho1 hb1 hs1) | fail)
  clear hc1 hc2
  have HO2 : Hid (Ob (w1.setCell ⟨w.heap.size, 0, none⟩ (.int .u8 128)) w.heap.size (.slice (some ⟨w.heap.size, 0, none⟩) K 72) ([128] ++ List.replicate (K - 1) 0)) := by
    have h1 := Ob.set HO1.out 0 128 128 rfl (by rw [List.length_replicate]; omega)
    rw [show K = (K - 1) + 1 by omega, List.replicate_succ, List.set_cons_zero] at h1
    rw [show K - 1 + 1 = K by omega] at h1
    exact h1
  have HB2 : Hid (Below w.heap.size w (w1.setCell ⟨w.heap.size, 0, none⟩ (.int .u8 128))) := HB1.out.setCell (p := ⟨w.heap.size, 0, none⟩) (Nat.le_refl _) _
  clear HO1 HB1
  obtain ⟨M, hM⟩ : ∃ M : List UInt8, M = [128] ++ List.replicate (K - 1) 0 := ⟨_, rfl⟩
  have hMl : M.length = K := by rw [hM]; simp; omega
  rw [← hM] at HO2
  have HM : Hid (M = [128] ++ List.replicate (K - 1) 0) := hM
  have HMl : Hid (M.length = K) := hMl
  clear hM hMl
  generalize w1.setCell ⟨w.heap.size, 0, none⟩ (.int .u8 128) = w2 at *
  go_loopw [3, 4] (fun v atv wr => ∃ (t N : Nat) (A : Int), v = .slice (some ⟨w.heap.size, 0, none⟩) N 72 ∧ Hid (N = K + t) ∧ atv = .int .i64 A ∧ Hid (A = 56 - 8 * (t : Int)) ∧ t ≤ 8 ∧ Hid (Ob wr w.heap.size v (M ++ (be8 T).take t)) ∧ Hid (Below w.heap.size w wr)) (fun v _ _ => K + 8 - Dg.lenV v)
  case atStart => exact ⟨0, K, 56, rfl, rfl, rfl, rfl, by omega, by rw [List.take_zero, List.append_nil]; exact HO2, HB2⟩
  case round =>
    clear HO2 HB2
    obtain ⟨t, N, A, rfl, HN, rfl, HA, ht, Ho, Hw⟩ := hrel
    by_cases hlt : t < 8
    · have q1 : (0 : Int) ≤ A := by have := HA.out; omega
      have Hnl : Hid (N = (M ++ (be8 T).take t).length) := (by show _ = _; have := HMl.out; have := HN.out; rw [List.length_append, List.length_take]; simp [be8]; omega)
      have Hsz : Hid (w.heap.size ≤ wr.heap.size) := Hw.out.size
      have e7 : IntKind.i64.wrap (A - 8) = A - 8 := by have := HA.out; rw [IntKind.wrap_i64]; omega
      have Hcs : Hid _ := Dg.be8_cell T t A HA.out hlt
      have hr : N + 1 ≤ 72 := by have := HN.out; omega
      go_wp2_with (first | (at_builtin; refine Tryz.roomN rfl (.tmp 16) (.tmp 22) rfl (Ho.out.alloc _) Hnl.out rfl [UInt8.ofNat (T / 2 ^ (56 - 8 * t))] 1 _ rfl rfl _ Hcs.out (heap_alloc_new _ _) hr ?_; intro w3 ho3 hw3; have HO3 : Hid _ := ho3; have HB3 : Hid (Below w.heap.size w w3) := Wo.toBelow (Hw.out.alloc Hw.out.size _) hw3 (fun k e => by rw [e]; exact Nat.le_refl _) (by have := Hsz.out; simp; omega); clear ho3 hw3) | fail)
      go_roundw
      case rel =>
        refine ⟨t + 1, N + 1, A - 8, rfl, ?_, by go_num, ?_, by omega, ?_, HB3⟩
        · have := HN.out
          show _ = _
          omega
        · have := HA.out
          show _ = _
          omega
        · have := HO3
          rw [List.append_assoc, ← Dg.be8_next T t hlt] at this
          exact this
      case measure =>
        have hk := HN.out
        show K + 8 - (N + 1) < K + 8 - N
        omega
    · have q1 : ¬ (0 : Int) ≤ A := by have := HA.out; omega
      obtain rfl : t = 8 := by omega
      go_wp2
      go_ret
      have e8 : Dg.tail c = M ++ (be8 T).take 8 := by
        rw [HM.out, HT.out]
        have h1 : (119 - c % 64) % 64 = K - 1 := by have := HK.out; omega
        unfold Dg.tail
        rw [h1]
        rfl
      have e9 : N = (Dg.tail c).length := by
        rw [e8, List.length_append, HMl.out, HN.out]
        rfl
      have h1 := Ho.out
      rw [← e8] at h1
      refine ⟨72, ?_, ?_, Hw.out⟩
      · rw [← e9]
        rfl
      · rw [← e9]
        exact h1
end Go.Proofs
