/-
  The program's sum: as bytes.
-/
import Derived.Test.YtkfmfdnfjeofiaaDoorIe
namespace Go.Proofs
open Go.RowKit Go.Wi Go.Dg
theorem Tryd.size32 (l : List UInt8) (h : l.length = 32) : (Tryd.prog.info? 32).map (·.size) = some ((Lib.byteCells l).toArray).size := by
  have : (Tryd.prog.info? 32).map (·.size) = some 32 := by kernel_rfl
  rw [this]
  simp [Lib.byteCells, h]
theorem Dg.all_byte (l : List UInt8) : ((Lib.byteCells l).toArray).all (·.oneCell') = true := by simp [Lib.byteCells, Value.oneCell']
theorem Tryd.load32 {w : World} {g : Nat} {l : List UInt8} (h : Dg.Br 32 w g l) (hl : l.length = 32) : (Instr.loadAt 32 (.pointer (some ⟨g, 0, none⟩))).run Tryd.prog w = .ok (.agg (Lib.byteCells l).toArray) w := by
  simp only [Instr.loadAt, Instr.sureAddr, Sem.run_bind, Sem.run_pure, Result.andThen]
  exact run_loadVar_row w g _ _ _ _ _ h Tryd.underlying32 rfl (Tryd.size32 l hl)
theorem Tryd.store32 {w : World} {g : Nat} {l0 : List UInt8} (h : Dg.Br 32 w g l0) (h0 : l0.length = 32) (l : List UInt8) (hl : l.length = 32) : (Instr.storeAt 32 (.pointer (some ⟨g, 0, none⟩)) (.agg (Lib.byteCells l).toArray)).run Tryd.prog w = .ok () (w.setRow g (Lib.byteCells l).toArray) := by
  simp only [Instr.storeAt, Instr.sureAddr, Sem.run_bind, Sem.run_pure, Result.andThen]
  exact run_storeVar_row w g _ _ _ _ h (Tryd.size32 l hl) (by simp [Lib.byteCells, h0, hl]) (Dg.all_byte l)
theorem Dg.Br.setRow {T : TypeId} {w : World} {g : Nat} {l : List UInt8} (h : Dg.Br T w g l) (l' : List UInt8) : Dg.Br T (w.setRow g (Lib.byteCells l').toArray) g l' := setRow_heap w g _ _ _ _ h
/-- All of it while the bytes are written. -/
structure Tryd.By (w0 : World) (L : List UInt8) (wr : World) : Prop where
  b : Below w0.heap.size w0 wr
  r : Dg.Br 32 wr (w0.heap.size + 1) (List.replicate 32 0)
  l : Dg.Br 32 wr (w0.heap.size + 1 + 1) L
theorem Tryd.By.set {w0 : World} {L : List UInt8} {wr : World} (h : Tryd.By w0 L wr) (i : Nat) (c : UInt8) (z : Int) (hz : z = (c.toNat : Nat)) : Tryd.By w0 (L.set i c) (wr.setCell ⟨w0.heap.size + 1 + 1, i, none⟩ (.int .u8 z)) :=
  ⟨h.b.setCell (p := ⟨w0.heap.size + 1 + 1, i, none⟩) (by show w0.heap.size ≤ w0.heap.size + 1 + 1; omega) _, h.r.keep (Below.heap_setCell _ _ _ _ (by show _ ≠ w0.heap.size + 1 + 1; omega)), h.l.set i c z hz⟩
theorem Dg.take_set8 {l : List UInt8} {t : Nat} {v : UInt8} (ht : t < l.length) : (l.set t v).take (t + 1) = l.take t ++ [v] := by
  rw [List.take_add_one, List.take_set_of_le (Nat.le_refl _)]
  simp [ht]
theorem Dg.take_next8 {l : List UInt8} {t : Nat} {v : UInt8} (h : l[t]? = some v) : l.take (t + 1) = l.take t ++ [v] := by
  rw [List.take_add_one, h]
  rfl
set_option maxRecDepth 20000 in
set_option maxHeartbeats 1000000 in
theorem Tryd.bytes_any (s : S8) (hs : Small s.l) (w : World) :
    Calls Tryd.prog 37 #[.agg (s.l.map fun (n : Nat) => Value.int .u32 (n : Int)).toArray] w fun e w' => e = .returned (.agg (Lib.byteCells (out s)).toArray) ∧ Below w.heap.size w w' := by
  go_enter Tryd.func37, Tryd.ntmps37
  go_upto_region 2 with (fail)
  obtain ⟨wa, hwa⟩ : ∃ wa, wa = ((w.alloc (.cells (s.l.map fun (n : Nat) => Value.int .u32 (n : Int)).toArray 68)).alloc (.cells (Lib.byteCells (List.replicate 32 0)).toArray 32)).alloc (.cells (Lib.byteCells (List.replicate 32 0)).toArray 32) := ⟨_, rfl⟩
  have HA : Hid (Dg.Ar 68 wa w.heap.size s.l ∧ Tryd.By w (List.replicate 32 0) wa) := by
    rw [hwa]
    refine ⟨?_, (((Below.refl _ w).alloc (Nat.le_refl _) _).alloc (by simp only [World.size_alloc]; omega) _).alloc (by simp only [World.size_alloc]; omega) _, ?_, ?_⟩
    · exact (Below.heap_alloc _ _ _ (by simp only [World.size_alloc]; omega)).trans ((Below.heap_alloc _ _ _ (by simp only [World.size_alloc]; omega)).trans (heap_alloc_new w _))
    · have h := heap_alloc_new (w.alloc (.cells (s.l.map fun (n : Nat) => Value.int .u32 (n : Int)).toArray 68)) (.cells (Lib.byteCells (List.replicate 32 0)).toArray 32)
      rw [World.size_alloc] at h
      exact (Below.heap_alloc _ _ _ (by simp only [World.size_alloc]; omega)).trans h
    · have h := heap_alloc_new ((w.alloc (.cells (s.l.map fun (n : Nat) => Value.int .u32 (n : Int)).toArray 68)).alloc (.cells (Lib.byteCells (List.replicate 32 0)).toArray 32)) (.cells (Lib.byteCells (List.replicate 32 0)).toArray 32)
      rw [World.size_alloc, World.size_alloc] at h
      exact h
  refine wp_region_lit ?_
  refine Dg.step_value rfl (v := .agg (s.l.map fun (n : Nat) => Value.int .u32 (n : Int)).toArray) (w' := wa) ?_ ?_
  · have ld := Tryd.loadS HA.out.1 rfl
    rw [hwa] at ld ⊢
    exact Dg.run_load rfl rfl ld
  clear hwa
  have HB : Hid _ := HA.out.2
  clear HA
  go_wp2
  go_loopw [8] (fun iv wr => ∃ (i : Nat) (L : List UInt8), iv = .int .i64 i ∧ i ≤ 8 ∧ L.length = 32 ∧ Hid (L.take (4 * i) = (out s).take (4 * i)) ∧ Hid (Tryd.By w L wr)) (fun iv _ => 8 - (intOf iv).toNat)
  case atStart => exact ⟨0, List.replicate 32 0, rfl, by omega, rfl, by rw [Nat.mul_zero, List.take_zero, List.take_zero]; rfl, HB⟩
  case round =>
    clear HB
    obtain ⟨i, L, rfl, hi8, hLl, HL, HB⟩ := hrel
    by_cases hi : i < 8
    · have q1 : (i : Int) < 8 := by omega
      have q2 : (0 : Int) ≤ (i : Int) := by omega
      have q3 : (i : Int) + 1 ≤ 100 := by omega
      have hix := Tryd.idxS s i hi wr
      obtain ⟨x, hx⟩ : ∃ x, x = s.l[i]'hi := ⟨_, rfl⟩
      have hxl : x < 4294967296 := by rw [hx]; exact hs.get hi
      rw [← hx] at hix
      have HX : Hid (x = s.l[i]'hi) := hx
      clear hx
      obtain ⟨J, hJ⟩ : ∃ J : Nat, J = 4 * i := ⟨_, rfl⟩
      have HJ : Hid (J = 4 * i) := hJ
      have e1 : 4 * (i : Int) = (J : Int) := by omega
      have HL0 : Hid (L.take J = (out s).take J) := by rw [hJ]; exact HL
      clear hJ HL
      go_wp2
      go_loopw [12] (fun iv wr => ∃ (k : Nat) (L : List UInt8), iv = .int .i64 k ∧ k ≤ 4 ∧ L.length = 32 ∧ Hid (L.take (J + k) = (out s).take (J + k)) ∧ Hid (Tryd.By w L wr)) (fun iv _ => 4 - (intOf iv).toNat)
      case atStart => exact ⟨0, L, rfl, by omega, hLl, by rw [Nat.add_zero]; exact HL0, HB⟩
      case round =>
        clear HB HL0 hLl L hix
        obtain ⟨k, L, rfl, hk4, hLl, HL, HB⟩ := hrel
        by_cases hk : k < 4
        · have r1 : (k : Int) < 4 := by omega
          obtain ⟨I, hI⟩ : ∃ I : Nat, I = J + k := ⟨_, rfl⟩
          have hI32 : I < 32 := by have := HJ.out; omega
          have e2 : (J : Int) + (k : Int) = (I : Int) := by omega
          have r2 : (0 : Int) ≤ (I : Int) := by omega
          have r3 : (I : Int) < 32 := by omega
          obtain ⟨A, hA⟩ : ∃ A : Int, A = 24 - 8 * (k : Int) := ⟨_, rfl⟩
          have HA : Hid (A = 24 - 8 * (k : Int)) := hA
          have e3 : 24 - 8 * (k : Int) = A := by omega
          have r4 : 0 ≤ A := by omega
          have r5 : ¬ A < 0 := by omega
          have c1 := HB.out.l.cell (i := I) (by omega)
          have c2 := HB.out.l.frozen I
          have HI : Hid (I = J + k) := hI
          clear hI hA
          go_wp2
          refine ⟨⟨k + 1, L.set I (UInt8.ofNat (x / 2 ^ (24 - 8 * k))), by go_num, by omega, by rw [List.length_set]; exact hLl, ?_, HB.out.set I _ _ ?_⟩, ?_⟩
          · show _ = _
            have h1 := Dg.out_at s i k hi hk
            rw [← HX.out, ← HJ.out, ← HI.out] at h1
            have h2 := HL.out
            rw [← HI.out] at h2
            rw [show J + (k + 1) = I + 1 by have := HI.out; omega, Dg.take_set8 (by omega), Dg.take_next8 h1, h2]
          · have e4 : A.toNat = 24 - 8 * k := by have := HA.out; omega
            rw [e4, UInt8.toNat_ofNat']
            simp
          · show 4 - (intOf (Value.int .i64 ((k : Int) + 1))).toNat < 4 - (intOf (Value.int .i64 (k : Int))).toNat
            simp [intOf]
            omega
        · obtain rfl : k = 4 := by omega
          go_wp2
          refine ⟨⟨i + 1, L, by go_num, by omega, hLl, ?_, HB⟩, ?_⟩
          · have h2 := HL.out
            rw [HJ.out] at h2
            exact h2
          · show 8 - (intOf (Value.int .i64 ((i : Int) + 1))).toNat < 8 - (intOf (Value.int .i64 (i : Int))).toNat
            simp [intOf]
            omega
    · obtain rfl : i = 8 := by omega
      have hLe : L = out s := by
        have h1 := HL.out
        rw [List.take_of_length_le (by omega), List.take_of_length_le (by rw [Dg.out_len]; omega)] at h1
        exact h1
      have HLe : Hid _ := hLe
      clear hLe HL
      go_upto_region 11 with (fail)
      refine wp_region_lit ?_
      refine Dg.step_value rfl (v := .agg (Lib.byteCells L).toArray) (w' := wr) ?_ ?_
      · have ld := Tryd.load32 HB.out.l hLl
        exact Dg.run_load rfl rfl ld
      refine Dg.step_skip rfl (w' := wr.setRow (w.heap.size + 1) (Lib.byteCells L).toArray) ?_ (wpList_nil ?_)
      · have st := Tryd.store32 HB.out.r (by simp) L hLl
        exact Dg.run_store rfl rfl rfl st
      go_wp2
      refine bodyPost_ret (results_cell_row rfl _ _ (w.heap.size + 1) _ _ _ _ rfl (Dg.Br.setRow HB.out.r L) Tryd.underlying32 rfl (Tryd.size32 L hLl)) rfl ⟨?_, below_setRow HB.out.b (by omega) _⟩
      rw [← HLe.out]
end Go.Proofs
