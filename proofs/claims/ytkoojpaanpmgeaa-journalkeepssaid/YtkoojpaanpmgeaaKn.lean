/-
  What is done with a journal by a script: the bytes of one thing.
-/
import Derived.Test.YtkoojpaanpmgeaaKj
namespace Go.Proofs
open Go.RowKit Go.Dk
theorem Dk.byteOf (z : Int) : ∃ c : UInt8, IntKind.u8.wrap z = ((c.toNat : Nat) : Int) := by
  refine ⟨UInt8.ofNat (IntKind.u8.wrap z).toNat, ?_⟩
  have h1 : 0 ≤ IntKind.u8.wrap z ∧ IntKind.u8.wrap z < 256 := by
    rw [IntKind.wrap_u8]; omega
  rw [UInt8.toNat_ofNat', Nat.mod_eq_of_lt (by omega)]
  omega
/-- A thing that is done. -/
structure Dk.Do where
  c : Bool
  a : Bool
  sz : Int
  lk : Int
def Dk.Do.v (o : Dk.Do) : Value := .agg #[.bool o.c, .bool o.a, .int .i64 o.sz, .int .i64 o.lk]
def Dk.Do.len (o : Dk.Do) : Nat := 1 + Dk.pickN o.sz 150
set_option maxHeartbeats 1000000 in
set_option maxRecDepth 20000 in
theorem Try.bytes_any (o : Dk.Do) (h1 : -9223372036854775808 ≤ o.sz ∧ o.sz ≤ 9223372036854775807) (i : Nat) (hi : i < 1000) (w : World) :
    Calls Try.prog 25 #[.agg #[.bool o.c, .bool o.a, .int .i64 o.sz, .int .i64 o.lk], .int .i64 i, .int .i64 150] w fun r w' => ∃ g d, r = .returned (.slice (some ⟨g, 0, none⟩) o.len o.len) ∧ d.length = o.len ∧ Dk.Src w' (.slice (some ⟨g, 0, none⟩) o.len o.len) d ∧ Below w.heap.size w w' ∧ w.heap.size ≤ g := by
  have hp := Dk.pickN_lt o.sz (n := 150) (by omega)
  have hpk : ∀ W, Calls Try.prog 17 #[.int .i64 o.sz, .int .i64 150] W fun e w' => e = .returned (.int .i64 (Dk.pickN o.sz 150)) ∧ w' = W := fun W => Try.pick_any o.sz 150 (by omega) (by omega) h1.1 h1.2 W
  obtain ⟨c, ag, sz, lk⟩ := o
  simp only [Dk.Do.len] at *
  generalize hP : Dk.pickN sz 150 = P at *
  clear hP
  have hmk : ∀ W : World, (Instr.makeSlice 33 (.int .i64 (1 + (P : Int))) (.int .i64 (1 + (P : Int)))).run Try.prog W = .ok (.slice (some ⟨W.heap.size, 0, none⟩) (1 + P) (1 + P)) (W.alloc (.cells (Lib.byteCells (List.replicate (1 + P) 0)).toArray 5)) := fun W => by
    have := Try.run_makeB (1 + P) (by omega) W
    rwa [show ((1 + P : Nat) : Int) = 1 + (P : Int) by omega] at this
  go_enter Try.func25, Try.ntmps25
  go_wp2_with (first
    | (go_at_call 17; refine (hpk _).mono ?_; clear hpk; rintro e w1 ⟨rfl, rfl⟩)
    | (at_make; refine Dk.wpList_make rfl 33 (.tmp 13) (.tmp 13) rfl rfl rfl (hmk _) ?_)
    | fail)
  go_loopw [8] (fun j wr => ∃ (k : Nat) (d : List UInt8), j = .int .i64 k ∧ k ≤ 1 + P ∧ d.length = 1 + P ∧ wr.heap[w.heap.size + 1]? = some (.cells (Lib.byteCells d).toArray 5 (0, 0)) ∧ wr.cell? ⟨w.heap.size, 3, none⟩ = some (.int .i64 lk) ∧ Below w.heap.size w wr) (fun j _ => 1 + P - (intOf j).toNat)
  case atStart =>
    refine ⟨0, List.replicate (1 + P) 0, rfl, by omega, by simp, ?_, ?_, ((Below.refl w.heap.size w).alloc (Nat.le_refl _) _).alloc (by simp) _⟩
    · have := heap_alloc_new (w.alloc (.cells #[.bool c, .bool ag, .int .i64 sz, .int .i64 lk] 52)) (.cells (Lib.byteCells (List.replicate (1 + P) 0)).toArray 5)
      simpa using this
    · simp
  case round =>
    obtain ⟨k, d, rfl, hk, hd, hrow, hc3, hbel⟩ := hrel
    have hf : ∀ j, wr.frozen? ⟨w.heap.size + 1, j, none⟩ = false := fun j => frozen_of_row _ _ _ _ _ hrow
    have hcl : ∀ j, j < 1 + P → ∃ u, wr.cell? ⟨w.heap.size + 1, j, none⟩ = some u := fun j hj => ⟨_, by rw [cell_of_row _ _ _ _ _ _ hrow, List.getElem?_toArray]; exact Dk.byteCell (by omega)⟩
    have HROW : Hid (wr.heap[w.heap.size + 1]? = some (.cells (Lib.byteCells d).toArray 5 (0, 0))) := hrow
    have hset : ∀ (j : Nat) (z : Int), ∃ c' : UInt8, (wr.setCell ⟨w.heap.size + 1, j, none⟩ (.int .u8 (IntKind.u8.wrap z))).heap[w.heap.size + 1]? = some (.cells (Lib.byteCells (d.set j c')).toArray 5 (0, 0)) := fun j z => by
      obtain ⟨c', hc'⟩ := Dk.byteOf z
      refine ⟨c', ?_⟩
      rw [heap_setCell_same wr _ _ _ _ _ hrow, hc']
      simp [Lib.byteCells, List.map_set]
    have HSET : Hid _ := hset
    clear hrow hset
    by_cases hkl : k < 1 + P
    · have q0 : (k : Int) < ((1 + P : Nat) : Int) := by omega
      obtain ⟨u, hu⟩ := hcl k hkl
      have hfk := hf k
      clear hcl hf
      go_wp2
      go_roundw
      case rel =>
        obtain ⟨c', hc'⟩ := HSET.out k _
        exact ⟨k + 1, _, by go_num, by omega, by rw [List.length_set]; exact hd, hc', (World.cell?_of_block (Below.heap_setCell wr ⟨w.heap.size + 1, k, none⟩ _ w.heap.size (by show w.heap.size ≠ w.heap.size + 1; omega))).trans hc3, hbel.setCell (by show w.heap.size ≤ w.heap.size + 1; omega) _⟩
      case measure => simp [intOf]; omega
    · have q0 : ¬ (k : Int) < ((1 + P : Nat) : Int) := by omega
      obtain ⟨u, hu⟩ := hcl 0 (by omega)
      have hf0 := hf 0
      clear hcl hf
      go_wp2
      go_ret
      obtain ⟨c', hc'⟩ := HSET.out 0 _
      refine ⟨w.heap.size + 1, rfl, d.set 0 c', ?_, ?_, hbel.setCell (by show w.heap.size ≤ w.heap.size + 1; omega) _, by omega⟩
      · rw [List.length_set]; exact hd
      · refine ⟨_, _, by rw [List.length_set, hd], .inr ⟨_, _, rfl, Dk.block_lt hc', fun j u hj => ?_⟩⟩
        rw [Nat.zero_add]
        refine (cell_of_row _ _ _ _ _ _ hc').trans ?_
        rw [List.getElem?_toArray]
        exact hj
end Go.Proofs
