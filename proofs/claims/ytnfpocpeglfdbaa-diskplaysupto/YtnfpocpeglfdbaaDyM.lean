/-
  lent, still.
-/
import Derived.Test.YtnfpocpeglfdbaaDyL
import Derived.Lib.BufferWrite
import Derived.BigQuiet
namespace Go.Proofs
open Go.RowKit Go.Wi
/-- Bytes and room behind them, k places of it laid. -/
def Dk.gv (b : List UInt8) (k : Nat) : List UInt8 := b ++ (List.replicate k 201 ++ List.replicate (8 - k) 0)
theorem Dk.gv_len (b : List UInt8) (k : Nat) (h : k ≤ 8) : (Dk.gv b k).length = b.length + 8 := by simp [Dk.gv]; omega
theorem Dk.gv_set (b : List UInt8) (k : Nat) (h : k < 8) : (Dk.gv b k).set (b.length + k) 201 = Dk.gv b (k + 1) := by
  unfold Dk.gv
  rw [List.set_append_right _ _ (by omega), show b.length + k - b.length = k by omega, List.set_append_right _ _ (by simp)]
  obtain ⟨m, hm⟩ : ∃ m, 8 - k = m + 1 := ⟨8 - k - 1, by omega⟩
  rw [hm, show 8 - (k + 1) = m by omega, List.replicate_succ, List.length_replicate, Nat.sub_self, List.set_cons_zero, List.replicate_succ', List.append_assoc]
  rfl
theorem Dk.gv_at (b : List UInt8) (k : Nat) (h : k < b.length + 8) : ∃ hk : k < (Dk.gv b 8).length, (Dk.gv b 8)[k] = if hb : k < b.length then b[k] else 201 := by
  refine ⟨by rw [Dk.gv_len b 8 (by omega)]; exact h, ?_⟩
  simp only [Dk.gv]
  split
  · rename_i hb; rw [List.getElem_append_left hb]
  · rename_i hb
    rw [List.getElem_append_right (by omega), List.getElem_append_left (by rw [List.length_replicate]; omega), List.getElem_replicate]
theorem Dk.bc_set (D : List UInt8) (i : Nat) (x : UInt8) : (Lib.byteCells D).toArray.setIfInBounds i (.int .u8 (x.toNat : Nat)) = (Lib.byteCells (D.set i x)).toArray := by
  simp [Lib.byteCells, List.map_set]
theorem Try.size_u8 : (Try.prog.info? 5).map (·.size) = some 1 := by kernel_rfl
set_option maxRecDepth 4000 in
set_option maxHeartbeats 4000000 in
theorem Try.lent_any (s : ByteArray) (hs : s.size ≤ 1048576) (w : World) :
    Calls Try.prog 28 #[.string s] w fun e w' => e = .returned (.slice (some ⟨w.heap.size, 0, none⟩) (s.size + 8) (s.size + 8)) ∧ w'.heap[w.heap.size]? = some (.cells (Lib.byteCells (Dk.gv s.data.toList 8)).toArray 5 (0, 0)) ∧ Below w.heap.size w w' := by
  have hsl : s.data.toList.length = s.size := rfl
  obtain ⟨N, hN⟩ : ∃ N : Nat, N = s.size + 8 := ⟨_, rfl⟩
  have e1 : (s.size : Int) + 8 = (N : Int) := by omega
  obtain ⟨i0, hi0, hz0, hz1, hz2⟩ := info_parts Try.info_u8
  have hmk : ∀ W : World, (Instr.makeSlice 55 (.int .i64 N) (.int .i64 N)).run Try.prog W = .ok (.slice (some ⟨W.heap.size, 0, none⟩) N N) (W.alloc (.cells (Lib.byteCells (List.replicate N 0)).toArray 5)) := fun W => by
    have := run_make (P := Try.prog) W 55 5 i0 _ Try.underlying55 hi0 hz0 .i64 .i64 N N (by omega) (by omega) (by rw [hz2]; omega) (by omega)
    rw [this, hz1]
    have e := Dk.made (Z := (Value.int .u8 0).cells) N (.int .u8 0) (by decide) (fun j hj => by
      have : j = 0 := by simp [Value.cells] at hj; omega
      subst this; rfl)
    rw [Dk.zeros] at e
    rw [← e, show ((N : Int)).toNat = N from rfl, Nat.mul_one]
  obtain ⟨W1, hW1⟩ : ∃ W1 : World, W1 = w.alloc (.cells (Lib.byteCells (List.replicate N 0)).toArray 5) := ⟨_, rfl⟩
  have hb1 : Below w.heap.size w W1 := by rw [hW1]; exact (Below.refl _ w).alloc (Nat.le_refl _) _
  have hg1 : W1.heap[w.heap.size]? = some (.cells (Lib.byteCells (List.replicate N 0)).toArray 5 (0, 0)) := by rw [hW1]; exact heap_alloc_new w _
  have hcp := fun ty => Lib.run_copy_row_string (P := Try.prog) W1 55 9 ty 5 w.heap.size 0 N N s _ 5 Try.underlying55 Try.size_u8 hg1 (by omega) (by simp [Lib.byteCells]; omega)
  obtain ⟨W2, hW2⟩ : ∃ W2 : World, W2 = W1.setRow w.heap.size ((Lib.byteCells (List.replicate N 0)).toArray.toList.take 0 ++ Lib.byteCells s.data.toList ++ (Lib.byteCells (List.replicate N 0)).toArray.toList.drop (0 + s.size)).toArray := ⟨_, rfl⟩
  rw [← hW2] at hcp
  have hb2 : Below w.heap.size w W2 := by rw [hW2]; exact below_setRow hb1 (Nat.le_refl _) _
  have hg2 : W2.heap[w.heap.size]? = some (.cells (Lib.byteCells (Dk.gv s.data.toList 0)).toArray 5 (0, 0)) := by
    rw [hW2, setRow_heap W1 _ _ _ 5 _ hg1]
    congr 2
    simp [Lib.byteCells, Dk.gv, hN]
  rw [hW1] at hcp
  have HN : Hid (N = s.size + 8) := hN
  have Hb2 : Hid (Below w.heap.size w W2) := hb2
  have Hg2 : Hid (W2.heap[w.heap.size]? = some (.cells (Lib.byteCells (Dk.gv s.data.toList 0)).toArray 5 (0, 0))) := hg2
  have Hsl : Hid (s.data.toList.length = s.size) := hsl
  have hsz : s.size ≤ 1048576 := hs
  clear hb1 hg1 hW2 hb2 hg2 hsl hW1 hs hN
  generalize s.data.toList = b at *
  go_enter Try.func28, Try.ntmps28
  go_upto_region 4 with fail
  clear hcp hmk e1
  go_loopw [4] (fun i wr => ∃ k : Nat, k ≤ 8 ∧ i = .int .i64 ((s.size + k : Nat) : Int) ∧ wr.heap[w.heap.size]? = some (.cells (Lib.byteCells (Dk.gv b k)).toArray 5 (0, 0)) ∧ Below w.heap.size w wr) (fun i _ => N - (intOf i).toNat)
  case atStart => exact ⟨0, Nat.zero_le _, rfl, Hg2.out, Hb2.out⟩
  case round =>
    obtain ⟨k, hk, rfl, hrow, hbl⟩ := hrel
    clear Hg2 Hb2
    by_cases hk8 : k < 8
    · have q0 : ((s.size + k : Nat) : Int) < (N : Int) := by have := HN.out; omega
      have q1 : (0 : Int) ≤ ((s.size + k : Nat) : Int) := by omega
      have hln := Dk.gv_len b k hk
      obtain ⟨o1, c1⟩ : ∃ o : Nat, wr.cell? ⟨w.heap.size, s.size + k, none⟩ = some (.int .u8 o) := ⟨((Dk.gv b k)[s.size + k]'(by have := Hsl.out; omega)).toNat, by
        rw [cell_of_row wr w.heap.size (s.size + k) _ _ _ hrow, List.getElem?_toArray, byteCell (by have := Hsl.out; omega)]⟩
      have f1 := frozen_of_row wr w.heap.size (s.size + k) _ _ hrow
      have hset := heap_setCell_same wr w.heap.size (s.size + k) _ 5 (.int .u8 ((201 : UInt8).toNat : Nat)) hrow
      rw [Dk.bc_set, ← Hsl.out, Dk.gv_set b k hk8, Hsl.out] at hset
      have Hset : Hid ((wr.setCell ⟨w.heap.size, s.size + k, none⟩ (.int .u8 201)).heap[w.heap.size]? = some (.cells (Lib.byteCells (Dk.gv b (k + 1))).toArray 5 (0, 0))) := hset
      have Hbl : Hid (Below w.heap.size w (wr.setCell ⟨w.heap.size, s.size + k, none⟩ (.int .u8 201))) := hbl.setCell (p := ⟨w.heap.size, s.size + k, none⟩) (Nat.le_refl _) _
      clear hset hbl hrow hln
      go_wp2
      go_roundw
      case rel => exact ⟨k + 1, by omega, by go_num, Hset.out, Hbl.out⟩
      case measure => have := HN.out; simp [intOf]; omega
    · have q0 : ¬ ((s.size + k : Nat) : Int) < (N : Int) := by have := HN.out; omega
      have hk8e : k = 8 := by omega
      subst hk8e
      go_wp2
      go_ret
      exact ⟨by rw [← HN.out]; rfl, hrow, hbl⟩
set_option maxRecDepth 4000 in
set_option maxHeartbeats 4000000 in
theorem Try.still_any {w : World} {g : Nat} (s : ByteArray) (hs : s.size ≤ 1048576) {B n : Nat} (h : w.ownsRow B 5 1 (.slice (some ⟨g, 0, none⟩) (s.size + 8) (s.size + 8)) n (Lib.byteCells (Dk.gv s.data.toList 8))) :
    Calls Try.prog 31 #[.slice (some ⟨g, 0, none⟩) (s.size + 8) (s.size + 8), .string s] w fun e w' => e = .returned (.bool true) ∧ ∃ n, w' = w.drewN n := by
  obtain ⟨N, hN⟩ : ∃ N : Nat, N = s.size + 8 := ⟨_, rfl⟩
  rw [← hN]
  have HN : Hid (N = s.size + 8) := hN
  have hNb : N ≤ 1048600 := by omega
  rw [← hN] at h
  have H : Hid (w.ownsRow B 5 1 (.slice (some ⟨g, 0, none⟩) N N) n (Lib.byteCells (Dk.gv s.data.toList 8))) := h
  clear h hN hs
  go_enter Try.func31, Try.ntmps31
  go_upto_region 2 with fail
  go_loopw [5] (fun i wr => ∃ j q : Nat, j ≤ N ∧ i = .int .i64 (j : Nat) ∧ wr = w.drewN q) (fun i _ => N - (intOf i).toNat)
  case atStart => exact ⟨0, 0, Nat.zero_le _, rfl, rfl⟩
  case round =>
    obtain ⟨j, q, hj, rfl, rfl⟩ := hrel
    by_cases hjN : j < N
    · have q0 : (j : Int) < (N : Int) := by omega
      have q00 : (0 : Int) ≤ (j : Int) := by omega
      obtain ⟨hkl, hat⟩ := Dk.gv_at s.data.toList j (by have := HN.out; show j < s.size + 8; omega)
      have c1 : w.cell? ⟨g, j, none⟩ = some (.int .u8 ((Dk.gv s.data.toList 8)[j].toNat : Nat)) := by
        have := H.out.cells (g := g) rfl j _ (byteCell hkl)
        rw [Addr.add_mid, Nat.zero_add] at this
        exact this
      by_cases hb : j < s.size
      · have q1 : (j : Int) < (s.size : Int) := by omega
        have q2 : decide ((j : Int) < (s.size : Int)) = true := decide_eq_true q1
        have q3 : ¬ (s.size : Int) ≤ (j : Int) := by omega
        have q4 : decide ((s.size : Int) ≤ (j : Int)) = false := decide_eq_false q3
        have q5 : decide (s.size ≤ j) = false := decide_eq_false (by omega)
        have q6 : decide (j < s.size) = true := decide_eq_true hb
        have hb2 : j < s.data.toList.length := hb
        rw [dif_pos hb2] at hat
        rw [hat] at c1
        have e9 : s.data.toList[j] = s[j] := by rfl
        rw [e9] at c1
        clear hat hkl e9
        generalize hx : s[j] = xx at *
        go_wp2
        go_quiet (fail)
        go_wp2
        go_roundw
        case rel => exact ⟨j + 1, _, by omega, by go_num, rfl⟩
        case measure => simp [intOf]; omega
      · have q1 : ¬ (j : Int) < (s.size : Int) := by omega
        have q2 : decide ((j : Int) < (s.size : Int)) = false := decide_eq_false q1
        have q3 : (s.size : Int) ≤ (j : Int) := by omega
        have q4 : decide ((s.size : Int) ≤ (j : Int)) = true := decide_eq_true q3
        have q5 : decide (s.size ≤ j) = true := decide_eq_true (by omega)
        have q6 : decide (j < s.size) = false := decide_eq_false hb
        have hb2 : ¬ j < s.data.toList.length := hb
        rw [dif_neg hb2] at hat
        rw [hat] at c1
        clear hat hkl hb2
        go_wp2
        go_quiet (fail)
        go_wp2
        go_roundw
        case rel => exact ⟨j + 1, _, by omega, by go_num, rfl⟩
        case measure => simp [intOf]; omega
    · have q0 : ¬ (j : Int) < (N : Int) := by omega
      go_wp2
      go_ret
      exact ⟨rfl, _, rfl⟩
end Go.Proofs
