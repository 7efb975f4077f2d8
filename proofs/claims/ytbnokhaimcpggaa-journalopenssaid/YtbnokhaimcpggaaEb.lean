/-
  number, put, sum.
-/
import Derived.Test.YtbnokhaimcpggaaDi
import Derived.Test.YtbnokhaimcpggaaEa
import Derived.Laws.BitsAllLaws
namespace Go.Proofs
open Go.RowKit Go.Dk
theorem Dk.byteCell {b : List UInt8} {k : Nat} (hk : k < b.length) : (Lib.byteCells b)[k]? = some (.int .u8 (b[k].toNat : Nat)) := by simp [Lib.byteCells, hk]
theorem Dk.Src.cell {w : World} {ad : Option Addr} {n cap : Nat} {b : List UInt8} (h : Dk.Src w (.slice ad n cap) b) : n = b.length ∧ (b = [] ∨ ∃ sb so, ad = some ⟨sb, so, none⟩ ∧ sb < w.heap.size ∧ ∀ (j : Nat) (u : Value), (Lib.byteCells b)[j]? = some u → w.cell? ⟨sb, so + j, none⟩ = some u) := by
  obtain ⟨ad', cap', e, h1⟩ := h
  cases e
  exact ⟨rfl, h1⟩
set_option maxHeartbeats 1000000 in
theorem Try.sum_any {w : World} {v : Value} {b : List UInt8} (h : Dk.Src w v b) (hb : b.length < 1000000000) :
    Calls Try.prog 74 #[v] w fun e w' => e = .returned (.int .u32 (fnv b)) ∧ w' = w := by
  obtain ⟨ad, cap, rfl, h1⟩ := h
  go_enter Try.func74, Try.ntmps74
  go_wp2
  go_loopw [3, 8] (fun s i wr => ∃ k : Nat, k ≤ b.length ∧ i = .int .i64 k ∧ s = .int .u32 (fnv (b.take k)) ∧ wr = w) (fun _ i _ => b.length - (intOf i).toNat)
  case atStart => exact ⟨0, by omega, rfl, by simp [fnv], rfl⟩
  case round =>
    obtain ⟨k, hk, rfl, rfl, rfl⟩ := hrel
    by_cases hkm : k < b.length
    · have q0 : (k : Int) < (b.length : Int) := by omega
      have hc : ∃ sb so, ad = some ⟨sb, so, none⟩ ∧ wr.cell? ⟨sb, so + k, none⟩ = some (.int .u8 (b[k].toNat : Nat)) := by
        rcases h1 with rfl | ⟨sb, so, e, _, h2⟩
        · simp at hkm
        · exact ⟨sb, so, e, h2 k _ (Dk.byteCell hkm)⟩
      obtain ⟨sb, so, rfl, hc⟩ := hc
      have hs := fnv_lt (b.take k)
      have hx := b[k].toNat_lt
      have hsn : fnv (b.take (k + 1)) = fnvB (fnv (b.take k)) b[k] := by rw [← fnv_snoc, List.take_append_getElem]
      have hbx := u32_xor_nat (fnv (b.take k)) b[k].toNat hs (by omega)
      go_wp2
      go_roundw
      case rel => 
        refine ⟨k + 1, by omega, by go_num, ?_, trivial⟩
        rw [hsn]
        simp [fnvB]
      case measure => simp [intOf]; omega
    · have q0 : ¬ (k : Int) < (b.length : Int) := by omega
      have hkk : k = b.length := by omega
      subst hkk
      go_wp2
      go_ret
      simp
theorem Dk.or_shl (k a c : Nat) (hk : k < 4) (hc : c < 256) (ha : a < 256 ^ k) : bits .or .u32 (a : Int) ((c : Int) * 2 ^ (8 * k) % 4294967296) = ((a + 256 ^ k * c : Nat) : Int) := by
  have e : (c : Int) * 2 ^ (8 * k) % 4294967296 = ((256 ^ k * c : Nat) : Int) := by
    have : k = 0 ∨ k = 1 ∨ k = 2 ∨ k = 3 := by omega
    rcases this with rfl | rfl | rfl | rfl <;> simp <;> omega
  have hp : (256 : Nat) ^ k = 2 ^ (8 * k) := by rw [Nat.pow_mul]
  have hl : a < 4294967296 ∧ 256 ^ k * c < 4294967296 := by
    have : k = 0 ∨ k = 1 ∨ k = 2 ∨ k = 3 := by omega
    rcases this with rfl | rfl | rfl | rfl <;> simp at ha ⊢ <;> omega
  rw [e, u32_or_nat a _ hl.1 hl.2, Nat.or_comm, nat_join (8 * k) _ a (by rw [hp]; exact Nat.mul_mod_right _ _) (by rw [← hp]; exact ha), Nat.add_comm]
set_option maxHeartbeats 1000000 in
theorem Try.number_any {w : World} {v : Value} {b : List UInt8} (h : Dk.Src w v b) (hb : b.length ≤ 4) :
    Calls Try.prog 91 #[v] w fun e w' => e = .returned (.int .u32 (num b)) ∧ w' = w := by
  obtain ⟨ad, cap, rfl, h1⟩ := h
  go_enter Try.func91, Try.ntmps91
  go_wp2
  go_loopw [3, 8] (fun s i wr => ∃ k : Nat, k ≤ b.length ∧ i = .int .i64 k ∧ s = .int .u32 (num (b.take k)) ∧ wr = w) (fun _ i _ => b.length - (intOf i).toNat)
  case atStart => exact ⟨0, by omega, rfl, by simp [num], rfl⟩
  case round =>
    obtain ⟨k, hk, rfl, rfl, rfl⟩ := hrel
    by_cases hkm : k < b.length
    · have q0 : (k : Int) < (b.length : Int) := by omega
      have hc : ∃ sb so, ad = some ⟨sb, so, none⟩ ∧ wr.cell? ⟨sb, so + k, none⟩ = some (.int .u8 (b[k].toNat : Nat)) := by
        rcases h1 with rfl | ⟨sb, so, e, _, h2⟩
        · simp at hkm
        · exact ⟨sb, so, e, h2 k _ (Dk.byteCell hkm)⟩
      obtain ⟨sb, so, rfl, hc⟩ := hc
      have hx := b[k].toNat_lt
      have hsn := num_take b k b[k] (by simp)
      have hnl := num_lt (b.take k)
      rw [List.length_take, Nat.min_eq_left hk] at hnl
      have hbo := Dk.or_shl k (num (b.take k)) b[k].toNat (by omega) (by omega) hnl
      rw [← hsn] at hbo
      clear hsn
      go_wp2
      go_roundw
      case rel => 
        exact ⟨k + 1, by omega, by go_num, rfl, trivial⟩
      case measure => simp [intOf]; omega
    · have q0 : ¬ (k : Int) < (b.length : Int) := by omega
      have hkk : k = b.length := by omega
      subst hkk
      go_wp2
      go_ret
      simp
theorem Dk.setCells_snoc (g : Nat) : ∀ (vs : List Value) (o : Nat) (w : World) (v : Value), w.setCells g o (vs ++ [v]) = (w.setCells g o vs).setCell ⟨g, o + vs.length, none⟩ v
  | [], _, _, _ => rfl
  | u :: r, o, w, v => by
    simp only [List.cons_append, World.setCells, List.length_cons]
    rw [Dk.setCells_snoc g r, show o + 1 + r.length = o + (r.length + 1) by omega]
/-- A row of bytes in a block of its own that may be written. -/
theorem Try.put_any {w : World} {g o n c : Nat} {C : List Value} (x : Nat) (_hx : x < 4294967296) (hg : w.heap[g]? = some (.cells C.toArray 5 (0, 0))) (hC : o + n ≤ C.length) (hn : n ≤ 4) :
    Calls Try.prog 80 #[.slice (some ⟨g, o, none⟩) n c, .int .u32 x] w fun e w' => (∃ v, e = .returned v) ∧ w' = w.setCells g o (Lib.byteCells (le n x)) := by
  go_enter Try.func80, Try.ntmps80
  go_wp2
  go_loopw [7] (fun i wr => ∃ k : Nat, k ≤ n ∧ i = .int .i64 k ∧ wr = w.setCells g o (Lib.byteCells ((le n x).take k))) (fun i _ => n - (intOf i).toNat)
  case atStart => exact ⟨0, by omega, rfl, by simp [Lib.byteCells, World.setCells]⟩
  case round =>
    obtain ⟨k, hk, rfl, rfl⟩ := hrel
    by_cases hkm : k < n
    · have q0 : (k : Int) < (n : Int) := by omega
      have hg2 := Dk.heap_setCells g 5 (Lib.byteCells ((le n x).take k)) o w C hg (by rw [Dk.byteCells_len, List.length_take, le_len]; omega)
      have hC2 := Dk.splice_len (C := C) (o := o) (vs := Lib.byteCells ((le n x).take k)) (by rw [Dk.byteCells_len, List.length_take, le_len]; omega)
      obtain ⟨W2, hW2⟩ : ∃ W2, W2 = w.setCells g o (Lib.byteCells ((le n x).take k)) := ⟨_, rfl⟩
      obtain ⟨C2, hC3⟩ : ∃ C2, C2 = Dk.splice C o (Lib.byteCells ((le n x).take k)) := ⟨_, rfl⟩
      rw [← hC3] at hC2
      rw [← hW2, ← hC3] at hg2
      have hf : W2.frozen? ⟨g, o + k, none⟩ = false := frozen_of_row _ _ _ _ _ hg2
      obtain ⟨u, hc⟩ : ∃ u, W2.cell? ⟨g, o + k, none⟩ = some u := by
        rw [cell_of_row _ _ _ _ _ _ hg2]
        exact ⟨_, Array.getElem?_eq_getElem (by simp; omega)⟩
      rw [hW2] at hf hc
      clear hC3 hC2 hg2 hW2
      go_wp2
      go_roundw
      case rel => 
        refine ⟨k + 1, by omega, by go_num, ?_⟩
        have h1 := le_get n x k hkm
        have h2 : (le n x).take (k + 1) = (le n x).take k ++ [UInt8.ofNat (x / 256 ^ k)] := by
          rw [List.take_add_one, h1]; rfl
        have h3 : (UInt8.ofNat (x / 256 ^ k)).toNat = x / 256 ^ k % 256 := UInt8.toNat_ofNat'
        have h4 : ((x : Int) / 2 ^ (8 * k) % 256) = ((x / 256 ^ k % 256 : Nat) : Int) := by
          rw [show (256 : Nat) ^ k = 2 ^ (8 * k) by rw [Nat.pow_mul]]
          simp
        rw [h2, h4]
        simp only [Lib.byteCells, List.map_append, List.map_cons, List.map_nil, h3]
        rw [Dk.setCells_snoc, List.length_map, List.length_take, le_len, Nat.min_eq_left hk]
      case measure => simp [intOf]; omega
    · have q0 : ¬ (k : Int) < (n : Int) := by omega
      have hkk : k = n := by omega
      subst hkk
      go_wp2
      go_end0
      exact ⟨⟨_, rfl⟩, by rw [List.take_of_length_le (by rw [le_len]; omega)]⟩
end Go.Proofs
