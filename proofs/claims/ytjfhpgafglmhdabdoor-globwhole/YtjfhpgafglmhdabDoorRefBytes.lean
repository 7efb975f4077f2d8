import Derived.Test.YtjfhpgafglmhdabDoorSmall
import Derived.Test.YtjfhpgafglmhdabDoorMath1
import Derived.Lib.BufSteps
import Derived.Laws.IdiomStrings
namespace Go.Proofs
open Go.RowKit
theorem Tryd.conv (w : World) (zs : List Int) (hz : ∀ z ∈ zs, 0 ≤ z ∧ z < 256) :
    (convert 55 9 (.slice (some ⟨w.heap.size, 0, none⟩) zs.length zs.length)).run Tryd.prog (w.alloc (.cells (zs.map (Value.int .u8)).toArray 5)) = .ok (.string ⟨(zs.map fun z => z.toNat.toUInt8).toArray⟩) (w.alloc (.cells (zs.map (Value.int .u8)).toArray 5)) := by
  have h := run_convert_bytes_back (P := Tryd.prog) (w.alloc (.cells (zs.map (Value.int .u8)).toArray 5)) 55 9 5 ⟨w.heap.size, 0, none⟩ zs.length (zs.map fun z => z.toNat.toUInt8) Tryd.underlying55 Tryd.underlying5 Tryd.underlying9 (fun j hj => by
    have hj' : j < zs.length := by simpa using hj
    have hadd : (⟨w.heap.size, 0, none⟩ : Addr).add j = ⟨w.heap.size, j, none⟩ := by unfold Addr.add; split <;> simp_all
    rw [hadd, cell_of_row _ _ j _ _ _ (heap_alloc_new w _)]
    have hm := hz zs[j] (List.getElem_mem hj')
    have hv : (zs[j].toNat.toUInt8).toNat = zs[j].toNat := by simp; omega
    simp only [List.getElem_map, hv]
    simp [hj']
    omega)
  rw [List.length_map] at h
  exact h
set_option maxRecDepth 100000 in
set_option maxHeartbeats 4000000 in
theorem Tryd.bytes1 (r : Int) (h0 : 0 ≤ r) (h1 : r ≤ 127) (w : World) :
    Calls Tryd.prog 47 #[.int .i64 r] w fun e w' => e = .returned (.string ⟨(Lib.encodeRune r).toArray⟩) ∧ Below w.heap.size w w' := by
  have hc := Tryd.conv w (Lib.encodeRuneZ r) (fun z hz => Lib.encodeRuneZ_byte r z hz)
  have he : (Lib.encodeRuneZ r).map (fun z => z.toNat.toUInt8) = Lib.encodeRune r := rfl
  rw [he, Lib.encodeRuneZ_one h0 h1] at hc
  generalize Lib.encodeRune r = l at hc ⊢
  have hc' : (convert 55 9 (.slice (some ⟨w.heap.size, 0, none⟩) 1 1)).run Tryd.prog (w.alloc (.cells #[.int .u8 r] 5)) = .ok (.string ⟨l.toArray⟩) (w.alloc (.cells #[.int .u8 r] 5)) := hc
  clear hc he
  go_enter Tryd.func47, Tryd.ntmps47
  go_wp2
  go_ret
  exact ⟨rfl, (Below.refl _ _).alloc (Nat.le_refl _) _⟩
set_option maxRecDepth 100000 in
set_option maxHeartbeats 4000000 in
theorem Tryd.bytes2 (r : Int) (h0 : 128 ≤ r) (h1 : r ≤ 2047) (w : World) :
    Calls Tryd.prog 47 #[.int .i64 r] w fun e w' => e = .returned (.string ⟨(Lib.encodeRune r).toArray⟩) ∧ Below w.heap.size w w' := by
  have hc := Tryd.conv w (Lib.encodeRuneZ r) (fun z hz => Lib.encodeRuneZ_byte r z hz)
  have he : (Lib.encodeRuneZ r).map (fun z => z.toNat.toUInt8) = Lib.encodeRune r := rfl
  rw [he, Lib.encodeRuneZ_two h0 h1] at hc
  generalize Lib.encodeRune r = l at hc ⊢
  have hc' : (convert 55 9 (.slice (some ⟨w.heap.size, 0, none⟩) 2 2)).run Tryd.prog (w.alloc (.cells #[.int .u8 (192 + r / 64), .int .u8 (128 + r % 64)] 5)) = .ok (.string ⟨l.toArray⟩) (w.alloc (.cells #[.int .u8 (192 + r / 64), .int .u8 (128 + r % 64)] 5)) := hc
  clear hc he
  go_enter Tryd.func47, Tryd.ntmps47
  go_wp2
  go_ret
  exact ⟨rfl, (Below.refl _ _).alloc (Nat.le_refl _) _⟩
set_option maxRecDepth 100000 in
set_option maxHeartbeats 4000000 in
theorem Tryd.bytes3 (r : Int) (h0 : (2048 ≤ r ∧ r < 55296) ∨ (57343 < r ∧ r ≤ 65535)) (w : World) :
    Calls Tryd.prog 47 #[.int .i64 r] w fun e w' => e = .returned (.string ⟨(Lib.encodeRune r).toArray⟩) ∧ Below w.heap.size w w' := by
  have hc := Tryd.conv w (Lib.encodeRuneZ r) (fun z hz => Lib.encodeRuneZ_byte r z hz)
  have he : (Lib.encodeRuneZ r).map (fun z => z.toNat.toUInt8) = Lib.encodeRune r := rfl
  rw [he, Lib.encodeRuneZ_three h0] at hc
  generalize Lib.encodeRune r = l at hc ⊢
  have hc' : (convert 55 9 (.slice (some ⟨w.heap.size, 0, none⟩) 3 3)).run Tryd.prog (w.alloc (.cells #[.int .u8 (224 + r / 4096), .int .u8 (128 + r / 64 % 64), .int .u8 (128 + r % 64)] 5)) = .ok (.string ⟨l.toArray⟩) (w.alloc (.cells #[.int .u8 (224 + r / 4096), .int .u8 (128 + r / 64 % 64), .int .u8 (128 + r % 64)] 5)) := hc
  clear hc he
  have k0 : 2048 ≤ r := by omega
  have k1 : r ≤ 65535 := by omega
  go_enter Tryd.func47, Tryd.ntmps47
  go_wp2
  go_ret
  exact ⟨rfl, (Below.refl _ _).alloc (Nat.le_refl _) _⟩
set_option maxRecDepth 100000 in
set_option maxHeartbeats 4000000 in
theorem Tryd.bytes4 (r : Int) (h0 : 65536 ≤ r) (h1 : r ≤ 1114111) (w : World) :
    Calls Tryd.prog 47 #[.int .i64 r] w fun e w' => e = .returned (.string ⟨(Lib.encodeRune r).toArray⟩) ∧ Below w.heap.size w w' := by
  have hc := Tryd.conv w (Lib.encodeRuneZ r) (fun z hz => Lib.encodeRuneZ_byte r z hz)
  have he : (Lib.encodeRuneZ r).map (fun z => z.toNat.toUInt8) = Lib.encodeRune r := rfl
  rw [he, Lib.encodeRuneZ_four h0 h1] at hc
  generalize Lib.encodeRune r = l at hc ⊢
  have hc' : (convert 55 9 (.slice (some ⟨w.heap.size, 0, none⟩) 4 4)).run Tryd.prog (w.alloc (.cells #[.int .u8 (240 + r / 262144), .int .u8 (128 + r / 4096 % 64), .int .u8 (128 + r / 64 % 64), .int .u8 (128 + r % 64)] 5)) = .ok (.string ⟨l.toArray⟩) (w.alloc (.cells #[.int .u8 (240 + r / 262144), .int .u8 (128 + r / 4096 % 64), .int .u8 (128 + r / 64 % 64), .int .u8 (128 + r % 64)] 5)) := hc
  clear hc he
  go_enter Tryd.func47, Tryd.ntmps47
  go_wp2
  go_ret
  exact ⟨rfl, (Below.refl _ _).alloc (Nat.le_refl _) _⟩
theorem Tryd.bytes_any (r : Int) (n : Nat) (h : Sg.Cls r n) (w : World) :
    Calls Tryd.prog 47 #[.int .i64 r] w fun e w' => e = .returned (.string ⟨(Lib.encodeRune r).toArray⟩) ∧ Below w.heap.size w w' := by
  rcases h with ⟨a, b, _⟩ | ⟨a, b, _⟩ | ⟨a, _⟩ | ⟨a, b, _⟩
  · exact Tryd.bytes1 r a b w
  · exact Tryd.bytes2 r a b w
  · exact Tryd.bytes3 r a w
  · exact Tryd.bytes4 r a b w
end Go.Proofs
