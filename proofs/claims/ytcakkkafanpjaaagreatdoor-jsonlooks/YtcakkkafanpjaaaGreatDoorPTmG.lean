/-
  Laid together by packg.py of TmG.
-/
import Derived.Test.YtcakkkafanpjaaaGreatDoorQaJ
import Derived.Lib.RuneBytes
namespace Go.Proofs
open Go.RowKit Go.Jv
theorem Jv.row_new {w : World} {B : Nat} {e : TypeId} (xs : List Value) (hB : B ≤ w.heap.size) (hl : xs.length ≤ 1000) : (w.alloc (.cells xs.toArray e)).ownsRow B e 1 (.slice (some ⟨w.heap.size, 0, none⟩) xs.length xs.length) xs.length xs :=
  ⟨by omega, .inr ⟨w.heap.size, xs.length, xs.toArray, rfl, hB, heap_alloc_new w _, Nat.le_refl _, by unfold maxLen; omega, by simp, by simp⟩⟩
set_option maxRecDepth 20000 in
set_option maxHeartbeats 2000000 in
theorem Tryz.encoded_any (n : Nat) (hn : n ≤ 1114111) (hs : n < 55296 ∨ 57343 < n) (w : World) :
    Calls Tryz.prog 134 #[.int .i64 n] w fun e w' => e = .returned (.slice (some ⟨w.heap.size, 0, none⟩) (Lib.byteCells (Lib.encodeRune n)).length (Lib.byteCells (Lib.encodeRune n)).length) ∧ w' = w.alloc (.cells (Lib.byteCells (Lib.encodeRune n)).toArray 5) := by
  have HB : Hid (Lib.byteCells (Lib.encodeRune n) = Lib.runeCells n) := Lib.byteCells_encodeRune _
  by_cases c1 : n < 128
  · have HR : Hid (Lib.runeCells n = [.int .u8 n]) := (by show _ = _; unfold Lib.runeCells; rw [Lib.encodeRuneZ_one (by omega) (by omega)]; rfl)
    have q1 : (n : Int) < 128 := by omega
    clear hs
    go_enter Tryz.func134, Tryz.ntmps134
    go_wp2
    go_ret
    exact ⟨by rw [HB.out, HR.out]; rfl, by rw [HB.out, HR.out]⟩
  · by_cases c2 : n < 2048
    · have HR : Hid (Lib.runeCells n = [.int .u8 (192 + (n : Int) / 64), .int .u8 (128 + (n : Int) % 64)]) := (by show _ = _; unfold Lib.runeCells; rw [Lib.encodeRuneZ_two (by omega) (by omega)]; rfl)
      have q1 : ¬ (n : Int) < 128 := by omega
      have q2 : (n : Int) < 2048 := by omega
      clear hs
      go_enter Tryz.func134, Tryz.ntmps134
      go_wp2
      go_ret
      exact ⟨by rw [HB.out, HR.out]; rfl, by rw [HB.out, HR.out]⟩
    · by_cases c3 : n < 65536
      · skip
        have HR : Hid (Lib.runeCells n = [.int .u8 (224 + (n : Int) / 4096), .int .u8 (128 + (n : Int) / 64 % 64), .int .u8 (128 + (n : Int) % 64)]) := (by show _ = _; unfold Lib.runeCells; rw [Lib.encodeRuneZ_three (by omega)]; rfl)
        have q1 : ¬ (n : Int) < 128 := by omega
        have q2 : ¬ (n : Int) < 2048 := by omega
        have q3 : (n : Int) < 65536 := by omega
        clear hs
        go_enter Tryz.func134, Tryz.ntmps134
        go_wp2
        go_ret
        exact ⟨by rw [HB.out, HR.out]; rfl, by rw [HB.out, HR.out]⟩
      · skip
        have HR : Hid (Lib.runeCells n = [.int .u8 (240 + (n : Int) / 262144), .int .u8 (128 + (n : Int) / 4096 % 64), .int .u8 (128 + (n : Int) / 64 % 64), .int .u8 (128 + (n : Int) % 64)]) := (by show _ = _; unfold Lib.runeCells; rw [Lib.encodeRuneZ_four (by omega) (by omega)]; rfl)
        have q1 : ¬ (n : Int) < 128 := by omega
        have q2 : ¬ (n : Int) < 2048 := by omega
        have q3 : ¬ (n : Int) < 65536 := by omega
        have q4 : (n : Int) ≤ 1114111 := by omega
        clear hs
        go_enter Tryz.func134, Tryz.ntmps134
        go_wp2
        go_ret
        exact ⟨by rw [HB.out, HR.out]; rfl, by rw [HB.out, HR.out]⟩
end Go.Proofs
