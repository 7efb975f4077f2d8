/-
  The program's sum: what stands behind all bytes.
-/
import Derived.Test.YtkfmfdnfjeofiaaDoorIe
namespace Go.Proofs
open Go.RowKit Go.Wi Go.Dg
/-- What stands behind so many bytes. -/
def Dg.tail (c : Nat) : List UInt8 := [128] ++ List.replicate ((119 - c % 64) % 64) 0 ++ be8 (c * 8)
theorem Dg.fill_tail (l : List UInt8) : fill l = l ++ Dg.tail l.length := by simp [fill, Dg.tail]
theorem Dg.tail_len (c : Nat) : (Dg.tail c).length = 9 + (119 - c % 64) % 64 := by simp [Dg.tail, be8]; omega
set_option maxRecDepth 20000 in
set_option maxHeartbeats 1000000 in
theorem Tryd.ending_any (c : Nat) (hc : c ≤ 1000000000000000) (w : World) :
    Calls Tryd.prog 36 #[.int .u64 (c : Int)] w fun e w' => ∃ cap, e = .returned (.slice (some ⟨w.heap.size, 0, none⟩) (Dg.tail c).length cap) ∧ Ob w' w.heap.size (.slice (some ⟨w.heap.size, 0, none⟩) (Dg.tail c).length cap) (Dg.tail c) ∧ Below w.heap.size w w' := by
  obtain ⟨K, hK⟩ : ∃ K : Nat, K = 64 - (c + 8) % 64 := ⟨_, rfl⟩
  have hK1 : 1 ≤ K := by omega
  have hK64 : K ≤ 64 := by omega
  obtain ⟨c8, hc8⟩ : ∃ c8 : Nat, c8 = c + 8 := ⟨_, rfl⟩
  have e0 : (c : Int) + 8 = (c8 : Int) := by omega
  have e1 : IntKind.u64.wrap ((c : Int) + 8) = (c8 : Int) := by rw [IntKind.wrap_u64]; omega
  have e3 : 64 - (c8 : Int) % 64 = (K : Int) := by omega
  have e4 : IntKind.u64.wrap (64 - (c8 : Int) % 64) = (K : Int) := by rw [IntKind.wrap_u64]; omega
  have HK : Hid (K = 64 - (c + 8) % 64) := hK
  obtain ⟨T, hT⟩ : ∃ T : Nat, T = c * 8 := ⟨_, rfl⟩
  have e5 : IntKind.u64.wrap ((c : Int) * 8) = (T : Int) := by rw [IntKind.wrap_u64]; omega
  have e6 : (c : Int) * 8 = (T : Int) := by omega
  have HT : Hid (T = c * 8) := hT
  have q0 : (0 : Int) < (K : Int) := by omega
  clear hK hc8 hT
  go_enter Tryd.func36, Tryd.ntmps36
  go_wp2_with (first | (refine Tryd.makeLC rfl _ _ rfl _ _ _ _ K 72 rfl rfl rfl rfl (by omega) (by omega) ?_; intro w1 ho1 hb1 hs1; have HO1 : Hid _ := ho1; have HB1 : Hid _ := hb1; have hc1 := (Ob.cell ho1 (i := 0) (by rw [List.length_replicate]; omega)).2; have hc2 : w1.cell? ⟨w.heap.size, 0, none⟩ = some (.int .u8 0) := (by have h9 := (Ob.cell ho1 (i := 0) (by rw [List.length_replicate]; omega)).1; simpa using h9); clear ho1 hb1 hs1) | fail)
  clear hc1 hc2
  have HO2 : Hid (Ob (w1.setCell ⟨w.heap.size, 0, none⟩ (.int .u8 128)) w.heap.size (.slice (some ⟨w.heap.size, 0, none⟩) K 72) ([128] ++ List.replicate (K - 1) 0)) := by
    have h1 := Ob.set HO1.out 0 128 128 rfl (by rw [List.length_replicate]; omega)
    rw [show K = (K - 1) + 1 by omega, List.replicate_succ, List.set_cons_zero] at h1
    rw [show K - 1 + 1 = K by omega] at h1
    exact h1
  have HB2 : Hid (Below w.heap.size w (w1.setCell ⟨w.heap.size, 0, none⟩ (.int .u8 128))) := HB1.out.setCell (p := ⟨w.heap.size, 0, none⟩) (Nat.le_refl _) _
  clear HO1 HB1
  obtain ⟨M, hM⟩ : ∃ M : List UInt8, M = [128] ++ List.replicate (K - 1) 0 := ⟨_, rfl⟩
  have hMl : M.length = K := by rw [hM]; simp; omega
  rw [← hM] at HO2
  have HM : Hid (M = [128] ++ List.replicate (K - 1) 0) := hM
  have HMl : Hid (M.length = K) := hMl
  clear hM hMl
  generalize w1.setCell ⟨w.heap.size, 0, none⟩ (.int .u8 128) = w2 at *
  go_loopw [3, 4] (fun v atv wr => ∃ (t N : Nat) (A : Int), v = .slice (some ⟨w.heap.size, 0, none⟩) N 72 ∧ Hid (N = K + t) ∧ atv = .int .i64 A ∧ Hid (A = 56 - 8 * (t : Int)) ∧ t ≤ 8 ∧ Hid (Ob wr w.heap.size v (M ++ (be8 T).take t)) ∧ Hid (Below w.heap.size w wr)) (fun v _ _ => K + 8 - Dg.lenV v)
  case atStart => exact ⟨0, K, 56, rfl, rfl, rfl, rfl, by omega, by rw [List.take_zero, List.append_nil]; exact HO2, HB2⟩
  case round =>
    clear HO2 HB2
    obtain ⟨t, N, A, rfl, HN, rfl, HA, ht, Ho, Hw⟩ := hrel
    by_cases hlt : t < 8
    · have q1 : (0 : Int) ≤ A := by have := HA.out; omega
      have Hnl : Hid (N = (M ++ (be8 T).take t).length) := (by show _ = _; have := HMl.out; have := HN.out; rw [List.length_append, List.length_take]; simp [be8]; omega)
      have Hsz : Hid (w.heap.size ≤ wr.heap.size) := Hw.out.size
      have e7 : IntKind.i64.wrap (A - 8) = A - 8 := by have := HA.out; rw [IntKind.wrap_i64]; omega
      have Hcs : Hid _ := Dg.be8_cell T t A HA.out hlt
      have hr : N + 1 ≤ 72 := by have := HN.out; omega
      go_wp2_with (first | (at_builtin; refine Tryd.roomN rfl (.tmp 16) (.tmp 22) rfl (Ho.out.alloc _) Hnl.out rfl [UInt8.ofNat (T / 2 ^ (56 - 8 * t))] 1 _ rfl rfl _ Hcs.out (heap_alloc_new _ _) hr ?_; intro w3 ho3 hw3; have HO3 : Hid _ := ho3; have HB3 : Hid (Below w.heap.size w w3) := Wo.toBelow (Hw.out.alloc Hw.out.size _) hw3 (fun k e => by rw [e]; exact Nat.le_refl _) (by have := Hsz.out; simp; omega); clear ho3 hw3) | fail)
      go_roundw
      case rel =>
        refine ⟨t + 1, N + 1, A - 8, rfl, ?_, by go_num, ?_, by omega, ?_, HB3⟩
        · have := HN.out
          show _ = _
          omega
        · have := HA.out
          show _ = _
          omega
        · have := HO3
          rw [List.append_assoc, ← Dg.be8_next T t hlt] at this
          exact this
      case measure =>
        have hk := HN.out
        show K + 8 - (N + 1) < K + 8 - N
        omega
    · have q1 : ¬ (0 : Int) ≤ A := by have := HA.out; omega
      obtain rfl : t = 8 := by omega
      go_wp2
      go_ret
      have e8 : Dg.tail c = M ++ (be8 T).take 8 := by
        rw [HM.out, HT.out]
        have h1 : (119 - c % 64) % 64 = K - 1 := by have := HK.out; omega
        unfold Dg.tail
        rw [h1]
        rfl
      have e9 : N = (Dg.tail c).length := by
        rw [e8, List.length_append, HMl.out, HN.out]
        rfl
      have h1 := Ho.out
      rw [← e8] at h1
      refine ⟨72, ?_, ?_, Hw.out⟩
      · rw [← e9]
        rfl
      · rw [← e9]
        exact h1
end Go.Proofs
