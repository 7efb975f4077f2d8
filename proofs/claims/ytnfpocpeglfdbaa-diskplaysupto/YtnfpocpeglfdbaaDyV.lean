/-
  A step, whatever its kind.
-/
import Derived.Test.YtnfpocpeglfdbaaDyT1
import Derived.Test.YtnfpocpeglfdbaaDyT2
import Derived.Test.YtnfpocpeglfdbaaDyT3
import Derived.Test.YtnfpocpeglfdbaaDyT4
import Derived.Test.YtnfpocpeglfdbaaDyT5
import Derived.Test.YtnfpocpeglfdbaaDyT6
import Derived.Test.YtnfpocpeglfdbaaDyT7
import Derived.Test.YtnfpocpeglfdbaaDyT8
import Derived.Test.YtnfpocpeglfdbaaDyT9
import Derived.Test.YtnfpocpeglfdbaaDyTa
import Derived.Test.YtnfpocpeglfdbaaDyTn
namespace Go.Proofs
open Go.RowKit Go.Dk
set_option maxRecDepth 4000 in
set_option maxHeartbeats 8000000 in
theorem Try.step_empty {B : Nat} {w0 w : World} {wb : Nat} {G : Dk.Gs} {ps : List Dk.Pq} {H c : Nat} (h : Try.Zw B w0 w wb G ps H Dk.r0 Dk.b0) (hP : Dk.Pin c ps) (hps : ps.length = 0) (K : Int) (k1 : ¬ K = 1) (N q : Int) (b : ByteArray) (ck ct : Int) :
    Calls Try.prog 5 #[.pointer (some ⟨wb, 0, none⟩), .agg #[.int .i64 K, .int .i64 N, .int .i64 q, .string b, .int .i64 ck, .int .i64 ct]] w fun e w' => e = .returned (.bool true) ∧ Try.Stp B w0 wb G c H w' := by
  have HP : Hid (Dk.Pin c ps) := hP
  obtain ⟨W1, hW1⟩ : ∃ W1 : World, W1 = w.alloc (.cells #[.int .i64 K, .int .i64 N, .int .i64 q, .string b, .int .i64 ck, .int .i64 ct] 33) := ⟨_, rfl⟩
  have hb1 : Below w.heap.size w W1 := by rw [hW1]; exact (Below.refl _ w).alloc (Nat.le_refl _) _
  have hx1 : W1.heap[w.heap.size]? = some (.cells #[.int .i64 K, .int .i64 N, .int .i64 q, .string b, .int .i64 ck, .int .i64 ct] 33 (0, 0)) := by rw [hW1]; exact heap_alloc_new w _
  have hZ1 := h.below hb1
  have HW : Hid (W1 = w.alloc (.cells #[.int .i64 K, .int .i64 N, .int .i64 q, .string b, .int .i64 ck, .int .i64 ct] 33)) := hW1
  obtain ⟨ad, cap, l0, -⟩ := hZ1.lrow
  rw [hps] at l0
  clear h hb1 hP hW1 hps
  go_enter Try.func5, Try.ntmps5
  go_upto_region 1 with fail
  rw [← HW.out]
  clear HW
  generalize w.heap.size = ob at *
  have a0 := cell_of_row W1 ob 0 _ _ _ hx1
  go_wp2_with fail
  go_ret
  exact ⟨by simp, _, _, hZ1, HP.out.up, by omega⟩
theorem Try.step_any {B : Nat} {w0 w : World} {wb : Nat} {G : Dk.Gs} {ps : List Dk.Pq} {H c : Nat} (h : Try.Zw B w0 w wb G ps H Dk.r0 Dk.b0) (hP : Dk.Pin c ps) (hc : c ≤ 400000) (hH : H ≤ 250000000) (K N q : Int) (b : ByteArray) (ck ct : Int) (hb : b.size ≤ 1048576) (hN : -9223372036854775808 ≤ N ∧ N ≤ 9223372036854775807) (hq : q ≤ 9223372036854775807) :
    Calls Try.prog 5 #[.pointer (some ⟨wb, 0, none⟩), .agg #[.int .i64 K, .int .i64 N, .int .i64 q, .string b, .int .i64 ck, .int .i64 ct]] w fun e w' => e = .returned (.bool true) ∧ Try.Stp B w0 wb G c H w' := by
  by_cases k1 : K = 1
  · subst k1; exact Try.step_new h hP N q b ck ct
  by_cases hps : ps.length = 0
  · exact Try.step_empty h hP hps K k1 N q b ck ct
  by_cases k2 : K = 2
  · subst k2; exact Try.step_read h hP hc hH hps N q b ck ct hb hN hq
  by_cases k3 : K = 3
  · subst k3; exact Try.step_write h hP hc hH hps N q b ck ct hb hN hq
  by_cases k4 : K = 4
  · subst k4; exact Try.step_sync h hP hc hH hps N q b ck ct hb hN hq
  by_cases k5 : K = 5
  · subst k5; exact Try.step_fuse h hP hc hH hps N q b ck ct hb hN hq
  by_cases k6 : K = 6
  · subst k6; exact Try.step_crash h hP hc hH hps N q b ck ct hb hN hq
  by_cases k7 : K = 7
  · subst k7; exact Try.step_restart h hP hc hH hps N q b ck ct hb hN hq
  by_cases k8 : K = 8
  · subst k8; exact Try.step_ask h hP hc hH hps N q b ck ct hb hN hq
  by_cases k9 : K = 9
  · subst k9; exact Try.step_copy h hP hc hH hps N q b ck ct hb hN hq
  by_cases k10 : K = 10
  · subst k10; exact Try.step_all h hP hc hH hps N q b ck ct hb hN hq
  exact Try.step_none h hP hc hH hps K k1 k2 k3 k4 k5 k6 k7 k8 k9 k10 N q b ck ct hb hN hq
end Go.Proofs
