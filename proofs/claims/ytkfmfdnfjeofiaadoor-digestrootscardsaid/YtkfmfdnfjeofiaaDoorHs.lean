/-
  The document's roots.
-/
import Derived.Test.YtkfmfdnfjeofiaaDoorHr
namespace Go.Dg
/-- Behind the bits from 36 down to number 37 - f. -/
def rootF (p n : Nat) : Nat → Nat
  | 0 => 0
  | f + 1 => if lessP (rootF p n f + 2 ^ (36 - f)) n p then rootF p n f + 2 ^ (36 - f) else rootF p n f
def root (p n : Nat) : Nat := rootF p n 37 % 4294967296
theorem rootF_lt (p n : Nat) : ∀ f, f ≤ 37 → rootF p n f + 2 ^ (37 - f) ≤ 2 ^ 37
  | 0, _ => by simp [rootF]
  | f + 1, h => by
    have h1 := rootF_lt p n f (by omega)
    rw [show 37 - f = (36 - f) + 1 by omega, Nat.pow_succ] at h1
    unfold rootF
    rw [show 37 - (f + 1) = 36 - f by omega]
    split <;> omega
end Go.Dg
namespace Go.Proofs
open Go.RowKit Go.Wi Go.Dg
set_option maxRecDepth 20000 in
set_option maxHeartbeats 1000000 in
theorem Tryd.root_any (p n : Nat) (hn : n ≤ 1000) (w : World) :
    Calls Tryd.prog 33 #[.int .u64 (p : Int), .int .i64 (n : Int)] w fun e w' => e = .returned (.int .u32 ((root p n : Nat) : Int)) ∧ Below w.heap.size w w' := by
  go_enter Tryd.func33, Tryd.ntmps33
  go_wp2
  go_loopw [5, 6] (fun xv av wr => ∃ (f : Nat) (A : Int), xv = .int .u64 ((rootF p n f : Nat) : Int) ∧ av = .int .i64 A ∧ f ≤ 37 ∧ Hid (A = 36 - (f : Int)) ∧ Hid (Below w.heap.size w wr)) (fun _ av _ => (intOf av + 1).toNat)
  case atStart => exact ⟨0, 36, rfl, rfl, by omega, rfl, Below.refl _ w⟩
  case round =>
    obtain ⟨f, A, rfl, rfl, hf, HA, Hw⟩ := hrel
    have hr := rootF_lt p n f hf
    obtain ⟨y, hy⟩ : ∃ y, y = rootF p n f := ⟨_, rfl⟩
    by_cases hlt : f < 37
    · obtain ⟨B, hB⟩ : ∃ B : Nat, B = 36 - f := ⟨_, rfl⟩
      have f0 : A = (B : Int) := by have := HA.out; omega
      subst f0
      have hB64 : B < 64 := by omega
      have q1 : (0 : Int) ≤ B := by omega
      obtain ⟨D, hD⟩ : ∃ D : Nat, D = 2 ^ B := ⟨_, rfl⟩
      rw [show 37 - f = B + 1 by omega, Nat.pow_succ, ← hD, ← hy] at hr
      have hD2 : D ≤ 137438953472 := by omega
      have f1 : IntKind.u64.wrap ((2 : Int) ^ B) = (D : Int) := by
        have h1 : (2 : Int) ^ B = (D : Int) := by rw [hD]; simp
        rw [h1, IntKind.wrap_u64]
        omega
      obtain ⟨m, hm⟩ : ∃ m : Nat, m = y + D := ⟨_, rfl⟩
      have f2 : IntKind.u64.wrap ((y : Int) + (D : Int)) = (m : Int) := by rw [IntKind.wrap_u64]; omega
      have f3 : IntKind.i64.wrap ((B : Int) - 1) = (B : Int) - 1 := by rw [IntKind.wrap_i64]; omega
      have Hnx : Hid (rootF p n (f + 1) = if lessP m n p then m else y) := (by
        show _ = _
        rw [rootF, ← hB, ← hD, ← hy, ← hm])
      have hc := Tryd.less_any m n p hn (by omega)
      have HBf : Hid (B = 36 - f) := hB
      rw [← hy]
      clear hD hm hy hB hr
      cases hl : lessP m n p
      · rw [hl] at hc
        go_wp2_with (first | (go_at_call 40; refine (hc _).mono ?_; clear hc; rintro z w1 ⟨rfl, hb1⟩; have HB1 : Hid _ := hb1; clear hb1) | fail)
        refine ⟨⟨f + 1, (B : Int) - 1, ?_, by go_num, by omega, ?_, Hw.out.trans (HB1.out.mono Hw.out.size)⟩, ?_⟩
        · rw [Hnx.out, hl]
          rfl
        · have := HBf.out
          show _ = _
          omega
        · simp [intOf]
      · rw [hl] at hc
        go_wp2_with (first | (go_at_call 40; refine (hc _).mono ?_; clear hc; rintro z w1 ⟨rfl, hb1⟩; have HB1 : Hid _ := hb1; clear hb1) | fail)
        refine ⟨⟨f + 1, (B : Int) - 1, ?_, by go_num, by omega, ?_, Hw.out.trans (HB1.out.mono Hw.out.size)⟩, ?_⟩
        · rw [Hnx.out, hl]
          rfl
        · have := HBf.out
          show _ = _
          omega
        · simp [intOf]
    · have q1 : ¬ (0 : Int) ≤ A := by have := HA.out; omega
      obtain rfl : f = 37 := by omega
      have HR : Hid (root p n = y % 4294967296) := (by show _ = _; rw [hy]; rfl)
      obtain ⟨r, hr2⟩ : ∃ r : Nat, r = y % 4294967296 := ⟨_, rfl⟩
      have f1 : (y : Int) % 4294967296 = (r : Int) := by omega
      have f2 : IntKind.u32.wrap (r : Int) = (r : Int) := by rw [IntKind.wrap_u32]; omega
      have HR2 : Hid (root p n = r) := (by show _ = _; rw [HR.out, hr2])
      rw [← hy]
      clear hy hr2 hr
      go_wp2
      go_ret
      exact ⟨by rw [HR2.out]; rfl, Hw.out⟩
end Go.Proofs
