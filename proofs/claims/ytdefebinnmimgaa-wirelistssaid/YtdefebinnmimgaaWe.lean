/-
  ReadList of ints whose 'one' counts its calls and reads nothing: the walk.
-/
import Derived.Test.YtdefebinnmimgaaWd
namespace Go.Proofs
open Go.RowKit Go.Wi
/-- 1, 2 .. k. -/
def Wi.ups (k : Nat) : List Int := (List.range k).map fun i : Nat => (i : Int) + 1
theorem Wi.ups_len (k : Nat) : (Wi.ups k).length = k := by simp [Wi.ups]
theorem Wi.ups_succ (k : Nat) : Wi.ups (k + 1) = Wi.ups k ++ [(k : Int) + 1] := by simp [Wi.ups, List.range_succ]
theorem Try.funcNil4 (f : FuncId) (c : Nat) (w : World) : (binOp .eql 59 (.func (.func f) #[] #[.pointer (some ⟨c, 0, .none⟩)]) .nilFunc).run Try.prog w = .ok (.bool false) w := by
  kernel_rfl
set_option maxRecDepth 4000 in
set_option maxHeartbeats 4000000 in
theorem Try.readInts_ok {w0 w : World} {x : Nat} {s s1 : Rs} {g : Nat} (h : Try.RN w0 w x s (.slice .none 0 0) [] g (Try.cn 0)) (most : Int) (hmo : In64 most) (N : Nat) (hth : Wi.thing s most = (N, s1)) (hf : s1.f = .none) (hlf : N ≤ s1.t.length - s1.p) (hl : N ≤ 1000000000000) :
    Calls Try.prog 34 #[.pointer (some ⟨x, 0, .none⟩), .int .i64 most, .func (.func 35) #[] #[.pointer (some ⟨g, 0, .none⟩)]] w fun e w' => ∃ ad cap, e = .returned (.slice ad N cap) ∧ Try.RN w0 w' x s1 (.slice ad N cap) (Wi.ups N) g (Try.cn N) := by
  have hfn := Try.funcNil4 35 g
  have h1 : Calls Try.prog 53 #[.pointer (some ⟨x, 0, .none⟩), .int .i64 most] w fun e w' => e = .returned (.int .i64 N) ∧ Try.RN w0 w' x s1 (.slice .none 0 0) [] g (Try.cn 0) := by
    obtain ⟨own, g1, g2, g3, g4, g5, g6, g7⟩ := h.ex
    have := Try.things_any g1 most hmo
    rw [hth] at this
    exact this.mono fun _ _ ⟨e1, e2⟩ => ⟨e1, Try.RN.chg h.wo g1 g2 g3 g4 g5 g6 g7 e2⟩
  have hleft : ∀ W, Try.RN w0 W x s1 (.slice .none 0 0) [] g (Try.cn 0) → Calls Try.prog 48 #[.pointer (some ⟨x, 0, .none⟩)] W fun e w' => e = .returned (.int .i64 (s1.t.length - s1.p : Nat)) ∧ Try.RN w0 w' x s1 (.slice .none 0 0) [] g (Try.cn 0) := fun W hW => by
    obtain ⟨own, g1, -⟩ := hW.ex
    exact (Try.left_any g1).mono fun _ _ ⟨e1, n, e2⟩ => ⟨e1, by rw [e2]; exact hW.drewN n⟩
  have q1 : ¬ ((s1.t.length - s1.p : Nat) : Int) < (N : Int) := by omega
  have hmin : min (N : Int) ((s1.t.length - s1.p : Nat) : Int) = (N : Int) := by omega
  generalize s1.t.length - s1.p = lf at hleft q1 hmin hlf
  have Hl : Hid (N ≤ 1000000000000) := hl
  have Hf : Hid (s1.f = .none) := hf
  clear hth h hl hf hlf
  go_enter Try.func34, Try.ntmps34
  go_wp2_with (first
    | (go_at_call 53; refine h1.mono ?_; clear h1; rintro e w2 ⟨rfl, hR2⟩; have h2 := hleft w2 hR2)
    | (go_at_call 48; refine h2.mono ?_; clear h2 hleft; rintro e w3 ⟨rfl, hR3⟩)
    | fail)
  have hN : N ≤ 9223372036854775807 := by have := Hl.out; omega
  have HR3 : Hid (Try.RN w0 w3 x s1 (.slice .none 0 0) [] g (Try.cn 0)) := hR3
  clear hR2 hR3 q1
  go_loopw [9, 10, 21] (fun l _ i wr => ∃ (k : Nat) (ad : Option Addr) (cap : Nat), k ≤ N ∧ i = .int .i64 k ∧ l = .slice ad k cap ∧ Try.RN w0 wr x s1 (.slice ad k cap) (Wi.ups k) g (Try.cn k)) (fun _ _ i _ => N - (intOf i).toNat)
  case atStart => exact ⟨0, .none, 0, Nat.zero_le _, rfl, rfl, HR3.out⟩
  case round =>
    obtain ⟨k, ad, cap, hk, rfl, rfl, hR⟩ := hrel
    by_cases hkq : k < N
    · have q0 : (k : Int) < (N : Int) := by omega
      have h4 := hR.one4 ((k : Int) + 1) (Wi.w64 _ (by omega) (by have := Hl.out; omega))
      have Hlk : Hid ((Wi.ups k).length = k) := Wi.ups_len k
      have Hup : Hid (Wi.ups (k + 1) = Wi.ups k ++ [(k : Int) + 1]) := Wi.ups_succ k
      obtain ⟨n, hn⟩ : ∃ n : Int, n = (k : Int) + 1 := ⟨_, rfl⟩
      have Hn : Hid (n = ((k + 1 : Nat) : Int)) := (by show _ = _; omega)
      rw [← hn] at Hup h4
      clear hn
      by_cases hcap : k = cap
      · have q2 : ((k : Int) == (cap : Int)) = true := by simp [hcap]
        clear hcap
        go_wp2_with (first
          | (go_at_call 35; refine h4.mono ?_; clear h4; rintro e w5 ⟨rfl, hR5⟩; have c2 := hR5.nofault Hf.out; have h5 := hR5.wider N Hl.out (by rw [Hlk.out]; have := Hl.out; omega); rw [Hlk.out] at h5)
          | (go_at_call 56; refine h5.mono ?_; clear h5; rintro e w6 ⟨ad6, cap6, rfl, hR6⟩)
          | (at_builtin; refine Try.appIN rfl _ _ rfl hR6 rfl rfl n (by rw [Hlk.out]; have := Hl.out; omega) ?_; intro ad7 cap7 w7 hR7; rw [Hlk.out] at hR7 ⊢)
          | fail)
        go_roundw
        case rel => exact ⟨k + 1, ad7, cap7, by omega, by go_num, rfl, by rw [Hup.out, ← Hn.out]; exact hR7⟩
        case measure => simp [intOf]; omega
      · have q2 : ((k : Int) == (cap : Int)) = false := by simp; omega
        clear hcap
        go_wp2_with (first
          | (go_at_call 35; refine h4.mono ?_; clear h4; rintro e w5 ⟨rfl, hR5⟩; have c2 := hR5.nofault Hf.out)
          | (at_builtin; refine Try.appIN rfl _ _ rfl hR5 rfl rfl n (by rw [Hlk.out]; have := Hl.out; omega) ?_; intro ad7 cap7 w7 hR7; rw [Hlk.out] at hR7 ⊢)
          | fail)
        go_roundw
        case rel => exact ⟨k + 1, ad7, cap7, by omega, by go_num, rfl, by rw [Hup.out, ← Hn.out]; exact hR7⟩
        case measure => simp [intOf]; omega
    · have q0 : ¬ (k : Int) < (N : Int) := by omega
      have hkk : k = N := by omega
      subst hkk
      go_wp2
      go_ret
      exact ⟨_, _, rfl, hR⟩
end Go.Proofs
