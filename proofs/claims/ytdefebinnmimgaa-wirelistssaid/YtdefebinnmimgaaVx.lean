/-
  ReadList where the count is refused: nothing is asked of 'one', nothing comes.
-/
import Derived.Test.YtdefebinnmimgaaVq
namespace Go.Proofs
open Go.RowKit Go.Wi
theorem Try.funcNil2 (T : TypeId) (hT : T = 59 ∨ T = 56) (f : FuncId) (w : World) : (binOp .eql T (.func (.func f) #[] #[]) .nilFunc).run Try.prog w = .ok (.bool false) w := by
  rcases hT with rfl | rfl
  · kernel_rfl
  · kernel_rfl
set_option maxRecDepth 4000 in
set_option maxHeartbeats 2000000 in
theorem Try.readInts_none {w : World} {own : Nat → Prop} {x : Nat} {s : Rs} (h : Try.Rd w own x s) (most : Int) (hmo : In64 most) (f : FuncId) (h0 : (Wi.thing s most).1 = 0) :
    Calls Try.prog 34 #[.pointer (some ⟨x, 0, .none⟩), .int .i64 most, .func (.func f) #[] #[]] w fun e w' => e = .returned (.slice .none 0 0) ∧ Try.RChg own w w' x (Wi.thing s most).2 := by
  have hfn := Try.funcNil2 59 (.inl rfl) f
  have h1 := Try.things_any h most hmo
  rw [h0] at h1
  generalize (Wi.thing s most).2 = s2 at h1 ⊢
  clear h0 h
  go_enter Try.func34, Try.ntmps34
  go_wp2_with (first
    | (go_at_call 53; refine h1.mono ?_; clear h1; rintro e w2 ⟨rfl, hC⟩; obtain ⟨o2, g1, g2⟩ := hC.ex; have h2 := Try.left_any g1)
    | (go_at_call 48; refine h2.mono ?_; clear h2; rintro e w3 ⟨rfl, n, rfl⟩)
    | fail)
  have HC : Hid (Try.RChg own w (w2.drewN n) x s2) := hC.drewN n
  clear hC g1 g2
  go_loopw [9, 10, 21] (fun l _ i wr => l = .slice .none 0 0 ∧ i = .int .i64 0 ∧ Try.RChg own w wr x s2) (fun _ _ _ _ => 0)
  case atStart => exact ⟨rfl, rfl, HC.out⟩
  case round =>
    obtain ⟨rfl, rfl, hR⟩ := hrel
    have HR : Hid (Try.RChg own w wr x s2) := hR
    clear hR
    go_wp2
    go_ret
    exact ⟨rfl, HR.out⟩
end Go.Proofs
