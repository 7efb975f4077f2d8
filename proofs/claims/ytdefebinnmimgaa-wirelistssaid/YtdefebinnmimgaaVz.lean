/-
  ReadList of texts whose first text is not there.
-/
import Derived.Test.YtdefebinnmimgaaVy
namespace Go.Proofs
open Go.RowKit Go.Wi
theorem Try.funcNil3 (f : FuncId) (c : Nat) (w : World) : (binOp .eql 56 (.func (.func f) #[] #[.pointer (some ⟨c, 0, .none⟩)]) .nilFunc).run Try.prog w = .ok (.bool false) w := by
  kernel_rfl
theorem Try.Rd.fault {w : World} {own : Nat → Prop} {x : Nat} {s : Rs} (h : Try.Rd w own x s) {a : Nat} (hf : s.f = some a) : ∃ y, w.cell? ⟨x, 2, .none⟩ = some (.pointer (some ⟨y, 0, .none⟩)) := by
  obtain ⟨V, fv, hx, -, -, -, hfv⟩ := h.ex
  rcases hfv with ⟨e, -⟩ | ⟨b, y, -, e2, -⟩
  · rw [hf] at e; cases e
  · subst e2; exact ⟨y, cell_of_row w x 2 _ _ _ hx⟩
set_option maxRecDepth 4000 in
set_option maxHeartbeats 2000000 in
theorem Try.readTexts_cut {w : World} {own : Nat → Prop} {x c : Nat} {s s1 : Rs} {n : Int} (h : Try.Rd w own x s) (hc : w.heap[c]? = some (.cells #[.int .i64 n] 3 (0, 0))) (hco : ¬ own c) (m : Int) (hn : wrap64 (n + 1) = m) (most : Int) (hmo : In64 most) (N : Nat) (hN : 1 ≤ N) (hth : Wi.thing s most = (N, s1)) (a : Nat) (hf : s1.text.2.f = some a) :
    Calls Try.prog 31 #[.pointer (some ⟨x, 0, .none⟩), .int .i64 most, .func (.func 32) #[] #[.pointer (some ⟨c, 0, .none⟩)]] w fun e w' => e = .returned (.slice .none 0 0) ∧ Try.Ctd own w w' x c s1.text.2 m := by
  have hfn := Try.funcNil3 32 c
  have h1 := Try.things_any h most hmo
  rw [hth] at h1
  have hox := h.ox
  have hcl := block_lt hc
  have HW : Hid (∀ w2, Try.RChg own w w2 x s1 → ∃ o2, Try.Rd w2 o2 x s1 ∧ w2.heap[c]? = some (.cells #[.int .i64 n] 3 (0, 0)) ∧ ¬ o2 c ∧ ∀ w3, Try.Ctd o2 w2 w3 x c s1.text.2 m → Try.Ctd own w w3 x c s1.text.2 m) := by
    intro w2 g
    obtain ⟨o2, g1, g2⟩ := g.ex
    refine ⟨o2, g1, (g.wo.block c hcl (fun e => hco (by rw [e]; exact hox))).trans hc, fun e => (g2 c e).elim hco (fun e1 => by omega), fun w3 g3 => ?_⟩
    obtain ⟨o3, k1, k2⟩ := g3.ex
    exact ⟨⟨o3, k1, fun k e => (k2 k e).elim (g2 k) (fun e1 => .inr (Nat.le_trans g.wo.size e1))⟩, g3.cc, (g.wo.mono fun k e => .inl e).trans g3.wo⟩
  have Hn : Hid (wrap64 (n + 1) = m) := hn
  clear hth h hc hco hox hcl hn
  go_enter Try.func31, Try.ntmps31
  go_wp2_with (first
    | (go_at_call 53; refine h1.mono ?_; clear h1; rintro e w2 ⟨rfl, hC⟩; obtain ⟨o2, g1, -⟩ := hC.ex; have h2 := Try.left_any g1)
    | (go_at_call 48; refine h2.mono ?_; clear h2; rintro e w3 ⟨rfl, j, rfl⟩)
    | fail)
  have HC : Hid (Try.RChg own w (w2.drewN j) x s1) := hC.drewN j
  clear hC g1
  go_loopw [9, 10, 21] (fun l _ i wr => l = .slice .none 0 0 ∧ i = .int .i64 0 ∧ Try.RChg own w wr x s1) (fun _ _ _ _ => 0)
  case atStart => exact ⟨rfl, rfl, HC.out⟩
  case round =>
    obtain ⟨rfl, rfl, hR⟩ := hrel
    have q0 : (0 : Int) < (N : Int) := by omega
    obtain ⟨o3, k1, k2, k3, k4⟩ := HW.out _ hR
    have h4 := Try.one2 k1 k2 k3 m Hn.out
    have HK : Hid (∀ w4, Try.Ctd o3 wr w4 x c s1.text.2 m → Try.Ctd own w w4 x c s1.text.2 m) := k4
    clear k1 k2 k3 k4 hR
    go_wp2_with (first
      | (go_at_call 32; refine h4.mono ?_; clear h4; rintro e w5 ⟨rfl, h5⟩; obtain ⟨o5, r1, -⟩ := h5.ex; obtain ⟨y, cy⟩ := r1.fault hf; clear r1)
      | fail)
    go_ret
    exact ⟨rfl, HK.out _ h5⟩
end Go.Proofs
