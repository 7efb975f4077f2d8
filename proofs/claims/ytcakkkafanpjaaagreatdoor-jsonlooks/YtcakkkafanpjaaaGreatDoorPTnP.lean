/-
  Laid together by packg.py of TnP.
-/
import Derived.Test.YtcakkkafanpjaaaGreatDoorQaI
namespace Go.Proofs
open Go.RowKit Go.Jv
theorem Tryz.nkind (w : World) : Calls Tryz.prog 12 #[.pointer none] w fun e w' => e = .returned (.int .i64 0) ∧ w' = w := by
  go_enter Tryz.func12, Tryz.ntmps12
  go_wp2
  go_ret
  exact ⟨rfl, rfl⟩
theorem Tryz.ntrue (w : World) : Calls Tryz.prog 32 #[.pointer none] w fun e w' => e = .returned (.bool false) ∧ w' = w := by
  go_enter Tryz.func32, Tryz.ntmps32
  go_wp2
  go_ret
  exact ⟨rfl, rfl⟩
theorem Tryz.nnum (w : World) : Calls Tryz.prog 34 #[.pointer none] w fun e w' => e = .returned (.int .i64 0) ∧ w' = w := by
  go_enter Tryz.func34, Tryz.ntmps34
  go_wp2
  go_ret
  exact ⟨rfl, rfl⟩
theorem Tryz.ntext (w : World) : Calls Tryz.prog 36 #[.pointer none] w fun e w' => e = .returned (.string emp) ∧ w' = w := by
  go_enter Tryz.func36, Tryz.ntmps36
  go_wp2
  go_ret
  exact ⟨rfl, rfl⟩
theorem Tryz.nlen (w : World) : Calls Tryz.prog 38 #[.pointer none] w fun e w' => e = .returned (.int .i64 0) ∧ w' = w := by
  go_enter Tryz.func38, Tryz.ntmps38
  go_wp2
  go_ret
  exact ⟨rfl, rfl⟩
theorem Tryz.nappend (B n : Nat) (bv : Value) (xs : List Value) (w : World) (hrow : w.ownsRow B 5 1 bv n xs) (hB : B ≤ w.heap.size) (hlen : n ≤ 900000000) :
    Calls Tryz.prog 25 #[.pointer none, bv] w fun en w' => Tryz.Put B n xs (pr .null) w en w' := by
  have hk := Tryz.nkind w
  go_enter Tryz.func25, Tryz.ntmps25
  go_wp2_with (first | (go_at_call 12; refine hk.mono ?_; rintro e1 w1 ⟨rfl, rfl⟩) | (at_builtin; refine Tryz.app_str rfl _ _ rfl B bv n xs (by rfl) _ hrow hB ⟨#[110, 117, 108, 108]⟩ (by rfl) (by show n + 4 ≤ _; omega) ?_; intro v' w' hown hbe) | fail)
  go_ret
  exact ⟨v', rfl, hown, hbe⟩
theorem Tryz.nprint (w : World) (_hT : Tryz.Tb w) : Calls Tryz.prog 11 #[.pointer none] w fun en w' => en = .returned (.string ⟨(pr .null).toArray⟩) ∧ Below w.heap.size w w' := by
  have hap := Tryz.nappend w.heap.size 0 (.slice none 0 0) [] w ⟨rfl, .inl ⟨rfl, rfl⟩⟩ (Nat.le_refl _) (by omega)
  have hcv : ∀ (W : World) (b : Value), W.ownsRow w.heap.size 5 1 b (0 + (pr .null).length) ([] ++ Lib.byteCells (pr .null)) → (convert 22 9 b).run Tryz.prog W = .ok (.string ⟨(pr .null).toArray⟩) W := fun W b h => Tryz.gathered (B := w.heap.size) (by simpa using h)
  generalize pr .null = L at *
  go_enter Tryz.func11, Tryz.ntmps11
  go_wp2_with (first | (go_at_call 25; refine hap.mono ?_; rintro e1 w1 ⟨v1, rfl, hown1, hbe1⟩; have hcv1 := hcv w1 v1 hown1) | fail)
  go_ret
  exact ⟨rfl, hbe1⟩
end Go.Proofs
