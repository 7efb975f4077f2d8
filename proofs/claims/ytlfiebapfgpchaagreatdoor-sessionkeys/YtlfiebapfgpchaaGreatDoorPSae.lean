/-
  Laid together by pack.py of Sae.
-/
import Derived.Test.YtlfiebapfgpchaaGreatDoorPkF
namespace Go.Proofs
open Go.RowKit Go.Wi Go.Se Go.Ct Go.Dg
theorem Se.xa_ok' : (Tk.mk Se.ua 1 15).ok := ⟨by decide, by decide, by decide⟩
theorem Se.mayK' (l g : Int) : Se.Nu.May ⟨10, 2, 3, l, g⟩ := ⟨⟨by show (1 : Int) ≤ 10; decide, by show (10 : Int) ≤ 1000000; decide⟩, ⟨by show (1 : Int) ≤ 2; decide, by show (2 : Int) ≤ 100; decide⟩, by show (1 : Int) ≤ 3; decide, by show (3 : Int) ≤ 1000000; decide⟩
set_option maxHeartbeats 8000000 in
set_option maxRecDepth 4000 in
theorem Tryz.awake_any (w : World) (hT : Tryz.Tq w) :
    Calls Tryz.prog 6 #[] w fun e w' => e = .returned (.bool true) ∧ Below w.heap.size w w' := by
  have hky := Tryz.lkey_any w
  obtain ⟨X, hX⟩ : ∃ X : {x : Tk // x.ok}, X = ⟨⟨Se.ua, 1, 15⟩, Se.xa_ok'⟩ := ⟨_, rfl⟩
  have hXt : X.1.t = 15 := by rw [hX]
  have hXu : X.1.u = ⟨#[64, 97]⟩ := by rw [hX]; rfl
  have hX1 : X.1 = ⟨Se.ua, 1, 15⟩ := by rw [hX]
  have hrt := Tryz.rt_token ⟨Se.ua, 1, 15⟩ (by decide) (by decide) (by decide) (by decide) (by decide) (by decide) Se.key0 (by decide)
  obtain ⟨tx, htx⟩ : ∃ tx, tx = Se.Tk.text ⟨Se.ua, 1, 15⟩ Se.key0 := ⟨_, rfl⟩
  rw [← htx] at hrt
  have hrt' : Tryz.Rt tx Se.key0 (some X.1) := by rw [hX1]; exact hrt
  have HR : Hid _ := hrt'
  have HT : Hid _ := hT
  have HTX : Hid (tx = Se.Tk.text X.1 Se.key0) := by rw [hX1]; exact htx
  have HX : Hid (X.1.t = 15) := hXt
  have HXU : Hid (X.1.u = ⟨#[64, 97]⟩) := hXu
  have HX1 : Hid (X.1 = ⟨Se.ua, 1, 15⟩) := hX1
  clear hrt hrt' hT htx hX hXt hXu hX1
  go_enter Tryz.func6, Tryz.ntmps6
  go_wp2_with (first
    | (go_at_call 9; refine hky.mono ?_; clear hky; rintro e w1 ⟨g, rfl, hk1, hg1, hb1⟩; have q0 := Tryz.KH.new (w0 := w) HT.out hb1 hk1 (fun k e => by cases e; exact hg1) (by decide) (by decide) 10 2 3 (Se.mayK' 0 0); clear hk1 hg1 hb1)
    | (go_at_call 8; refine q0.mono ?_; clear q0; rintro e w2 ⟨kb, rfl, hK2⟩; have q1 : Calls Tryz.prog 11 #[.pointer (some ⟨kb, 0, none⟩), .string Se.ua, .int .i64 5] w2 fun e w' => e = .returned (.tuple #[.string tx, .int .i64 0]) ∧ Tryz.KH w w' kb Se.key0 ⟨10, 2, 3, 5, 1⟩ [(X, X.1.t)] (some X) [] [] := (by rw [HTX.out]; exact hK2.issue (by decide) (Se.mayK' 0 0) (by decide) (by decide) (by decide) (by decide) Se.ua (by decide) (by decide) 5 (by decide) (by decide) (.inl ⟨rfl, rfl⟩) X HX1.out); clear hK2)
    | (go_at_call 11; refine q1.mono ?_; clear q1; rintro e w3 ⟨rfl, hK3⟩; have q2 : Calls Tryz.prog 12 #[.pointer (some ⟨kb, 0, none⟩), .string tx, .int .i64 14] w3 fun e w' => e = .returned (.tuple #[.string ⟨#[64, 97]⟩, .int .i64 0]) ∧ Tryz.KH w w' kb Se.key0 ⟨10, 2, 3, 14, 1⟩ [(X, X.1.t)] (some X) [] [] := (by rw [← HXU.out]; exact hK3.good tx 14 (by decide) (by decide) X (by rw [HX.out]; decide) rfl (by rw [HX.out]; decide) HR.out (.inl ⟨rfl, rfl⟩)); clear hK3)
    | (go_at_call 12; refine q2.mono ?_; clear q2; rintro e w4 ⟨rfl, hK4⟩; have q3 : Calls Tryz.prog 10 #[.pointer (some ⟨kb, 0, none⟩), .string ⟨#[64, 97]⟩, .int .i64 14] w4 fun e w' => e = .returned (.tuple #[.bool true, .int .i64 0]) ∧ Tryz.KH w w' kb Se.key0 ⟨10, 2, 3, 14, 1⟩ [(X, X.1.t)] (some X) [(Se.ua, 17)] [] := hK4.yes (Se.mayK' _ _) (by decide) (by decide) Se.ua (by decide) (by decide) 14 (by decide) (by decide) (.inr ⟨X, X.1.t, rfl, by rw [HX.out]; decide⟩) (.inl ⟨rfl, rfl⟩) (.inl rfl) (by decide) (by decide) (by decide); clear hK4)
    | (go_at_call 10; refine q3.mono ?_; clear q3; rintro e w5 ⟨rfl, hK5⟩)
    | fail)
  go_ret
  exact ⟨rfl, hK5.bel⟩
end Go.Proofs
