/-
  Laid together by merge.py of Iv.
-/
import Derived.Test.YtlfiebapfgpchaaGreatDoorSqIs
import Derived.Lib.SlBytesConst
namespace Go.Lq
section
variable {P : Program} {ops : Array Oper} {C : World → Prop} {Q : Act → Prop} {a : Act} {o : Oper} {rest : List Oper}
theorem q_valW {v : Value} (hw : Region.wanted o (yielded ops a.tmps) = true) (he : ∀ w, C w → (execOp a.eval o).run P w = .ok (.value v) w) (hK : wpQuiet P ops C Q rest (a.put o.dst v)) : wpQuiet P ops C Q (o :: rest) a := by
  unfold wpQuiet
  rw [if_pos hw]
  refine ⟨v, fun w hw => ?_, hK⟩
  unfold Oper.quietAt
  rw [he w hw]
  exact ⟨rfl, rfl⟩
theorem q_callW {v : Value} {f : FuncId} {args : Array Value} (hw : Region.wanted o (yielded ops a.tmps) = true) (he : ∀ w, C w → (execOp a.eval o).run P w = .ok (.enter f args) w) (hc : ∀ w, C w → Calls P f args w fun e w' => e = .returned v ∧ C w') (hK : wpQuiet P ops C Q rest (a.put o.dst v)) : wpQuiet P ops C Q (o :: rest) a := by
  unfold wpQuiet
  rw [if_pos hw]
  refine ⟨v, fun w hw => ?_, hK⟩
  unfold Oper.quietAt
  rw [he w hw]
  exact ⟨rfl, hc w hw⟩
end
end Go.Lq
namespace Go.Proofs
open Go.RowKit Go.Wi Go.Dg
section
variable {P : Program} {a : Act} {w w' : World} {o : Oper} {v : Value}
theorem Dg.run_conv {s d : TypeId} {x : Operand} {xv : Value} (ho : o.op = .convert s d x) (hx : a.eval x = xv) (h : (convert s d xv).run P w = .ok v w') : (execOp a.eval o).run P w = .ok (.value v) w' := by
  unfold execOp
  rw [ho]
  simp only [hx, Sem.run_bind, h, Result.andThen, Sem.run_pure]
theorem Dg.run_sl0 {t : TypeId} {x : Operand} {xv : Value} (ho : o.op = .slice t x none none none) (hx : a.eval x = xv) (h : (Instr.sliceAt t xv none none none).run P w = .ok v w') : (execOp a.eval o).run P w = .ok (.value v) w' := by
  unfold execOp
  rw [ho]
  simp only [hx, Option.map_none, Sem.run_bind, h, Result.andThen, Sem.run_pure]
end
theorem Tryz.sl32 (g : Nat) (W : World) : (Instr.sliceAt 102 (.pointer (some ⟨g, 0, none⟩)) none none none).run Tryz.prog W = .ok (.slice (some ⟨g, 0, none⟩) 32 32) W := by kernel_rfl
/-- A sum in a block, as a text. -/
theorem Tryz.str32 {W : World} {g : Nat} {D : List UInt8} (h : Dg.Br 102 W g D) (hD : D.length = 32) : (convert 29 9 (.slice (some ⟨g, 0, none⟩) 32 32)).run Tryz.prog W = .ok (.string ⟨D.toArray⟩) W := by
  have h1 := h.bs 32 32 (by omega) (Nat.le_refl _)
  rw [List.take_of_length_le (by omega)] at h1
  exact Tryz.conv_bs h1
end Go.Proofs
