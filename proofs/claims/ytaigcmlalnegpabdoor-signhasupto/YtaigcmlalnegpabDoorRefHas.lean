import Derived.Test.YtaigcmlalnegpabDoorRefFold
import Derived.Test.YtaigcmlalnegpabDoorRefEdges
import Derived.Test.YtaigcmlalnegpabDoorKmp2
import Derived.Test.YtaigcmlalnegpabDoorMath5
namespace Go.Proofs
open Go.RowKit
theorem Sg.list_size (s : ByteArray) : s.data.toList.length = s.size := (Lib.size_eq s).symm
/-- The part stands at a place, between edges. -/
def Sg.Hit (text t p : ByteArray) (a : Nat) : Prop := a + p.size ≤ text.size ∧ Sg.edgeN text a = true ∧ Sg.edgeN text (a + p.size) = true ∧ (t.data.toList.drop a).take p.size = p.data.toList
theorem Sg.has_hit (text part : ByteArray) (h0 : part.size ≠ 0) : Sg.hasB text part = true ↔ ∃ a, Sg.Hit text (Sg.fold text) (Sg.fold part) a := by
  have h := Sg.has_iff text part h0 (by rw [Sg.list_size, Sg.fold_size]) (by rw [Sg.list_size, Sg.fold_size])
  unfold Sg.Hit
  rw [Sg.fold_size part]
  exact h
theorem Sg.cmp_eq (t p : ByteArray) (k : Nat) : ((t.extract k (k + p.size)).toList == p.toList) = decide ((t.data.toList.drop k).take p.size = p.data.toList) := by
  rw [Lib.toList_data, Lib.toList_data, Lib.extract_data, show k + p.size - k = p.size from by omega]
  apply Bool.eq_iff_iff.2
  simp
set_option maxHeartbeats 8000000 in
set_option maxRecDepth 100000 in
theorem Tryd.refHas_any (text part : ByteArray) (w : World) (h1 : text.size ≤ 140737488355323) (h2 : part.size ≤ 140737488355323) :
    Calls Tryd.prog 12 #[.string text, .string part] w fun e w' => e = .returned (.bool (Sg.hasB text part)) ∧ Below w.heap.size w w' := by
  by_cases h0 : part.size = 0
  · have hne : part.toList.isEmpty = true := by
      rw [Lib.toList_data]
      have : part.data.toList = [] := List.eq_nil_of_length_eq_zero (by rw [← Lib.size_eq]; exact h0)
      rw [this]; rfl
    have e : Sg.hasB text part = false := by unfold Sg.hasB; rw [if_pos h0]
    rw [e]
    clear e
    go_enter Tryd.func12, Tryd.ntmps12
    go_wp2_with fail
    go_ret
    exact ⟨rfl, Below.refl _ _⟩
  · have hne : part.toList.isEmpty = false := by
      rw [Lib.toList_data]
      cases h : part.data.toList with
      | nil => exact absurd (by rw [Lib.size_eq, h]; rfl) h0
      | cons _ _ => rfl
    have hh := Sg.has_hit text part h0
    have hfp := Sg.fold_size part
    have hft := Sg.fold_size text
    have c1 := fun w => Tryd.refFold_any text w (by omega)
    have c2 := fun w => Tryd.refFold_any part w (by omega)
    have c3 := fun w => Tryd.refEdges_any text w (by omega)
    generalize Sg.hasB text part = res at hh ⊢
    generalize Sg.fold part = p at *
    generalize Sg.fold text = t at *
    have t1 : t.size ≤ text.size := by omega
    have t2 : text.size ≤ t.size := by omega
    have t3 : p.size ≤ part.size := by omega
    have t4 : 1 ≤ p.size := by omega
    have Hh : Hid _ := hh
    have C1 : Hid _ := c1
    have C2 : Hid _ := c2
    have C3 : Hid _ := c3
    clear hh c1 c2 c3 hfp hft
    go_enter Tryd.func12, Tryd.ntmps12
    go_wp2_with fail
    refine (C1.out _).mono ?_
    rintro e w1 ⟨rfl, b1⟩
    go_wp2_with fail
    refine (C2.out _).mono ?_
    rintro e w2 ⟨rfl, b2⟩
    replace b2 := b1.trans (b2.mono b1.size)
    go_wp2_with fail
    refine (C3.out _).mono ?_
    rintro e w3 ⟨rfl, b3, r3⟩
    replace b3 := b2.trans (b3.mono b2.size)
    clear b1
    go_wp2_with fail
    go_loopw [8] (fun i wr => ∃ k : Nat, wr = w3 ∧ k ≤ text.size + 1 ∧ i = .int .i64 k ∧ (∀ j, j < k → ¬ Sg.Hit text t p j)) (fun i _ => text.size + 1 - (intOf i).toNat)
    case atStart => exact ⟨0, rfl, by omega, rfl, fun j hj => by omega⟩
    case round =>
      obtain ⟨k, rfl, hk, rfl, hx⟩ := hrel
      have Hx : Hid _ := hx
      clear hx
      by_cases hlt : k + p.size ≤ text.size
      · have i0 : (k : Int) + (p.size : Int) ≤ (t.size : Int) := by omega
        have i1 : (k : Int) < (text.size : Int) + 1 := by omega
        have i2 : (k : Int) + (p.size : Int) < (text.size : Int) + 1 := by omega
        have e1 : ((k : Int) + (p.size : Int)).toNat = k + p.size := by omega
        have d1 := r3.cell (i := k) (by omega)
        have d2 := r3.cell (i := k + p.size) (by omega)
        unfold Sg.markEnd at d1 d2
        have hnext : ∀ (_ : ¬ Sg.Hit text t p k), ∀ j, j < k + 1 → ¬ Sg.Hit text t p j := fun hk0 j hj => by
          by_cases e : j = k
          · subst e; exact hk0
          · exact Hx.out j (by omega)
        have Hnext : Hid _ := hnext
        clear hnext
        cases f1 : Sg.edgeN text k with
        | false =>
          rw [f1] at d1
          have F1 : Hid _ := f1
          clear d2 f1
          go_wp2
          go_roundw
          case rel => exact ⟨k + 1, by trivial, by omega, by go_num, Hnext.out (fun h => by have := h.2.1; rw [F1.out] at this; cases this)⟩
          case measure => simp [intOf]; omega
        | true =>
          rw [f1] at d1
          cases f2 : Sg.edgeN text (k + p.size) with
          | false =>
            rw [f2] at d2
            have F2 : Hid _ := f2
            clear f1 f2
            go_wp2
            go_roundw
            case rel => exact ⟨k + 1, by trivial, by omega, by go_num, Hnext.out (fun h => by have := h.2.2.1; rw [F2.out] at this; cases this)⟩
            case measure => simp [intOf]; omega
          | true =>
            rw [f2] at d2
            have F1 : Hid _ := f1
            have F2 : Hid _ := f2
            have hcm := Sg.cmp_eq t p k
            clear f1 f2
            cases f3 : decide ((t.data.toList.drop k).take p.size = p.data.toList) with
            | false =>
              rw [f3] at hcm
              have f3' := of_decide_eq_false f3
              have F3 : Hid _ := f3'
              clear f3 f3'
              go_wp2
              go_roundw
              case rel => exact ⟨k + 1, by trivial, by omega, by go_num, Hnext.out (fun h => F3.out h.2.2.2)⟩
              case measure => simp [intOf]; omega
            | true =>
              rw [f3] at hcm
              have f3' := of_decide_eq_true f3
              have F3 : Hid _ := f3'
              clear f3 f3'
              go_wp2
              go_ret
              exact ⟨Sg.ret_bool (by rw [Hh.out.2 ⟨k, hlt, F1.out, F2.out, F3.out⟩]), b3⟩
      · have i0 : ¬ (k : Int) + (p.size : Int) ≤ (t.size : Int) := by omega
        have hf : res = false := by
          cases hr : res with
          | false => rfl
          | true =>
            obtain ⟨a, ha⟩ := Hh.out.1 hr
            by_cases c : a < k
            · exact absurd ha (Hx.out a c)
            · have := ha.1
              omega
        have HF : Hid _ := hf
        clear hf
        go_wp2
        go_ret
        exact ⟨Sg.ret_bool (by rw [HF.out]), b3⟩
end Go.Proofs
