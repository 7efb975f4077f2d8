/-
  State functions of a message (the plain ones).
-/
import Derived.Test.YtogimcdjllhkcaaGreatDoorXh
namespace Go.Proofs
open Go.RowKit Go.Wi Go.Wb
set_option maxHeartbeats 1000000 in
theorem Tryz.aheadAgain_any {T : TypeId} {w : World} {own : Nat → Prop} {b : Nat} {m : Msg} (h : Tryz.Ms T w own b m) :
    Calls Tryz.prog 69 #[.pointer (some ⟨b, 0, none⟩)] w fun e w' => e = .returned (Tryz.stV (Wb.aheadAgain m).1) ∧ Tryz.MChg T own w w' b (Wb.aheadAgain m).2 := by
  have HB : Hid _ := Tryz.Bx.start h
  go_enter Tryz.func69, Tryz.ntmps69
  go_upto_region 1 with (fail)
  generalize w.heap.size = g at *
  generalize w.alloc _ = W at *
  have hne := HB.out.ne
  obtain ⟨bc0, bc1, bf0, bf1⟩ := HB.out.boxc
  go_wp2_with (first
    | fail)
  obtain ⟨r1, r2⟩ := HB.out.ret (Tryz.tkV .ahead) (Tryz.thV .no)
  exact bodyPost_ret (Tryz.ret_st rfl rfl r1) rfl ⟨rfl, r2⟩
set_option maxHeartbeats 1000000 in
theorem Tryz.requestLineEnds_any {T : TypeId} {w : World} {own : Nat → Prop} {b : Nat} {m : Msg} (h : Tryz.Ms T w own b m) :
    Calls Tryz.prog 100 #[.pointer (some ⟨b, 0, none⟩)] w fun e w' => e = .returned (Tryz.stV (Wb.requestLineEnds m).1) ∧ Tryz.MChg T own w w' b (Wb.requestLineEnds m).2 := by
  have HB : Hid _ := Tryz.Bx.start h
  go_enter Tryz.func100, Tryz.ntmps100
  go_upto_region 1 with (fail)
  generalize w.heap.size = g at *
  generalize w.alloc _ = W at *
  have hne := HB.out.ne
  obtain ⟨bc0, bc1, bf0, bf1⟩ := HB.out.boxc
  go_wp2_with (first
    | fail)
  obtain ⟨r1, r2⟩ := HB.out.ret (Tryz.tkV .lineEnd) (Tryz.thV .headerLine)
  exact bodyPost_ret (Tryz.ret_st rfl rfl r1) rfl ⟨rfl, r2⟩
set_option maxHeartbeats 1000000 in
theorem Tryz.headerLine_any {T : TypeId} {w : World} {own : Nat → Prop} {b : Nat} {m : Msg} (h : Tryz.Ms T w own b m) (hat : m.at_ ≤ 4611686018427387904) :
    Calls Tryz.prog 108 #[.pointer (some ⟨b, 0, none⟩)] w fun e w' => e = .returned (Tryz.stV (Wb.headerLine m).1) ∧ Tryz.MChg T own w w' b (Wb.headerLine m).2 := by
  have HB : Hid _ := Tryz.Bx.start h
  go_enter Tryz.func108, Tryz.ntmps108
  go_upto_region 1 with (fail)
  generalize w.heap.size = g at *
  generalize w.alloc _ = W at *
  have hne := HB.out.ne
  obtain ⟨own', hm, ho, hg⟩ := HB.out.ms
  have k1 := Tryz.part_any hm hat .atLine 113
  go_wp2_with (first
    | (go_at_call 87; refine k1.mono ?_; clear k1; rintro e w1 ⟨rfl, hC⟩; have hB1 := HB.out.chg ho hg hC; obtain ⟨bc0, bc1, bf0, bf1⟩ := hB1.boxc)
    | fail)
  obtain ⟨r1, r2⟩ := hB1.ret (Tryz.tkV .atLine) (Tryz.thV .no)
  exact bodyPost_ret (Tryz.ret_st rfl rfl r1) rfl ⟨rfl, r2⟩
set_option maxHeartbeats 1000000 in
theorem Tryz.sizeLine_any {T : TypeId} {w : World} {own : Nat → Prop} {b : Nat} {m : Msg} (h : Tryz.Ms T w own b m) (hat : m.at_ ≤ 4611686018427387904) :
    Calls Tryz.prog 120 #[.pointer (some ⟨b, 0, none⟩)] w fun e w' => e = .returned (Tryz.stV (Wb.sizeLine m).1) ∧ Tryz.MChg T own w w' b (Wb.sizeLine m).2 := by
  have HB : Hid _ := Tryz.Bx.start h
  go_enter Tryz.func120, Tryz.ntmps120
  go_upto_region 1 with (fail)
  generalize w.heap.size = g at *
  generalize w.alloc _ = W at *
  have hne := HB.out.ne
  have c17 := HB.out.cell 17 _ fun _ _ _ => rfl
  have f17 := HB.out.frozen 17
  have hB0 := HB.out.set 17 (.int .i64 0) { m with size := 0 } (fun _ _ _ => rfl) rfl rfl rfl
  obtain ⟨own', hm, ho, hg⟩ := hB0.ms
  have k1 := Tryz.part_any hm hat .inSize 127
  go_wp2_with (first
    | (go_at_call 87; refine k1.mono ?_; clear k1; rintro e w1 ⟨rfl, hC⟩; have hB1 := hB0.chg ho hg hC; obtain ⟨bc0, bc1, bf0, bf1⟩ := hB1.boxc)
    | fail)
  obtain ⟨r1, r2⟩ := hB1.ret (Tryz.tkV .inSize) (Tryz.thV .no)
  exact bodyPost_ret (Tryz.ret_st rfl rfl r1) rfl ⟨rfl, r2⟩
set_option maxHeartbeats 1000000 in
theorem Tryz.blankA_any {T : TypeId} {w : World} {own : Nat → Prop} {b : Nat} {m : Msg} (h : Tryz.Ms T w own b m) (c : UInt8) (hat : m.at_ ≤ 4611686018427387904) :
    Calls Tryz.prog 74 #[.pointer (some ⟨b, 0, none⟩), .int .u8 c.toNat] w fun e w' => e = .returned (Tryz.stV (Wb.blankA m c).1) ∧ Tryz.MChg T own w w' b (Wb.blankA m c).2 := by
  have HB : Hid _ := Tryz.Bx.start h
  by_cases hc : c.toNat = 32
  · have q32 : ((c.toNat : Int) != 32) = false := by simp; omega
    simp only [Wb.blankA, if_pos hc]
    clear hc
    generalize c.toNat = n at *
    go_enter Tryz.func74, Tryz.ntmps74
    go_upto_region 1 with (fail)
    generalize w.heap.size = g at *
    generalize w.alloc _ = W at *
    have hne := HB.out.ne
    obtain ⟨own', hm, ho, hg⟩ := HB.out.ms
    have k1 := Tryz.part_any hm hat .inStatus 89
    go_wp2_with (first
      | (go_at_call 87; refine k1.mono ?_; clear k1; rintro e w1 ⟨rfl, hC⟩; have hB1 := HB.out.chg ho hg hC; obtain ⟨bc0, bc1, bf0, bf1⟩ := hB1.boxc)
      | fail)
    obtain ⟨r1, r2⟩ := hB1.ret (Tryz.tkV .inStatus) (Tryz.thV .no)
    exact bodyPost_ret (Tryz.ret_st rfl rfl r1) rfl ⟨rfl, r2⟩
  · have q32 : ((c.toNat : Int) != 32) = true := by simp; omega
    simp only [Wb.blankA, if_neg hc]
    clear hc
    generalize c.toNat = n at *
    go_enter Tryz.func74, Tryz.ntmps74
    go_upto_region 1 with (fail)
    generalize w.heap.size = g at *
    generalize w.alloc _ = W at *
    have hne := HB.out.ne
    obtain ⟨own', hm, ho, hg⟩ := HB.out.ms
    have k1 := Tryz.refuse_any hm
    go_wp2_with (first
      | (go_at_call 72; refine k1.mono ?_; clear k1; rintro e w1 ⟨rfl, hC⟩; have hB1 := HB.out.chg ho hg hC; obtain ⟨bc0, bc1, bf0, bf1⟩ := hB1.boxc)
      | fail)
    obtain ⟨r1, r2⟩ := hB1.ret .nilFunc .nilFunc
    exact bodyPost_ret (Tryz.ret_st rfl rfl r1) rfl ⟨rfl, r2⟩
set_option maxHeartbeats 1000000 in
theorem Tryz.blankB_any {T : TypeId} {w : World} {own : Nat → Prop} {b : Nat} {m : Msg} (h : Tryz.Ms T w own b m) (c : UInt8) :
    Calls Tryz.prog 101 #[.pointer (some ⟨b, 0, none⟩), .int .u8 c.toNat] w fun e w' => e = .returned (Tryz.stV (Wb.blankB m c).1) ∧ Tryz.MChg T own w w' b (Wb.blankB m c).2 := by
  have HB : Hid _ := Tryz.Bx.start h
  by_cases hc : c.toNat = 32
  · have q32 : ((c.toNat : Int) != 32) = false := by simp; omega
    simp only [Wb.blankB, if_pos hc]
    clear hc
    generalize c.toNat = n at *
    go_enter Tryz.func101, Tryz.ntmps101
    go_upto_region 1 with (fail)
    generalize w.heap.size = g at *
    generalize w.alloc _ = W at *
    have hne := HB.out.ne
    obtain ⟨bc0, bc1, bf0, bf1⟩ := HB.out.boxc
    go_wp2_with (first
      | fail)
    obtain ⟨r1, r2⟩ := HB.out.ret (Tryz.tkV .inReason) (Tryz.thV .no)
    exact bodyPost_ret (Tryz.ret_st rfl rfl r1) rfl ⟨rfl, r2⟩
  · have q32 : ((c.toNat : Int) != 32) = true := by simp; omega
    simp only [Wb.blankB, if_neg hc]
    clear hc
    generalize c.toNat = n at *
    go_enter Tryz.func101, Tryz.ntmps101
    go_upto_region 1 with (fail)
    generalize w.heap.size = g at *
    generalize w.alloc _ = W at *
    have hne := HB.out.ne
    obtain ⟨own', hm, ho, hg⟩ := HB.out.ms
    have k1 := Tryz.refuse_any hm
    go_wp2_with (first
      | (go_at_call 72; refine k1.mono ?_; clear k1; rintro e w1 ⟨rfl, hC⟩; have hB1 := HB.out.chg ho hg hC; obtain ⟨bc0, bc1, bf0, bf1⟩ := hB1.boxc)
      | fail)
    obtain ⟨r1, r2⟩ := hB1.ret .nilFunc .nilFunc
    exact bodyPost_ret (Tryz.ret_st rfl rfl r1) rfl ⟨rfl, r2⟩
set_option maxHeartbeats 1000000 in
theorem Tryz.isTooMuch_any {T : TypeId} {w : World} {own : Nat → Prop} {b : Nat} {m : Msg} (h : Tryz.Ms T w own b m) (c : UInt8) (hf : m.frm ≤ 4611686018427387904) :
    Calls Tryz.prog 132 #[.pointer (some ⟨b, 0, none⟩), .int .u8 c.toNat] w fun e w' => e = .returned (.bool (Wb.tooMuch m c)) ∧ Below w.heap.size w w' := by
  obtain ⟨aw, cw, ah, ch, ab, cb, hmw⟩ := h.ex
  have c3 := cell_of_row _ _ 3 _ _ _ hmw.blk
  have c5 := cell_of_row _ _ 5 _ _ _ hmw.blk
  simp only [Tryz.mc, List.getElem?_toArray, List.getElem?_cons_succ, List.getElem?_cons_zero] at c3 c5
  have hwr : IntKind.i64.wrap ((m.frm : Int) + 64) = ((m.frm + 64 : Nat) : Int) := by rw [IntKind.wrap_i64]; omega
  clear h hmw
  by_cases hc : c.toNat = 13
  · have q : ((c.toNat : Int) != 13) = false := by simp; omega
    have e1 : Wb.tooMuch m c = false := by simp [Wb.tooMuch, hc]
    rw [e1]
    clear hc e1
    generalize c.toNat = n at *
    go_enter Tryz.func132, Tryz.ntmps132
    go_upto_region 1 with (fail)
    go_quiet (fail)
    go_wp2
    go_ret
    exact ⟨rfl, belowN (Below.refl _ w) _⟩
  · have q : ((c.toNat : Int) != 13) = true := by simp; omega
    have e1 : Wb.tooMuch m c = (m.at_ == m.frm + 64) := by simp [Wb.tooMuch, hc]
    have e2 : (m.at_ == m.frm + 64) = ((m.at_ : Int) == ((m.frm + 64 : Nat) : Int)) := by
      by_cases h : m.at_ = m.frm + 64
      · rw [h]; simp
      · have a1 : (m.at_ == m.frm + 64) = false := by simpa using h
        have a2 : ((m.at_ : Int) == ((m.frm + 64 : Nat) : Int)) = false := by simp; omega
        rw [a1, a2]
    rw [e1, e2]
    clear hc e1 e2
    generalize c.toNat = n at *
    go_enter Tryz.func132, Tryz.ntmps132
    go_upto_region 1 with (fail)
    go_quiet (fail)
    go_wp2
    go_ret
    exact ⟨rfl, belowN (Below.refl _ w) _⟩
end Go.Proofs
