/-
  State functions of a message: those that are plain.
-/
import Derived.Test.YtogimcdjllhkcaaGreatDoorXf
import Derived.Test.YtogimcdjllhkcaaGreatDoorXg
namespace Go.Proofs
open Go.RowKit Go.Wi Go.Wb
theorem Tryz.stTk (t : Tk) (P : Program) (w : World) (a : Addr) (m : Mode) : (store a (Tryz.tkV t) m).run P w = stored P w a (Tryz.tkV t) m := run_store P w a _ m (by cases t <;> rfl)
theorem Tryz.stTh (t : Th) (P : Program) (w : World) (a : Addr) (m : Mode) : (store a (Tryz.thV t) m).run P w = stored P w a (Tryz.thV t) m := run_store P w a _ m (by cases t <;> rfl)
theorem Tryz.thV_func {t : Th} (h : t ≠ .no) : ∃ f, Tryz.thV t = .func (.func f) #[] #[] := by
  cases t <;> first | exact absurd rfl h | exact ⟨_, rfl⟩
set_option maxHeartbeats 1000000 in
theorem Tryz.lineEnd_any {T : TypeId} {w : World} {own : Nat → Prop} {b : Nat} {m : Msg} (h : Tryz.Ms T w own b m) (c : UInt8) (hth : m.th ≠ .no) :
    Calls Tryz.prog 107 #[.pointer (some ⟨b, 0, none⟩), .int .u8 c.toNat] w fun e w' => e = .returned (Tryz.stV (Wb.lineEnd m c).1) ∧ Tryz.MChg T own w w' b (Wb.lineEnd m c).2 := by
  have HB : Hid _ := Tryz.Bx.start h
  obtain ⟨f, hf⟩ := Tryz.thV_func hth
  by_cases hc : c.toNat = 13
  · have q : ((c.toNat : Int) != 13) = false := by simp; omega
    simp only [Wb.lineEnd, if_pos hc]
    clear hc
    generalize c.toNat = n at *
    go_enter Tryz.func107, Tryz.ntmps107
    go_upto_region 1 with (fail)
    generalize w.heap.size = g at *
    generalize w.alloc _ = W at *
    have c1 := HB.out.cell 1 (Tryz.thV m.th) fun _ _ _ => rfl
    rw [hf] at c1
    obtain ⟨bc0, bc1, bf0, bf1⟩ := HB.out.boxc
    have hne := HB.out.ne
    go_wp2
    obtain ⟨r1, r2⟩ := HB.out.ret (Tryz.tkV .lineFeed) (Tryz.thV m.th)
    rw [hf] at r1 r2
    exact bodyPost_ret (Tryz.ret_st rfl rfl r1) rfl ⟨by simp only [Tryz.stV, hf], r2⟩
  · have q : ((c.toNat : Int) != 13) = true := by simp; omega
    simp only [Wb.lineEnd, if_neg hc]
    clear hc
    generalize c.toNat = n at *
    go_enter Tryz.func107, Tryz.ntmps107
    go_upto_region 1 with (fail)
    generalize w.heap.size = g at *
    generalize w.alloc _ = W at *
    obtain ⟨own', hm, ho, hg⟩ := HB.out.ms
    have k1 := Tryz.refuse_any hm
    have hne := HB.out.ne
    go_wp2_with (first
      | (go_at_call 72; refine k1.mono ?_; clear k1; rintro e w1 ⟨rfl, hC⟩; have hB1 := HB.out.chg ho hg hC; obtain ⟨bc0, bc1, bf0, bf1⟩ := hB1.boxc)
      | fail)
    obtain ⟨r1, r2⟩ := hB1.ret .nilFunc .nilFunc
    exact bodyPost_ret (Tryz.ret_st rfl rfl r1) rfl ⟨rfl, r2⟩
set_option maxHeartbeats 1000000 in
theorem Tryz.inReason_any {T : TypeId} {w : World} {own : Nat → Prop} {b : Nat} {m : Msg} (h : Tryz.Ms T w own b m) (c : UInt8) :
    Calls Tryz.prog 109 #[.pointer (some ⟨b, 0, none⟩), .int .u8 c.toNat] w fun e w' => e = .returned (Tryz.stV (Wb.inReason m c).1) ∧ Tryz.MChg T own w w' b (Wb.inReason m c).2 := by
  have HB : Hid _ := Tryz.Bx.start h
  by_cases hc : c.toNat = 13
  · have q : ((c.toNat : Int) == 13) = true := by simp; omega
    simp only [Wb.inReason, if_pos hc]
    clear hc
    generalize c.toNat = n at *
    go_enter Tryz.func109, Tryz.ntmps109
    go_upto_region 1 with (fail)
    generalize w.heap.size = g at *
    generalize w.alloc _ = W at *
    obtain ⟨bc0, bc1, bf0, bf1⟩ := HB.out.boxc
    have hne := HB.out.ne
    go_wp2
    obtain ⟨r1, r2⟩ := HB.out.ret (Tryz.tkV .lineFeed) (Tryz.thV .headerLine)
    exact bodyPost_ret (Tryz.ret_st rfl rfl r1) rfl ⟨rfl, r2⟩
  · have q : ((c.toNat : Int) == 13) = false := by simp; omega
    simp only [Wb.inReason, if_neg hc]
    clear hc
    have kt := Tryz.isTextByte_any c
    by_cases ht : txt c = true
    · rw [ht] at kt
      simp only [if_pos ht]
      clear ht
      generalize c.toNat = n at *
      have s1 := Tryz.stTk m.tk Tryz.prog
      have s2 := Tryz.stTh m.th Tryz.prog
      go_enter Tryz.func109, Tryz.ntmps109
      go_upto_region 1 with (fail)
      generalize w.heap.size = g at *
      generalize w.alloc _ = W at *
      obtain ⟨bc0, bc1, bf0, bf1⟩ := HB.out.boxc
      have c0 := HB.out.cell 0 (Tryz.tkV m.tk) fun _ _ _ => rfl
      have c1 := HB.out.cell 1 (Tryz.thV m.th) fun _ _ _ => rfl
      have hne := HB.out.ne
      go_wp2_with (first
        | (go_at_call 63; refine (kt _).mono ?_; rintro e w1 ⟨rfl, rfl⟩)
        | fail)
      obtain ⟨r1, r2⟩ := HB.out.ret (Tryz.tkV m.tk) (Tryz.thV m.th)
      exact bodyPost_ret (Tryz.ret_st rfl rfl r1) rfl ⟨rfl, r2⟩
    · rw [Bool.eq_false_iff.2 ht] at kt
      simp only [if_neg ht]
      clear ht
      generalize c.toNat = n at *
      go_enter Tryz.func109, Tryz.ntmps109
      go_upto_region 1 with (fail)
      generalize w.heap.size = g at *
      generalize w.alloc _ = W at *
      obtain ⟨own', hm, ho, hg⟩ := HB.out.ms
      have k1 := Tryz.refuse_any hm
      have hne := HB.out.ne
      go_wp2_with (first
        | (go_at_call 63; refine (kt _).mono ?_; rintro e w1 ⟨rfl, rfl⟩)
        | (go_at_call 72; refine k1.mono ?_; clear k1; rintro e w1 ⟨rfl, hC⟩; have hB1 := HB.out.chg ho hg hC; obtain ⟨bc0, bc1, bf0, bf1⟩ := hB1.boxc)
        | fail)
      obtain ⟨r1, r2⟩ := hB1.ret .nilFunc .nilFunc
      exact bodyPost_ret (Tryz.ret_st rfl rfl r1) rfl ⟨rfl, r2⟩
end Go.Proofs
