/-
  Laid together by packg.py of Xi Xj Xk Xl.
-/
import Derived.Test.YtjiidkkmnlcpcaaGreatDoorPaE
namespace Go.Proofs
open Go.RowKit Go.Wi Go.Wb
set_option maxHeartbeats 1000000 in
theorem Tryz.aheadAgain_any {T : TypeId} {w : World} {own : Nat → Prop} {b : Nat} {m : Msg} (h : Tryz.Ms T w own b m) :
    Calls Tryz.prog 78 #[.pointer (some ⟨b, 0, none⟩)] w fun e w' => e = .returned (Tryz.stV (Wb.aheadAgain m).1) ∧ Tryz.MChg T own w w' b (Wb.aheadAgain m).2 := by
  have HB : Hid _ := Tryz.Bx.start h
  go_enter Tryz.func78, Tryz.ntmps78
  go_upto_region 1 with (fail)
  generalize w.heap.size = g at *
  generalize w.alloc _ = W at *
  have hne := HB.out.ne
  obtain ⟨bc0, bc1, bf0, bf1⟩ := HB.out.boxc
  go_wp2_with (first
    | fail)
  obtain ⟨r1, r2⟩ := HB.out.ret (Tryz.tkV .ahead) (Tryz.thV .no)
  exact bodyPost_ret (Tryz.ret_st rfl rfl r1) rfl ⟨rfl, r2⟩
set_option maxHeartbeats 1000000 in
theorem Tryz.requestLineEnds_any {T : TypeId} {w : World} {own : Nat → Prop} {b : Nat} {m : Msg} (h : Tryz.Ms T w own b m) :
    Calls Tryz.prog 114 #[.pointer (some ⟨b, 0, none⟩)] w fun e w' => e = .returned (Tryz.stV (Wb.requestLineEnds m).1) ∧ Tryz.MChg T own w w' b (Wb.requestLineEnds m).2 := by
  have HB : Hid _ := Tryz.Bx.start h
  go_enter Tryz.func114, Tryz.ntmps114
  go_upto_region 1 with (fail)
  generalize w.heap.size = g at *
  generalize w.alloc _ = W at *
  have hne := HB.out.ne
  obtain ⟨bc0, bc1, bf0, bf1⟩ := HB.out.boxc
  go_wp2_with (first
    | fail)
  obtain ⟨r1, r2⟩ := HB.out.ret (Tryz.tkV .lineEnd) (Tryz.thV .headerLine)
  exact bodyPost_ret (Tryz.ret_st rfl rfl r1) rfl ⟨rfl, r2⟩
set_option maxHeartbeats 1000000 in
theorem Tryz.headerLine_any {T : TypeId} {w : World} {own : Nat → Prop} {b : Nat} {m : Msg} (h : Tryz.Ms T w own b m) (hat : m.at_ ≤ 4611686018427387904) :
    Calls Tryz.prog 128 #[.pointer (some ⟨b, 0, none⟩)] w fun e w' => e = .returned (Tryz.stV (Wb.headerLine m).1) ∧ Tryz.MChg T own w w' b (Wb.headerLine m).2 := by
  have HB : Hid _ := Tryz.Bx.start h
  go_enter Tryz.func128, Tryz.ntmps128
  go_upto_region 1 with (fail)
  generalize w.heap.size = g at *
  generalize w.alloc _ = W at *
  have hne := HB.out.ne
  obtain ⟨own', hm, ho, hg⟩ := HB.out.ms
  have k1 := Tryz.part_any hm hat .atLine 135
  go_wp2_with (first
    | (go_at_call 87; refine k1.mono ?_; clear k1; rintro e w1 ⟨rfl, hC⟩; have hB1 := HB.out.chg ho hg hC; obtain ⟨bc0, bc1, bf0, bf1⟩ := hB1.boxc)
    | fail)
  obtain ⟨r1, r2⟩ := hB1.ret (Tryz.tkV .atLine) (Tryz.thV .no)
  exact bodyPost_ret (Tryz.ret_st rfl rfl r1) rfl ⟨rfl, r2⟩
set_option maxHeartbeats 1000000 in
theorem Tryz.sizeLine_any {T : TypeId} {w : World} {own : Nat → Prop} {b : Nat} {m : Msg} (h : Tryz.Ms T w own b m) (hat : m.at_ ≤ 4611686018427387904) :
    Calls Tryz.prog 145 #[.pointer (some ⟨b, 0, none⟩)] w fun e w' => e = .returned (Tryz.stV (Wb.sizeLine m).1) ∧ Tryz.MChg T own w w' b (Wb.sizeLine m).2 := by
  have HB : Hid _ := Tryz.Bx.start h
  go_enter Tryz.func145, Tryz.ntmps145
  go_upto_region 1 with (fail)
  generalize w.heap.size = g at *
  generalize w.alloc _ = W at *
  have hne := HB.out.ne
  have c17 := HB.out.cell 17 _ fun _ _ _ => rfl
  have f17 := HB.out.frozen 17
  have hB0 := HB.out.set 17 (.int .i64 0) { m with size := 0 } (fun _ _ _ => rfl) rfl rfl rfl
  obtain ⟨own', hm, ho, hg⟩ := hB0.ms
  have k1 := Tryz.part_any hm hat .inSize 152
  go_wp2_with (first
    | (go_at_call 87; refine k1.mono ?_; clear k1; rintro e w1 ⟨rfl, hC⟩; have hB1 := hB0.chg ho hg hC; obtain ⟨bc0, bc1, bf0, bf1⟩ := hB1.boxc)
    | fail)
  obtain ⟨r1, r2⟩ := hB1.ret (Tryz.tkV .inSize) (Tryz.thV .no)
  exact bodyPost_ret (Tryz.ret_st rfl rfl r1) rfl ⟨rfl, r2⟩
set_option maxHeartbeats 1000000 in
theorem Tryz.blankA_any {T : TypeId} {w : World} {own : Nat → Prop} {b : Nat} {m : Msg} (h : Tryz.Ms T w own b m) (c : UInt8) (hat : m.at_ ≤ 4611686018427387904) :
    Calls Tryz.prog 61 #[.pointer (some ⟨b, 0, none⟩), .int .u8 c.toNat] w fun e w' => e = .returned (Tryz.stV (Wb.blankA m c).1) ∧ Tryz.MChg T own w w' b (Wb.blankA m c).2 := by
  have HB : Hid _ := Tryz.Bx.start h
  by_cases hc : c.toNat = 32
  · have q32 : ((c.toNat : Int) != 32) = false := by simp; omega
    simp only [Wb.blankA, if_pos hc]
    clear hc
    generalize c.toNat = n at *
    go_enter Tryz.func61, Tryz.ntmps61
    go_upto_region 1 with (fail)
    generalize w.heap.size = g at *
    generalize w.alloc _ = W at *
    have hne := HB.out.ne
    obtain ⟨own', hm, ho, hg⟩ := HB.out.ms
    have k1 := Tryz.part_any hm hat .inStatus 88
    go_wp2_with (first
      | (go_at_call 87; refine k1.mono ?_; clear k1; rintro e w1 ⟨rfl, hC⟩; have hB1 := HB.out.chg ho hg hC; obtain ⟨bc0, bc1, bf0, bf1⟩ := hB1.boxc)
      | fail)
    obtain ⟨r1, r2⟩ := hB1.ret (Tryz.tkV .inStatus) (Tryz.thV .no)
    exact bodyPost_ret (Tryz.ret_st rfl rfl r1) rfl ⟨rfl, r2⟩
  · have q32 : ((c.toNat : Int) != 32) = true := by simp; omega
    simp only [Wb.blankA, if_neg hc]
    clear hc
    generalize c.toNat = n at *
    go_enter Tryz.func61, Tryz.ntmps61
    go_upto_region 1 with (fail)
    generalize w.heap.size = g at *
    generalize w.alloc _ = W at *
    have hne := HB.out.ne
    obtain ⟨own', hm, ho, hg⟩ := HB.out.ms
    have k1 := Tryz.refuse_any hm
    go_wp2_with (first
      | (go_at_call 58; refine k1.mono ?_; clear k1; rintro e w1 ⟨rfl, hC⟩; have hB1 := HB.out.chg ho hg hC; obtain ⟨bc0, bc1, bf0, bf1⟩ := hB1.boxc)
      | fail)
    obtain ⟨r1, r2⟩ := hB1.ret .nilFunc .nilFunc
    exact bodyPost_ret (Tryz.ret_st rfl rfl r1) rfl ⟨rfl, r2⟩
set_option maxHeartbeats 1000000 in
theorem Tryz.blankB_any {T : TypeId} {w : World} {own : Nat → Prop} {b : Nat} {m : Msg} (h : Tryz.Ms T w own b m) (c : UInt8) :
    Calls Tryz.prog 111 #[.pointer (some ⟨b, 0, none⟩), .int .u8 c.toNat] w fun e w' => e = .returned (Tryz.stV (Wb.blankB m c).1) ∧ Tryz.MChg T own w w' b (Wb.blankB m c).2 := by
  have HB : Hid _ := Tryz.Bx.start h
  by_cases hc : c.toNat = 32
  · have q32 : ((c.toNat : Int) != 32) = false := by simp; omega
    simp only [Wb.blankB, if_pos hc]
    clear hc
    generalize c.toNat = n at *
    go_enter Tryz.func111, Tryz.ntmps111
    go_upto_region 1 with (fail)
    generalize w.heap.size = g at *
    generalize w.alloc _ = W at *
    have hne := HB.out.ne
    obtain ⟨bc0, bc1, bf0, bf1⟩ := HB.out.boxc
    go_wp2_with (first
      | fail)
    obtain ⟨r1, r2⟩ := HB.out.ret (Tryz.tkV .inReason) (Tryz.thV .no)
    exact bodyPost_ret (Tryz.ret_st rfl rfl r1) rfl ⟨rfl, r2⟩
  · have q32 : ((c.toNat : Int) != 32) = true := by simp; omega
    simp only [Wb.blankB, if_neg hc]
    clear hc
    generalize c.toNat = n at *
    go_enter Tryz.func111, Tryz.ntmps111
    go_upto_region 1 with (fail)
    generalize w.heap.size = g at *
    generalize w.alloc _ = W at *
    have hne := HB.out.ne
    obtain ⟨own', hm, ho, hg⟩ := HB.out.ms
    have k1 := Tryz.refuse_any hm
    go_wp2_with (first
      | (go_at_call 58; refine k1.mono ?_; clear k1; rintro e w1 ⟨rfl, hC⟩; have hB1 := HB.out.chg ho hg hC; obtain ⟨bc0, bc1, bf0, bf1⟩ := hB1.boxc)
      | fail)
    obtain ⟨r1, r2⟩ := hB1.ret .nilFunc .nilFunc
    exact bodyPost_ret (Tryz.ret_st rfl rfl r1) rfl ⟨rfl, r2⟩
set_option maxHeartbeats 1000000 in
theorem Tryz.isTooMuch_any {T : TypeId} {w : World} {own : Nat → Prop} {b : Nat} {m : Msg} (h : Tryz.Ms T w own b m) (c : UInt8) (hf : m.frm ≤ 4611686018427387904) :
    Calls Tryz.prog 157 #[.pointer (some ⟨b, 0, none⟩), .int .u8 c.toNat] w fun e w' => e = .returned (.bool (Wb.tooMuch m c)) ∧ Below w.heap.size w w' := by
  obtain ⟨aw, cw, ah, ch, ab, cb, hmw⟩ := h.ex
  have c3 := cell_of_row _ _ 3 _ _ _ hmw.blk
  have c5 := cell_of_row _ _ 5 _ _ _ hmw.blk
  simp only [Tryz.mc, List.getElem?_toArray, List.getElem?_cons_succ, List.getElem?_cons_zero] at c3 c5
  have hwr : IntKind.i64.wrap ((m.frm : Int) + 64) = ((m.frm + 64 : Nat) : Int) := by rw [IntKind.wrap_i64]; omega
  clear h hmw
  by_cases hc : c.toNat = 13
  · have q : ((c.toNat : Int) != 13) = false := by simp; omega
    have e1 : Wb.tooMuch m c = false := by simp [Wb.tooMuch, hc]
    rw [e1]
    clear hc e1
    generalize c.toNat = n at *
    go_enter Tryz.func157, Tryz.ntmps157
    go_upto_region 1 with (fail)
    go_quiet (fail)
    go_wp2
    go_ret
    exact ⟨rfl, belowN (Below.refl _ w) _⟩
  · have q : ((c.toNat : Int) != 13) = true := by simp; omega
    have e1 : Wb.tooMuch m c = (m.at_ == m.frm + 64) := by simp [Wb.tooMuch, hc]
    have e2 : (m.at_ == m.frm + 64) = ((m.at_ : Int) == ((m.frm + 64 : Nat) : Int)) := by
      by_cases h : m.at_ = m.frm + 64
      · rw [h]; simp
      · have a1 : (m.at_ == m.frm + 64) = false := by simpa using h
        have a2 : ((m.at_ : Int) == ((m.frm + 64 : Nat) : Int)) = false := by simp; omega
        rw [a1, a2]
    rw [e1, e2]
    clear hc e1 e2
    generalize c.toNat = n at *
    go_enter Tryz.func157, Tryz.ntmps157
    go_upto_region 1 with (fail)
    go_quiet (fail)
    go_wp2
    go_ret
    exact ⟨rfl, belowN (Below.refl _ w) _⟩
end Go.Proofs
namespace Go.Proofs
open Go.RowKit Go.Wi Go.Wb
theorem Wb.keep_tk (m : Msg) (c : UInt8) : (Wb.keep m c).tk = m.tk := by unfold Wb.keep; split <;> rfl
theorem Wb.keep_th (m : Msg) (c : UInt8) : (Wb.keep m c).th = m.th := by unfold Wb.keep; split <;> rfl
set_option maxHeartbeats 1000000 in
theorem Tryz.grown_any {T : TypeId} {w : World} {own : Nat → Prop} {b : Nat} {m : Msg} (h : Tryz.Ms T w own b m) (n base d : Nat) (hm : m.most ≤ 999999999) (hb : base ≤ 16) (hd : d ≤ 15) :
    Calls Tryz.prog 154 #[.pointer (some ⟨b, 0, none⟩), .int .i64 n, .int .i64 base, .int .i64 d] w fun e w' => e = .returned (.int .i64 (grown m.most n base d : Nat)) ∧ w' = w := by
  obtain ⟨aw, cw, ah, ch, ab, cb, hmw⟩ := h.ex
  have c16 := cell_of_row _ _ 16 _ _ _ hmw.blk
  simp only [Tryz.mc, List.getElem?_toArray, List.getElem?_cons_succ, List.getElem?_cons_zero] at c16
  clear h hmw
  by_cases hn : m.most < n
  · have q : (m.most : Int) < (n : Int) := by omega
    rw [show grown m.most n base d = n by unfold grown; rw [if_pos hn]]
    go_enter Tryz.func154, Tryz.ntmps154
    go_wp2
    go_ret
    exact ⟨rfl, rfl⟩
  · have q : ¬ (m.most : Int) < (n : Int) := by omega
    have hp : n * base ≤ 15999999984 := Nat.le_trans (Nat.mul_le_mul (by omega) hb) (by omega : 999999999 * 16 ≤ 15999999984)
    have w1 : IntKind.i64.wrap ((n : Int) * (base : Int)) = ((n * base : Nat) : Int) := by rw [← Int.natCast_mul, IntKind.wrap_i64]; omega
    have w2 : IntKind.i64.wrap (((n * base : Nat) : Int) + (d : Int)) = ((n * base + d : Nat) : Int) := by rw [IntKind.wrap_i64]; omega
    rw [show grown m.most n base d = n * base + d by unfold grown; rw [if_neg hn]]
    generalize n * base = P at *
    go_enter Tryz.func154, Tryz.ntmps154
    go_wp2
    go_ret
    exact ⟨rfl, rfl⟩
set_option maxHeartbeats 1000000 in
theorem Tryz.inExt_any {T : TypeId} {w : World} {own : Nat → Prop} {b : Nat} {m : Msg} (h : Tryz.Ms T w own b m) (c : UInt8) (hf : m.frm ≤ 4611686018427387904) :
    Calls Tryz.prog 159 #[.pointer (some ⟨b, 0, none⟩), .int .u8 c.toNat] w fun e w' => e = .returned (Tryz.stV (Wb.inExt m c).1) ∧ Tryz.MChg T own w w' b (Wb.inExt m c).2 := by
  have HB : Hid _ := Tryz.Bx.start h
  have kt := Tryz.isTextByte_any c
  by_cases hT : Wb.tooMuch m c = true
  · simp only [Wb.inExt, if_pos hT]
    go_enter Tryz.func159, Tryz.ntmps159
    go_upto_region 1 with (fail)
    generalize w.heap.size = g at *
    generalize w.alloc _ = W at *
    have hne := HB.out.ne
    obtain ⟨ownT, hmT, -, -⟩ := HB.out.ms
    have kT := Tryz.isTooMuch_any hmT c hf
    clear hmT
    rw [hT] at kT
    generalize c.toNat = n at *
    go_wp2_with (first
      | (go_at_call 157; refine kT.mono ?_; clear kT; rintro e w0 ⟨rfl, hb0⟩; have hB0 := HB.out.below hb0; clear hb0; obtain ⟨own', hm, ho, hg⟩ := hB0.ms; have c3 := hB0.cell 3 _ fun _ _ _ => rfl; have k1 := Tryz.fail_any hm m.at_ 181; simp only [Tryz.stV, Wb.fail, Tryz.tkV, Tryz.thV] at k1)
      | (go_at_call 60; refine k1.mono ?_; clear k1; rintro e w1 ⟨rfl, hC⟩; have hB1 := hB0.chg ho hg hC; obtain ⟨bc0, bc1, bf0, bf1⟩ := hB1.boxc)
      | fail)
    obtain ⟨r1, r2⟩ := hB1.ret .nilFunc .nilFunc
    exact bodyPost_ret (Tryz.ret_st rfl rfl r1) rfl ⟨rfl, r2⟩
  · have hT := Bool.eq_false_iff.2 hT
    simp only [Wb.inExt, if_neg (show ¬ Wb.tooMuch m c = true by rw [hT]; exact Bool.false_ne_true)]
    by_cases hc : c.toNat = 13
    · have q13 : ((c.toNat : Int) == 13) = true := by simp; omega
      simp only [if_pos hc]
      clear hc
      go_enter Tryz.func159, Tryz.ntmps159
      go_upto_region 1 with (fail)
      generalize w.heap.size = g at *
      generalize w.alloc _ = W at *
      have hne := HB.out.ne
      obtain ⟨ownT, hmT, -, -⟩ := HB.out.ms
      have kT := Tryz.isTooMuch_any hmT c hf
      clear hmT
      rw [hT] at kT
      generalize c.toNat = n at *
      go_wp2_with (first
        | (go_at_call 157; refine kT.mono ?_; clear kT; rintro e w0 ⟨rfl, hb0⟩; have hB0 := HB.out.below hb0; clear hb0; obtain ⟨bc0, bc1, bf0, bf1⟩ := hB0.boxc)
        | fail)
      obtain ⟨r1, r2⟩ := hB0.ret (Tryz.tkV .lineFeed) (Tryz.thV .sizeLineEnds)
      exact bodyPost_ret (Tryz.ret_st rfl rfl r1) rfl ⟨rfl, r2⟩
    · have q13 : ((c.toNat : Int) == 13) = false := by simp; omega
      simp only [if_neg hc]
      clear hc
      by_cases ht : txt c = true
      · rw [ht] at kt
        simp only [if_pos ht]
        clear ht
        have s1 := Tryz.stTk m.tk Tryz.prog
        have s2 := Tryz.stTh m.th Tryz.prog
        go_enter Tryz.func159, Tryz.ntmps159
        go_upto_region 1 with (fail)
        generalize w.heap.size = g at *
        generalize w.alloc _ = W at *
        have hne := HB.out.ne
        obtain ⟨ownT, hmT, -, -⟩ := HB.out.ms
        have kT := Tryz.isTooMuch_any hmT c hf
        clear hmT
        rw [hT] at kT
        generalize c.toNat = n at *
        go_wp2_with (first
          | (go_at_call 157; refine kT.mono ?_; clear kT; rintro e w0 ⟨rfl, hb0⟩; have hB0 := HB.out.below hb0; clear hb0; obtain ⟨bc0, bc1, bf0, bf1⟩ := hB0.boxc; have c0 := hB0.cell 0 (Tryz.tkV m.tk) fun _ _ _ => rfl; have c1 := hB0.cell 1 (Tryz.thV m.th) fun _ _ _ => rfl)
          | (go_at_call 84; refine (kt _).mono ?_; rintro e w1 ⟨rfl, rfl⟩)
          | fail)
        obtain ⟨r1, r2⟩ := hB0.ret (Tryz.tkV m.tk) (Tryz.thV m.th)
        exact bodyPost_ret (Tryz.ret_st rfl rfl r1) rfl ⟨rfl, r2⟩
      · rw [Bool.eq_false_iff.2 ht] at kt
        simp only [if_neg ht]
        clear ht
        go_enter Tryz.func159, Tryz.ntmps159
        go_upto_region 1 with (fail)
        generalize w.heap.size = g at *
        generalize w.alloc _ = W at *
        have hne := HB.out.ne
        obtain ⟨ownT, hmT, -, -⟩ := HB.out.ms
        have kT := Tryz.isTooMuch_any hmT c hf
        clear hmT
        rw [hT] at kT
        generalize c.toNat = n at *
        go_wp2_with (first
          | (go_at_call 157; refine kT.mono ?_; clear kT; rintro e w0 ⟨rfl, hb0⟩; have hB0 := HB.out.below hb0; clear hb0; obtain ⟨own', hm, ho, hg⟩ := hB0.ms; have k1 := Tryz.refuse_any hm)
          | (go_at_call 84; refine (kt _).mono ?_; rintro e w1 ⟨rfl, rfl⟩)
          | (go_at_call 58; refine k1.mono ?_; clear k1; rintro e w1 ⟨rfl, hC⟩; have hB1 := hB0.chg ho hg hC; obtain ⟨bc0, bc1, bf0, bf1⟩ := hB1.boxc)
          | fail)
        obtain ⟨r1, r2⟩ := hB1.ret .nilFunc .nilFunc
        exact bodyPost_ret (Tryz.ret_st rfl rfl r1) rfl ⟨rfl, r2⟩
set_option maxHeartbeats 1000000 in
theorem Tryz.inSize_any {T : TypeId} {w : World} {own : Nat → Prop} {b : Nat} {m : Msg} (h : Tryz.Ms T w own b m) (c : UInt8) (hf : m.frm ≤ 4611686018427387904) (hmo : m.most ≤ 999999999) :
    Calls Tryz.prog 152 #[.pointer (some ⟨b, 0, none⟩), .int .u8 c.toNat] w fun e w' => e = .returned (Tryz.stV (Wb.inSize m c).1) ∧ Tryz.MChg T own w w' b (Wb.inSize m c).2 := by
  have HB : Hid _ := Tryz.Bx.start h
  have kh := Tryz.hexDigit_any c
  by_cases hT : Wb.tooMuch m c = true
  · simp only [Wb.inSize, if_pos hT]
    go_enter Tryz.func152, Tryz.ntmps152
    go_upto_region 1 with (fail)
    generalize w.heap.size = g at *
    generalize w.alloc _ = W at *
    have hne := HB.out.ne
    obtain ⟨ownT, hmT, -, -⟩ := HB.out.ms
    have kT := Tryz.isTooMuch_any hmT c hf
    clear hmT
    rw [hT] at kT
    generalize c.toNat = n at *
    go_wp2_with (first
      | (go_at_call 156; refine (kh _).mono ?_; rintro e w1 ⟨rfl, rfl⟩)
      | (go_at_call 157; refine kT.mono ?_; clear kT; rintro e w0 ⟨rfl, hb0⟩; have hB0 := HB.out.below hb0; clear hb0; obtain ⟨own', hm, ho, hg⟩ := hB0.ms; have c3 := hB0.cell 3 _ fun _ _ _ => rfl; have k1 := Tryz.fail_any hm m.at_ 181; simp only [Tryz.stV, Wb.fail, Tryz.tkV, Tryz.thV] at k1)
      | (go_at_call 60; refine k1.mono ?_; clear k1; rintro e w1 ⟨rfl, hC⟩; have hB1 := hB0.chg ho hg hC; obtain ⟨bc0, bc1, bf0, bf1⟩ := hB1.boxc)
      | fail)
    obtain ⟨r1, r2⟩ := hB1.ret .nilFunc .nilFunc
    exact bodyPost_ret (Tryz.ret_st rfl rfl r1) rfl ⟨rfl, r2⟩
  · have hT := Bool.eq_false_iff.2 hT
    simp only [Wb.inSize, if_neg (show ¬ Wb.tooMuch m c = true by rw [hT]; exact Bool.false_ne_true)]
    cases hx : hexd c with
    | some d =>
      have e1 : Wb.hexI c = (d : Int) := by unfold Wb.hexI; rw [hx]
      have hd := hexd_le hx
      rw [e1] at kh
      have q0 : (0 : Int) ≤ (d : Int) := by omega
      simp only
      clear e1 hx
      have s1 := Tryz.stTk m.tk Tryz.prog
      have s2 := Tryz.stTh m.th Tryz.prog
      go_enter Tryz.func152, Tryz.ntmps152
      go_upto_region 1 with (fail)
      generalize w.heap.size = g at *
      generalize w.alloc _ = W at *
      have hne := HB.out.ne
      obtain ⟨ownT, hmT, -, -⟩ := HB.out.ms
      have kT := Tryz.isTooMuch_any hmT c hf
      clear hmT
      rw [hT] at kT
      generalize c.toNat = n at *
      go_wp2_with (first
        | (go_at_call 156; refine (kh _).mono ?_; rintro e w1 ⟨rfl, rfl⟩)
        | (go_at_call 157; refine kT.mono ?_; clear kT; rintro e w0 ⟨rfl, hb0⟩; have hB0 := HB.out.below hb0; clear hb0; obtain ⟨bc0, bc1, bf0, bf1⟩ := hB0.boxc; have c0 := hB0.cell 0 (Tryz.tkV m.tk) fun _ _ _ => rfl; have c1 := hB0.cell 1 (Tryz.thV m.th) fun _ _ _ => rfl; have c17 := hB0.cell 17 _ fun _ _ _ => rfl; obtain ⟨own', hm, ho, hg⟩ := hB0.ms; have f17 := hB0.frozen 17; have kg := Tryz.grown_any hm m.size 16 d hmo (by omega) hd)
        | (go_at_call 154; refine kg.mono ?_; clear kg; rintro e w1 ⟨rfl, rfl⟩)
        | fail)
      obtain ⟨r1, r2⟩ := (hB0.set 17 _ { m with size := grown m.most m.size 16 d } (fun _ _ _ => rfl) rfl rfl rfl).ret (Tryz.tkV m.tk) (Tryz.thV m.th)
      exact bodyPost_ret (Tryz.ret_st rfl rfl r1) rfl ⟨rfl, r2⟩
    | none =>
      have e1 : Wb.hexI c = -1 := by unfold Wb.hexI; rw [hx]
      rw [e1] at kh
      clear e1 hx
      simp only
      by_cases ha : m.at_ = m.frm
      · have qa : ((m.at_ : Int) == (m.frm : Int)) = true := by simp; omega
        simp only [if_pos ha]
        clear ha
        go_enter Tryz.func152, Tryz.ntmps152
        go_upto_region 1 with (fail)
        generalize w.heap.size = g at *
        generalize w.alloc _ = W at *
        have hne := HB.out.ne
        obtain ⟨ownT, hmT, -, -⟩ := HB.out.ms
        have kT := Tryz.isTooMuch_any hmT c hf
        clear hmT
        rw [hT] at kT
        generalize c.toNat = n at *
        go_wp2_with (first
          | (go_at_call 156; refine (kh _).mono ?_; rintro e w1 ⟨rfl, rfl⟩)
          | (go_at_call 157; refine kT.mono ?_; clear kT; rintro e w0 ⟨rfl, hb0⟩; have hB0 := HB.out.below hb0; clear hb0; have c3 := hB0.cell 3 _ fun _ _ _ => rfl; have c5 := hB0.cell 5 _ fun _ _ _ => rfl)
          | fail)
        go_quiet (fail)
        have hB2 := hB0.drewN nq
        obtain ⟨own', hm, ho, hg⟩ := hB2.ms
        have k1 := Tryz.refuse_any hm
        go_wp2_with (first
          | (go_at_call 58; refine k1.mono ?_; clear k1; rintro e w1 ⟨rfl, hC⟩; have hB1 := hB2.chg ho hg hC; obtain ⟨bc0, bc1, bf0, bf1⟩ := hB1.boxc)
          | fail)
        obtain ⟨r1, r2⟩ := hB1.ret .nilFunc .nilFunc
        exact bodyPost_ret (Tryz.ret_st rfl rfl r1) rfl ⟨rfl, r2⟩
      · have qa : ((m.at_ : Int) == (m.frm : Int)) = false := by simp; omega
        simp only [if_neg ha]
        clear ha
        by_cases hc : c.toNat = 13
        · have q13 : ((c.toNat : Int) == 13) = true := by simp; omega
          simp only [if_pos hc]
          clear hc
          go_enter Tryz.func152, Tryz.ntmps152
          go_upto_region 1 with (fail)
          generalize w.heap.size = g at *
          generalize w.alloc _ = W at *
          have hne := HB.out.ne
          obtain ⟨ownT, hmT, -, -⟩ := HB.out.ms
          have kT := Tryz.isTooMuch_any hmT c hf
          clear hmT
          rw [hT] at kT
          generalize c.toNat = n at *
          go_wp2_with (first
            | (go_at_call 156; refine (kh _).mono ?_; rintro e w1 ⟨rfl, rfl⟩)
            | (go_at_call 157; refine kT.mono ?_; clear kT; rintro e w0 ⟨rfl, hb0⟩; have hB0 := HB.out.below hb0; clear hb0; have c3 := hB0.cell 3 _ fun _ _ _ => rfl; have c5 := hB0.cell 5 _ fun _ _ _ => rfl)
            | fail)
          go_quiet (fail)
          have hB2 := hB0.drewN nq
          obtain ⟨bc0, bc1, bf0, bf1⟩ := hB2.boxc
          go_wp2
          obtain ⟨r1, r2⟩ := hB2.ret (Tryz.tkV .lineFeed) (Tryz.thV .sizeLineEnds)
          exact bodyPost_ret (Tryz.ret_st rfl rfl r1) rfl ⟨rfl, r2⟩
        · have q13 : ((c.toNat : Int) == 13) = false := by simp; omega
          simp only [if_neg hc]
          clear hc
          by_cases hc : c.toNat = 59
          · have q59 : ((c.toNat : Int) == 59) = true := by simp; omega
            simp only [if_pos hc]
            clear hc
            go_enter Tryz.func152, Tryz.ntmps152
            go_upto_region 1 with (fail)
            generalize w.heap.size = g at *
            generalize w.alloc _ = W at *
            have hne := HB.out.ne
            obtain ⟨ownT, hmT, -, -⟩ := HB.out.ms
            have kT := Tryz.isTooMuch_any hmT c hf
            clear hmT
            rw [hT] at kT
            generalize c.toNat = n at *
            go_wp2_with (first
              | (go_at_call 156; refine (kh _).mono ?_; rintro e w1 ⟨rfl, rfl⟩)
              | (go_at_call 157; refine kT.mono ?_; clear kT; rintro e w0 ⟨rfl, hb0⟩; have hB0 := HB.out.below hb0; clear hb0; have c3 := hB0.cell 3 _ fun _ _ _ => rfl; have c5 := hB0.cell 5 _ fun _ _ _ => rfl)
              | fail)
            go_quiet (fail)
            have hB2 := hB0.drewN nq
            obtain ⟨bc0, bc1, bf0, bf1⟩ := hB2.boxc
            go_wp2
            obtain ⟨r1, r2⟩ := hB2.ret (Tryz.tkV .inExt) (Tryz.thV .no)
            exact bodyPost_ret (Tryz.ret_st rfl rfl r1) rfl ⟨rfl, r2⟩
          · have q59 : ((c.toNat : Int) == 59) = false := by simp; omega
            simp only [if_neg hc]
            clear hc
            go_enter Tryz.func152, Tryz.ntmps152
            go_upto_region 1 with (fail)
            generalize w.heap.size = g at *
            generalize w.alloc _ = W at *
            have hne := HB.out.ne
            obtain ⟨ownT, hmT, -, -⟩ := HB.out.ms
            have kT := Tryz.isTooMuch_any hmT c hf
            clear hmT
            rw [hT] at kT
            generalize c.toNat = n at *
            go_wp2_with (first
              | (go_at_call 156; refine (kh _).mono ?_; rintro e w1 ⟨rfl, rfl⟩)
              | (go_at_call 157; refine kT.mono ?_; clear kT; rintro e w0 ⟨rfl, hb0⟩; have hB0 := HB.out.below hb0; clear hb0; have c3 := hB0.cell 3 _ fun _ _ _ => rfl; have c5 := hB0.cell 5 _ fun _ _ _ => rfl)
              | fail)
            go_quiet (fail)
            have hB2 := hB0.drewN nq
            obtain ⟨own', hm, ho, hg⟩ := hB2.ms
            have k1 := Tryz.refuse_any hm
            go_wp2_with (first
              | (go_at_call 58; refine k1.mono ?_; clear k1; rintro e w1 ⟨rfl, hC⟩; have hB1 := hB2.chg ho hg hC; obtain ⟨bc0, bc1, bf0, bf1⟩ := hB1.boxc)
              | fail)
            obtain ⟨r1, r2⟩ := hB1.ret .nilFunc .nilFunc
            exact bodyPost_ret (Tryz.ret_st rfl rfl r1) rfl ⟨rfl, r2⟩
end Go.Proofs
namespace Go.Proofs
open Go.RowKit Go.Wi Go.Wb
set_option maxRecDepth 20000 in
set_option maxHeartbeats 1000000 in
theorem Tryz.sizeLineEnds_any {T : TypeId} {w : World} {own : Nat → Prop} {b : Nat} {m : Msg} (h : Tryz.Ms T w own b m) (hat : m.at_ ≤ 4611686018427387904) (hs : m.size ≤ 16000000015) (hl : m.body.length ≤ 4611686018427387904) :
    Calls Tryz.prog 158 #[.pointer (some ⟨b, 0, none⟩)] w fun e w' => e = .returned (Tryz.stV (Wb.sizeLineEnds m).1) ∧ Tryz.MChg T own w w' b (Wb.sizeLineEnds m).2 := by
  have HB : Hid _ := Tryz.Bx.start h
  have hwr : IntKind.i64.wrap ((m.size : Int) + (m.body.length : Int)) = ((m.size + m.body.length : Nat) : Int) := by rw [IntKind.wrap_i64]; omega
  by_cases h1 : m.most < m.size + m.body.length
  · have q1 : (m.most : Int) < ((m.size + m.body.length : Nat) : Int) := by omega
    simp only [Wb.sizeLineEnds, if_pos h1]
    clear h1
    go_enter Tryz.func158, Tryz.ntmps158
    go_upto_region 1 with (fail)
    generalize w.heap.size = g at *
    generalize w.alloc _ = W at *
    have hne := HB.out.ne
    have c16 := HB.out.cell 16 _ fun _ _ _ => rfl
    have c17 := HB.out.cell 17 _ fun _ _ _ => rfl
    obtain ⟨own6, ⟨aw, cw, ah, ch, ab, cb, hmw⟩, -, -⟩ := HB.out.ms
    have c19 := cell_of_row _ _ 19 _ _ _ hmw.blk
    simp only [Tryz.mc, List.getElem?_toArray, List.getElem?_cons_succ, List.getElem?_cons_zero] at c19
    clear hmw
    go_quiet (fail)
    have hB2 := HB.out.drewN nq
    obtain ⟨own', hm, ho, hg⟩ := hB2.ms
    have c5 := hB2.cell 5 _ fun _ _ _ => rfl
    have k1 := Tryz.fail_any hm m.frm 182
    simp only [Tryz.stV, Wb.fail, Tryz.tkV, Tryz.thV] at k1
    go_wp2_with (first
      | (go_at_call 60; refine k1.mono ?_; clear k1; rintro e w1 ⟨rfl, hC⟩; have hB1 := hB2.chg ho hg hC; obtain ⟨bc0, bc1, bf0, bf1⟩ := hB1.boxc)
      | fail)
    obtain ⟨r1, r2⟩ := hB1.ret .nilFunc .nilFunc
    exact bodyPost_ret (Tryz.ret_st rfl rfl r1) rfl ⟨rfl, r2⟩
  · have q1 : ¬ (m.most : Int) < ((m.size + m.body.length : Nat) : Int) := by omega
    simp only [Wb.sizeLineEnds, if_neg h1]
    clear h1
    by_cases h2 : m.size = 0
    · have q2 : ((m.size : Int) == 0) = true := by simp; omega
      simp only [if_pos h2]
      clear h2
      obtain ⟨K, hK⟩ : ∃ K : Nat, m.at_ + 1 = K := ⟨_, rfl⟩
      obtain ⟨L, hL⟩ : ∃ L : Nat, K + 2048 = L := ⟨_, rfl⟩
      have w1 : IntKind.i64.wrap ((m.at_ : Int) + 1) = (K : Int) := by rw [IntKind.wrap_i64]; omega
      have w2 : IntKind.i64.wrap ((K : Int) + 2048) = (L : Int) := by rw [IntKind.wrap_i64]; omega
      have HKL : Hid ((L : Int) = (m.at_ : Int) + 1 + 2048) := (by show (L : Int) = (m.at_ : Int) + 1 + 2048; omega)
      generalize hm3 : ({ m with trailers := true, lines := 0, bound := (m.at_ : Int) + 1 + 2048 } : Msg) = m3
      have ha3 : m3.at_ ≤ 4611686018427387904 := by rw [← hm3]; exact hat
      have HM3 : Hid (({ m with trailers := true, lines := 0, bound := (m.at_ : Int) + 1 + 2048 } : Msg) = m3) := hm3
      clear hK hL hat hm3
      go_enter Tryz.func158, Tryz.ntmps158
      go_upto_region 1 with (fail)
      generalize w.heap.size = g at *
      generalize w.alloc _ = W at *
      have hne := HB.out.ne
      have c16 := HB.out.cell 16 _ fun _ _ _ => rfl
      have c17 := HB.out.cell 17 _ fun _ _ _ => rfl
      obtain ⟨own6, ⟨aw, cw, ah, ch, ab, cb, hmw⟩, -, -⟩ := HB.out.ms
      have c19 := cell_of_row _ _ 19 _ _ _ hmw.blk
      simp only [Tryz.mc, List.getElem?_toArray, List.getElem?_cons_succ, List.getElem?_cons_zero] at c19
      clear hmw
      go_quiet (fail)
      have hB2 := HB.out.drewN nq
      have c3 := hB2.cell 3 _ fun _ _ _ => rfl
      have c4 := hB2.cell 4 _ fun _ _ _ => rfl
      have c11 := hB2.cell 11 _ fun _ _ _ => rfl
      have c14 := hB2.cell 14 _ fun _ _ _ => rfl
      have c17 := hB2.cell 17 _ fun _ _ _ => rfl
      have f4 := hB2.frozen 4
      have f11 := hB2.frozen 11
      have f14 := hB2.frozen 14
      have hB3 : Tryz.Bx T own w (((((W.drewN nq).setCell ⟨b, 14, none⟩ (.bool true)).setCell ⟨b, 11, none⟩ (.int .i64 0))).setCell ⟨b, 4, none⟩ (.int .i64 (L : Int))) b g m3 := HM3.out ▸ ((hB2.set 14 (.bool true) { m with trailers := true } (fun _ _ _ => rfl) rfl rfl rfl).set 11 (.int .i64 0) { m with trailers := true, lines := 0 } (fun _ _ _ => rfl) rfl rfl rfl).set 4 (.int .i64 (L : Int)) { m with trailers := true, lines := 0, bound := m.at_ + 1 + 2048 } (fun _ _ _ => by rw [HKL.out]; rfl) rfl rfl rfl
      obtain ⟨own', hm, ho, hg⟩ := hB3.ms
      have k1 := Tryz.headerLine_any hm ha3
      simp only [Tryz.stV, Wb.headerLine, Wb.part, Tryz.tkV, Tryz.thV] at k1
      go_wp2_with (first
        | (go_at_call 128; refine k1.mono ?_; clear k1; rintro e w1 ⟨rfl, hC⟩; have hB1 := hB3.chg ho hg hC; obtain ⟨bc0, bc1, bf0, bf1⟩ := hB1.boxc)
        | fail)
      obtain ⟨r1, r2⟩ := hB1.ret (Tryz.tkV .atLine) (Tryz.thV .no)
      exact bodyPost_ret (Tryz.ret_st rfl rfl r1) rfl ⟨rfl, r2⟩
    · have q2 : ((m.size : Int) == 0) = false := by simp; omega
      simp only [if_neg h2]
      clear h2
      go_enter Tryz.func158, Tryz.ntmps158
      go_upto_region 1 with (fail)
      generalize w.heap.size = g at *
      generalize w.alloc _ = W at *
      have hne := HB.out.ne
      have c16 := HB.out.cell 16 _ fun _ _ _ => rfl
      have c17 := HB.out.cell 17 _ fun _ _ _ => rfl
      obtain ⟨own6, ⟨aw, cw, ah, ch, ab, cb, hmw⟩, -, -⟩ := HB.out.ms
      have c19 := cell_of_row _ _ 19 _ _ _ hmw.blk
      simp only [Tryz.mc, List.getElem?_toArray, List.getElem?_cons_succ, List.getElem?_cons_zero] at c19
      clear hmw
      go_quiet (fail)
      have hB2 := HB.out.drewN nq
      have c17 := hB2.cell 17 _ fun _ _ _ => rfl
      have c18 := hB2.cell 18 _ fun _ _ _ => rfl
      have f18 := hB2.frozen 18
      obtain ⟨bc0, bc1, bf0, bf1⟩ := hB2.boxc
      go_wp2
      obtain ⟨r1, r2⟩ := (hB2.set 18 (.int .i64 m.size) { m with left := m.size } (fun _ _ _ => rfl) rfl rfl rfl).ret (Tryz.tkV .lineEnd) (Tryz.thV .sizeLine)
      exact bodyPost_ret (Tryz.ret_st rfl rfl r1) rfl ⟨rfl, r2⟩
set_option maxHeartbeats 1000000 in
theorem Tryz.inStatus_any {T : TypeId} {w : World} {own : Nat → Prop} {b : Nat} {m : Msg} (h : Tryz.Ms T w own b m) (c : UInt8) (hs : m.status ≤ 99) (hf : m.frm ≤ 4611686018427387904) :
    Calls Tryz.prog 88 #[.pointer (some ⟨b, 0, none⟩), .int .u8 c.toNat] w fun e w' => e = .returned (Tryz.stV (Wb.inStatus m c).1) ∧ Tryz.MChg T own w w' b (Wb.inStatus m c).2 := by
  have HB : Hid _ := Tryz.Bx.start h
  have kd := Tryz.isDigit_any c
  by_cases hd : dig c = true
  · have hd0 : ¬ dig c = false := by rw [hd]; intro e; cases e
    rw [hd] at kd
    obtain ⟨hd9, hd48⟩ := dig_sub hd
    simp only [Wb.inStatus, if_neg hd0]
    have hw2 : IntKind.i64.wrap ((m.frm : Int) + 2) = ((m.frm + 2 : Nat) : Int) := by rw [IntKind.wrap_i64]; omega
    have hn := toNat_lt c
    clear hd hd0
    generalize c.toNat = n at *
    obtain ⟨S, hS⟩ : ∃ S : Nat, m.status * 10 + (n - 48) = S := ⟨_, rfl⟩
    have e9 : (m.status : Int) * 10 + ((n : Int) - 48) = (S : Int) := by omega
    rw [hS]
    clear hS
    by_cases h1 : m.at_ < m.frm + 2
    · have q1 : (m.at_ : Int) < ((m.frm + 2 : Nat) : Int) := by omega
      simp only [if_pos h1]
      clear h1
      have s1 := Tryz.stTk m.tk Tryz.prog
      have s2 := Tryz.stTh m.th Tryz.prog
      go_enter Tryz.func88, Tryz.ntmps88
      go_upto_region 1 with (fail)
      generalize w.heap.size = g at *
      generalize w.alloc _ = W at *
      have hne := HB.out.ne
      have c0 := HB.out.cell 0 (Tryz.tkV m.tk) fun _ _ _ => rfl
      have c1 := HB.out.cell 1 (Tryz.thV m.th) fun _ _ _ => rfl
      have c3 := HB.out.cell 3 _ fun _ _ _ => rfl
      have c5 := HB.out.cell 5 _ fun _ _ _ => rfl
      have c9 := HB.out.cell 9 _ fun _ _ _ => rfl
      have f9 := HB.out.frozen 9
      have hB0 := HB.out.set 9 (.int .i64 (S : Int)) { m with status := S } (fun _ _ _ => rfl) rfl rfl rfl
      go_wp2_with (first
        | (go_at_call 57; refine (kd _).mono ?_; rintro e w1 ⟨rfl, rfl⟩)
        | fail)
      go_quiet (fail)
      have hB2 := hB0.drewN nq
      obtain ⟨bc0, bc1, bf0, bf1⟩ := hB2.boxc
      go_wp2
      obtain ⟨r1, r2⟩ := hB2.ret (Tryz.tkV m.tk) (Tryz.thV m.th)
      exact bodyPost_ret (Tryz.ret_st rfl rfl r1) rfl ⟨rfl, r2⟩
    · have q1 : ¬ (m.at_ : Int) < ((m.frm + 2 : Nat) : Int) := by omega
      simp only [if_neg h1]
      clear h1
      have kS := Tryz.isStatus_any (S : Int)
      by_cases h2 : 200 ≤ S ∧ S ≤ 599
      · rw [show (decide ((200 : Int) ≤ (S : Int)) && decide ((S : Int) ≤ 599)) = true by simp; omega] at kS
        simp only [if_pos h2]
        clear h2
        go_enter Tryz.func88, Tryz.ntmps88
        go_upto_region 1 with (fail)
        generalize w.heap.size = g at *
        generalize w.alloc _ = W at *
        have hne := HB.out.ne
        have c0 := HB.out.cell 0 (Tryz.tkV m.tk) fun _ _ _ => rfl
        have c1 := HB.out.cell 1 (Tryz.thV m.th) fun _ _ _ => rfl
        have c3 := HB.out.cell 3 _ fun _ _ _ => rfl
        have c5 := HB.out.cell 5 _ fun _ _ _ => rfl
        have c9 := HB.out.cell 9 _ fun _ _ _ => rfl
        have f9 := HB.out.frozen 9
        have hB0 := HB.out.set 9 (.int .i64 (S : Int)) { m with status := S } (fun _ _ _ => rfl) rfl rfl rfl
        go_wp2_with (first
          | (go_at_call 57; refine (kd _).mono ?_; rintro e w1 ⟨rfl, rfl⟩)
          | fail)
        go_quiet (fail)
        have hB2 := hB0.drewN nq
        obtain ⟨bc0, bc1, bf0, bf1⟩ := hB2.boxc
        go_wp2_with (first
          | (go_at_call 35; refine (kS _).mono ?_; rintro e w1 ⟨rfl, rfl⟩)
          | fail)
        obtain ⟨r1, r2⟩ := hB2.ret (Tryz.tkV .blankB) (Tryz.thV .no)
        exact bodyPost_ret (Tryz.ret_st rfl rfl r1) rfl ⟨rfl, r2⟩
      · rw [show (decide ((200 : Int) ≤ (S : Int)) && decide ((S : Int) ≤ 599)) = false by rw [Bool.eq_false_iff]; simp; omega] at kS
        simp only [if_neg h2]
        clear h2
        go_enter Tryz.func88, Tryz.ntmps88
        go_upto_region 1 with (fail)
        generalize w.heap.size = g at *
        generalize w.alloc _ = W at *
        have hne := HB.out.ne
        have c0 := HB.out.cell 0 (Tryz.tkV m.tk) fun _ _ _ => rfl
        have c1 := HB.out.cell 1 (Tryz.thV m.th) fun _ _ _ => rfl
        have c3 := HB.out.cell 3 _ fun _ _ _ => rfl
        have c5 := HB.out.cell 5 _ fun _ _ _ => rfl
        have c9 := HB.out.cell 9 _ fun _ _ _ => rfl
        have f9 := HB.out.frozen 9
        have hB0 := HB.out.set 9 (.int .i64 (S : Int)) { m with status := S } (fun _ _ _ => rfl) rfl rfl rfl
        go_wp2_with (first
          | (go_at_call 57; refine (kd _).mono ?_; rintro e w1 ⟨rfl, rfl⟩)
          | fail)
        go_quiet (fail)
        have hB2 := hB0.drewN nq
        obtain ⟨own', hm, ho, hg⟩ := hB2.ms
        have k1 := Tryz.fail_any hm m.frm 180
        simp only [Tryz.stV, Wb.fail, Tryz.tkV, Tryz.thV] at k1
        go_wp2_with (first
          | (go_at_call 35; refine (kS _).mono ?_; rintro e w1 ⟨rfl, rfl⟩)
          | (go_at_call 60; refine k1.mono ?_; clear k1; rintro e w1 ⟨rfl, hC⟩; have hB1 := hB2.chg ho hg hC; obtain ⟨bc0, bc1, bf0, bf1⟩ := hB1.boxc)
          | fail)
        obtain ⟨r1, r2⟩ := hB1.ret .nilFunc .nilFunc
        exact bodyPost_ret (Tryz.ret_st rfl rfl r1) rfl ⟨rfl, r2⟩
  · rw [Bool.eq_false_iff.2 hd] at kd
    simp only [Wb.inStatus, if_pos (Bool.eq_false_iff.2 hd)]
    clear hd
    generalize c.toNat = n at *
    go_enter Tryz.func88, Tryz.ntmps88
    go_upto_region 1 with (fail)
    generalize w.heap.size = g at *
    generalize w.alloc _ = W at *
    have hne := HB.out.ne
    obtain ⟨own', hm, ho, hg⟩ := HB.out.ms
    have k1 := Tryz.refuse_any hm
    go_wp2_with (first
      | (go_at_call 57; refine (kd _).mono ?_; rintro e w1 ⟨rfl, rfl⟩)
      | (go_at_call 58; refine k1.mono ?_; clear k1; rintro e w1 ⟨rfl, hC⟩; have hB1 := HB.out.chg ho hg hC; obtain ⟨bc0, bc1, bf0, bf1⟩ := hB1.boxc)
      | fail)
    obtain ⟨r1, r2⟩ := hB1.ret .nilFunc .nilFunc
    exact bodyPost_ret (Tryz.ret_st rfl rfl r1) rfl ⟨rfl, r2⟩
set_option maxHeartbeats 1000000 in
theorem Tryz.inValue_any {T : TypeId} {w : World} {own : Nat → Prop} {b : Nat} {m : Msg} (h : Tryz.Ms T w own b m) (c : UInt8) (hl : m.word.length ≤ 70368744177664) :
    Calls Tryz.prog 142 #[.pointer (some ⟨b, 0, none⟩), .int .u8 c.toNat] w fun e w' => e = .returned (Tryz.stV (Wb.inValue m c).1) ∧ Tryz.MChg T own w w' b (Wb.inValue m c).2 := by
  have HB : Hid _ := Tryz.Bx.start h
  have kt := Tryz.isTextByte_any c
  have kb := Tryz.isBlank_any c
  by_cases hc : c.toNat = 13
  · have q13 : ((c.toNat : Int) == 13) = true := by simp; omega
    simp only [Wb.inValue, if_pos hc]
    clear hc kt kb
    generalize c.toNat = n at *
    go_enter Tryz.func142, Tryz.ntmps142
    go_upto_region 1 with (fail)
    generalize w.heap.size = g at *
    generalize w.alloc _ = W at *
    have hne := HB.out.ne
    obtain ⟨bc0, bc1, bf0, bf1⟩ := HB.out.boxc
    go_wp2_with (first
      | fail)
    obtain ⟨r1, r2⟩ := HB.out.ret (Tryz.tkV .lineFeed) (Tryz.thV .headerEnds)
    exact bodyPost_ret (Tryz.ret_st rfl rfl r1) rfl ⟨rfl, r2⟩
  · have q13 : ((c.toNat : Int) == 13) = false := by simp; omega
    simp only [Wb.inValue, if_neg hc]
    clear hc
    have hemp : m.word.isEmpty = decide (m.word.length = 0) := by cases m.word <;> simp
    have kK := fun (W : World) (own : Nat → Prop) (hm : Tryz.Ms T W own b m) => Tryz.keep_any hm c hl
    by_cases hb : Wb.blank c = true
    · rw [hb] at kb
      by_cases h0 : m.word.length = 0
      · have q0 : ((m.word.length : Int) == 0) = true := by rw [h0]; rfl
        have e0 : (Wb.blank c && m.word.isEmpty) = true := by rw [hb, hemp, decide_eq_true h0]; rfl
        simp only [if_pos e0]
        clear e0 hb hemp h0 kK
        have s1 := Tryz.stTk m.tk Tryz.prog
        have s2 := Tryz.stTh m.th Tryz.prog
        generalize c.toNat = n at *
        go_enter Tryz.func142, Tryz.ntmps142
        go_upto_region 1 with (fail)
        generalize w.heap.size = g at *
        generalize w.alloc _ = W at *
        have hne := HB.out.ne
        obtain ⟨own6, ⟨aw, cw, ah, ch, ab, cb, hmw⟩, -, -⟩ := HB.out.ms
        have c6 := cell_of_row _ _ 6 _ _ _ hmw.blk
        simp only [Tryz.mc, List.getElem?_toArray, List.getElem?_cons_succ, List.getElem?_cons_zero] at c6
        clear hmw
        obtain ⟨bc0, bc1, bf0, bf1⟩ := HB.out.boxc
        have c0 := HB.out.cell 0 (Tryz.tkV m.tk) fun _ _ _ => rfl
        have c1 := HB.out.cell 1 (Tryz.thV m.th) fun _ _ _ => rfl
        go_wp2_with (first
          | (go_at_call 147; refine (kb _).mono ?_; rintro e w1 ⟨rfl, rfl⟩)
          | fail)
        obtain ⟨r1, r2⟩ := HB.out.ret (Tryz.tkV m.tk) (Tryz.thV m.th)
        exact bodyPost_ret (Tryz.ret_st rfl rfl r1) rfl ⟨rfl, r2⟩
      · have q0 : ((m.word.length : Int) == 0) = false := by simpa using h0
        have e0 : ¬ (Wb.blank c && m.word.isEmpty) = true := by rw [hb, hemp, decide_eq_false h0]; exact Bool.false_ne_true
        simp only [if_neg e0]
        clear e0 hb hemp h0
        by_cases ht : txt c = true
        · rw [ht] at kt
          simp only [if_pos ht]
          clear ht
          have s1 := Tryz.stTk m.tk Tryz.prog
          have s2 := Tryz.stTh m.th Tryz.prog
          generalize c.toNat = n at *
          go_enter Tryz.func142, Tryz.ntmps142
          go_upto_region 1 with (fail)
          generalize w.heap.size = g at *
          generalize w.alloc _ = W at *
          have hne := HB.out.ne
          obtain ⟨own6, ⟨aw, cw, ah, ch, ab, cb, hmw⟩, -, -⟩ := HB.out.ms
          have c6 := cell_of_row _ _ 6 _ _ _ hmw.blk
          simp only [Tryz.mc, List.getElem?_toArray, List.getElem?_cons_succ, List.getElem?_cons_zero] at c6
          clear hmw
          obtain ⟨own', hm, ho, hg⟩ := HB.out.ms
          have k1 := kK W _ hm
          clear kK
          go_wp2_with (first
            | (go_at_call 147; refine (kb _).mono ?_; rintro e w1 ⟨rfl, rfl⟩)
            | (go_at_call 84; refine (kt _).mono ?_; rintro e w1 ⟨rfl, rfl⟩)
            | (go_at_call 59; refine k1.mono ?_; clear k1; rintro e w1 ⟨⟨v1, rfl⟩, hC⟩; have hB1 := HB.out.chg ho hg hC; obtain ⟨bc0, bc1, bf0, bf1⟩ := hB1.boxc; have c0 := hB1.cell 0 (Tryz.tkV (Wb.keep m c).tk) (fun _ _ _ => rfl); have c1 := hB1.cell 1 (Tryz.thV (Wb.keep m c).th) (fun _ _ _ => rfl); rw [Wb.keep_tk] at c0; rw [Wb.keep_th] at c1)
            | fail)
          obtain ⟨r1, r2⟩ := hB1.ret (Tryz.tkV m.tk) (Tryz.thV m.th)
          exact bodyPost_ret (Tryz.ret_st rfl rfl r1) rfl ⟨rfl, r2⟩
        · rw [Bool.eq_false_iff.2 ht] at kt
          simp only [if_neg ht]
          clear ht kK
          generalize c.toNat = n at *
          go_enter Tryz.func142, Tryz.ntmps142
          go_upto_region 1 with (fail)
          generalize w.heap.size = g at *
          generalize w.alloc _ = W at *
          have hne := HB.out.ne
          obtain ⟨own6, ⟨aw, cw, ah, ch, ab, cb, hmw⟩, -, -⟩ := HB.out.ms
          have c6 := cell_of_row _ _ 6 _ _ _ hmw.blk
          simp only [Tryz.mc, List.getElem?_toArray, List.getElem?_cons_succ, List.getElem?_cons_zero] at c6
          clear hmw
          obtain ⟨own', hm, ho, hg⟩ := HB.out.ms
          have k1 := Tryz.refuse_any hm
          go_wp2_with (first
            | (go_at_call 147; refine (kb _).mono ?_; rintro e w1 ⟨rfl, rfl⟩)
            | (go_at_call 84; refine (kt _).mono ?_; rintro e w1 ⟨rfl, rfl⟩)
            | (go_at_call 58; refine k1.mono ?_; clear k1; rintro e w1 ⟨rfl, hC⟩; have hB1 := HB.out.chg ho hg hC; obtain ⟨bc0, bc1, bf0, bf1⟩ := hB1.boxc)
            | fail)
          obtain ⟨r1, r2⟩ := hB1.ret .nilFunc .nilFunc
          exact bodyPost_ret (Tryz.ret_st rfl rfl r1) rfl ⟨rfl, r2⟩
    · rw [Bool.eq_false_iff.2 hb] at kb
      have e0 : ¬ (Wb.blank c && m.word.isEmpty) = true := by rw [Bool.eq_false_iff.2 hb]; exact Bool.false_ne_true
      simp only [if_neg e0]
      clear e0 hb hemp
      by_cases ht : txt c = true
      · rw [ht] at kt
        simp only [if_pos ht]
        clear ht
        have s1 := Tryz.stTk m.tk Tryz.prog
        have s2 := Tryz.stTh m.th Tryz.prog
        generalize c.toNat = n at *
        go_enter Tryz.func142, Tryz.ntmps142
        go_upto_region 1 with (fail)
        generalize w.heap.size = g at *
        generalize w.alloc _ = W at *
        have hne := HB.out.ne
        obtain ⟨own6, ⟨aw, cw, ah, ch, ab, cb, hmw⟩, -, -⟩ := HB.out.ms
        have c6 := cell_of_row _ _ 6 _ _ _ hmw.blk
        simp only [Tryz.mc, List.getElem?_toArray, List.getElem?_cons_succ, List.getElem?_cons_zero] at c6
        clear hmw
        obtain ⟨own', hm, ho, hg⟩ := HB.out.ms
        have k1 := kK W _ hm
        clear kK
        go_wp2_with (first
          | (go_at_call 147; refine (kb _).mono ?_; rintro e w1 ⟨rfl, rfl⟩)
          | (go_at_call 84; refine (kt _).mono ?_; rintro e w1 ⟨rfl, rfl⟩)
          | (go_at_call 59; refine k1.mono ?_; clear k1; rintro e w1 ⟨⟨v1, rfl⟩, hC⟩; have hB1 := HB.out.chg ho hg hC; obtain ⟨bc0, bc1, bf0, bf1⟩ := hB1.boxc; have c0 := hB1.cell 0 (Tryz.tkV (Wb.keep m c).tk) (fun _ _ _ => rfl); have c1 := hB1.cell 1 (Tryz.thV (Wb.keep m c).th) (fun _ _ _ => rfl); rw [Wb.keep_tk] at c0; rw [Wb.keep_th] at c1)
          | fail)
        obtain ⟨r1, r2⟩ := hB1.ret (Tryz.tkV m.tk) (Tryz.thV m.th)
        exact bodyPost_ret (Tryz.ret_st rfl rfl r1) rfl ⟨rfl, r2⟩
      · rw [Bool.eq_false_iff.2 ht] at kt
        simp only [if_neg ht]
        clear ht kK
        generalize c.toNat = n at *
        go_enter Tryz.func142, Tryz.ntmps142
        go_upto_region 1 with (fail)
        generalize w.heap.size = g at *
        generalize w.alloc _ = W at *
        have hne := HB.out.ne
        obtain ⟨own6, ⟨aw, cw, ah, ch, ab, cb, hmw⟩, -, -⟩ := HB.out.ms
        have c6 := cell_of_row _ _ 6 _ _ _ hmw.blk
        simp only [Tryz.mc, List.getElem?_toArray, List.getElem?_cons_succ, List.getElem?_cons_zero] at c6
        clear hmw
        obtain ⟨own', hm, ho, hg⟩ := HB.out.ms
        have k1 := Tryz.refuse_any hm
        go_wp2_with (first
          | (go_at_call 147; refine (kb _).mono ?_; rintro e w1 ⟨rfl, rfl⟩)
          | (go_at_call 84; refine (kt _).mono ?_; rintro e w1 ⟨rfl, rfl⟩)
          | (go_at_call 58; refine k1.mono ?_; clear k1; rintro e w1 ⟨rfl, hC⟩; have hB1 := HB.out.chg ho hg hC; obtain ⟨bc0, bc1, bf0, bf1⟩ := hB1.boxc)
          | fail)
        obtain ⟨r1, r2⟩ := hB1.ret .nilFunc .nilFunc
        exact bodyPost_ret (Tryz.ret_st rfl rfl r1) rfl ⟨rfl, r2⟩
end Go.Proofs
namespace Go.Proofs
open Go.RowKit Go.Wi Go.Wb
set_option maxRecDepth 20000 in
/-- A row of bytes as a text. -/
theorem Tryz.conv_bs {W : World} {ad : Option Addr} {n cap : Nat} {l : List UInt8} (h : Bs W (.slice ad n cap) l) : (convert 23 9 (.slice ad n cap)).run Tryz.prog W = .ok (.string ⟨l.toArray⟩) W := by
  obtain ⟨ad', cap', e, hc, hn, h1⟩ := h.ex
  injection e with e1 e2 e3
  subst e1 e2 e3
  rcases h1 with rfl | ⟨g, o, rfl, _, h2⟩
  · exact run_convert_bytes_zero (P := Tryz.prog) _ 23 5 Tryz.underlying23 Tryz.underlying5 ad cap 9 Tryz.underlying9
  · exact run_convert_bytes_back (P := Tryz.prog) W 23 9 5 ⟨g, o, none⟩ cap l Tryz.underlying23 Tryz.underlying5 Tryz.underlying9 (fun j hj => by
      rw [Addr.add_mid]
      exact h2 j _ (by simp [Lib.byteCells, hj]))
set_option maxRecDepth 20000 in
set_option maxHeartbeats 1000000 in
theorem Tryz.inTarget_any {T : TypeId} {w : World} {own : Nat → Prop} {b : Nat} {m : Msg} (h : Tryz.Ms T w own b m) (c : UInt8) (hat : m.at_ ≤ 4611686018427387904) (hl : m.word.length ≤ 70368744177664) :
    Calls Tryz.prog 97 #[.pointer (some ⟨b, 0, none⟩), .int .u8 c.toNat] w fun e w' => e = .returned (Tryz.stV (Wb.inTarget m c).1) ∧ Tryz.MChg T own w w' b (Wb.inTarget m c).2 := by
  have HB : Hid _ := Tryz.Bx.start h
  have kg := Tryz.isTargetByte_any c
  have kK := fun (W : World) (own : Nat → Prop) (hm : Tryz.Ms T W own b m) => Tryz.keep_any hm c hl
  by_cases h0 : m.word.length = 0
  · have q0 : ((m.word.length : Int) == 0) = true := by rw [h0]; rfl
    by_cases h47 : c.toNat = 47
    · have q47 : ((c.toNat : Int) != 47) = false := by simp; omega
      have q32 : ((c.toNat : Int) == 32) = false := by simp; omega
      have q512 : ((m.word.length : Int) == 512) = false := by rw [h0]; rfl
      have ht : tgt c = true := by simp [tgt, h47]
      rw [ht] at kg
      have z1 : ¬ (m.word.length = 0 ∧ c.toNat ≠ 47) := fun e => e.2 h47
      have z2 : ¬ c.toNat = 32 := by omega
      have z3 : ¬ tgt c = false := by rw [ht]; intro e; cases e
      have z4 : ¬ m.word.length = 512 := by omega
      simp only [Wb.inTarget, if_neg z1, if_neg z2, if_neg z3, if_neg z4]
      clear z1 z2 z3 z4 ht h47 h0
      have s1 := Tryz.stTk m.tk Tryz.prog
      have s2 := Tryz.stTh m.th Tryz.prog
      generalize c.toNat = n at *
      go_enter Tryz.func97, Tryz.ntmps97
      go_upto_region 1 with (fail)
      generalize w.heap.size = g at *
      generalize w.alloc _ = W at *
      have hne := HB.out.ne
      obtain ⟨own6, ⟨aw, cw, ah, ch, ab, cb, hmw⟩, -, -⟩ := HB.out.ms
      have c6 := cell_of_row _ _ 6 _ _ _ hmw.blk
      simp only [Tryz.mc, List.getElem?_toArray, List.getElem?_cons_succ, List.getElem?_cons_zero] at c6
      clear hmw
      obtain ⟨own', hm, ho, hg⟩ := HB.out.ms
      have k1 := kK W _ hm
      clear kK
      go_wp2_with (first
        | (go_at_call 115; refine (kg _).mono ?_; rintro e w1 ⟨rfl, rfl⟩)
        | (go_at_call 59; refine k1.mono ?_; clear k1; rintro e w1 ⟨⟨v1, rfl⟩, hC⟩; have hB1 := HB.out.chg ho hg hC; obtain ⟨bc0, bc1, bf0, bf1⟩ := hB1.boxc; have c0 := hB1.cell 0 (Tryz.tkV (Wb.keep m c).tk) (fun _ _ _ => rfl); have c1 := hB1.cell 1 (Tryz.thV (Wb.keep m c).th) (fun _ _ _ => rfl); rw [Wb.keep_tk] at c0; rw [Wb.keep_th] at c1)
        | fail)
      obtain ⟨r1, r2⟩ := hB1.ret (Tryz.tkV m.tk) (Tryz.thV m.th)
      exact bodyPost_ret (Tryz.ret_st rfl rfl r1) rfl ⟨rfl, r2⟩
    · have q47 : ((c.toNat : Int) != 47) = true := by simp; omega
      simp only [Wb.inTarget, if_pos (show m.word.length = 0 ∧ c.toNat ≠ 47 from ⟨h0, h47⟩)]
      clear h0 h47 kK
      generalize c.toNat = n at *
      go_enter Tryz.func97, Tryz.ntmps97
      go_upto_region 1 with (fail)
      generalize w.heap.size = g at *
      generalize w.alloc _ = W at *
      have hne := HB.out.ne
      obtain ⟨own6, ⟨aw, cw, ah, ch, ab, cb, hmw⟩, -, -⟩ := HB.out.ms
      have c6 := cell_of_row _ _ 6 _ _ _ hmw.blk
      simp only [Tryz.mc, List.getElem?_toArray, List.getElem?_cons_succ, List.getElem?_cons_zero] at c6
      clear hmw
      obtain ⟨own', hm, ho, hg⟩ := HB.out.ms
      have k1 := Tryz.refuse_any hm
      go_wp2_with (first
        | (go_at_call 58; refine k1.mono ?_; clear k1; rintro e w1 ⟨rfl, hC⟩; have hB1 := HB.out.chg ho hg hC; obtain ⟨bc0, bc1, bf0, bf1⟩ := hB1.boxc)
        | fail)
      obtain ⟨r1, r2⟩ := hB1.ret .nilFunc .nilFunc
      exact bodyPost_ret (Tryz.ret_st rfl rfl r1) rfl ⟨rfl, r2⟩
  · have q0 : ((m.word.length : Int) == 0) = false := by simpa using h0
    simp only [Wb.inTarget, if_neg (show ¬ (m.word.length = 0 ∧ c.toNat ≠ 47) from fun e => h0 e.1)]
    clear h0
    by_cases h32 : c.toNat = 32
    · have q32 : ((c.toNat : Int) == 32) = true := by simp; omega
      simp only [if_pos h32]
      clear h32 kK kg
      generalize c.toNat = n at *
      go_enter Tryz.func97, Tryz.ntmps97
      go_upto_region 1 with (fail)
      generalize w.heap.size = g at *
      generalize w.alloc _ = W at *
      have hne := HB.out.ne
      obtain ⟨own6, ⟨aw, cw, ah, ch, ab, cb, hmw⟩, -, -⟩ := HB.out.ms
      have c6 := cell_of_row _ _ 6 _ _ _ hmw.blk
      simp only [Tryz.mc, List.getElem?_toArray, List.getElem?_cons_succ, List.getElem?_cons_zero] at c6
      have hcv := Tryz.conv_bs (Bs.ofRow hmw.word)
      clear hmw
      have c8 := HB.out.cell 8 _ fun _ _ _ => rfl
      have f8 := HB.out.frozen 8
      have hB0 := HB.out.set 8 (.string ⟨m.word.toArray⟩) { m with target := m.word } (fun _ _ _ => rfl) rfl rfl rfl
      obtain ⟨own', hm, ho, hg⟩ := hB0.ms
      have k1 := Tryz.part_any hm hat .inVersion 43
      go_wp2_with (first
        | (go_at_call 87; refine k1.mono ?_; clear k1; rintro e w1 ⟨rfl, hC⟩; have hB1 := hB0.chg ho hg hC; have hB4 := hB1.below ((Below.refl _ w1).alloc (Nat.le_refl _) (.cells #[.func (.func 43) #[] #[], .func (.func 114) #[] #[]] 61)); obtain ⟨bc0, bc1, bf0, bf1⟩ := hB4.boxc)
        | fail)
      obtain ⟨r1, r2⟩ := hB4.ret (Tryz.tkV .inVersion) (Tryz.thV .requestLineEnds)
      exact bodyPost_ret (Tryz.ret_st rfl rfl r1) rfl ⟨rfl, r2⟩
    · have q32 : ((c.toNat : Int) == 32) = false := by simp; omega
      simp only [if_neg h32]
      clear h32
      by_cases ht : tgt c = true
      · rw [ht] at kg
        simp only [if_neg (show ¬ tgt c = false by rw [ht]; intro e; cases e)]
        clear ht
        by_cases h5 : m.word.length = 512
        · have q512 : ((m.word.length : Int) == 512) = true := by rw [h5]; rfl
          simp only [if_pos h5]
          clear h5 kK
          generalize c.toNat = n at *
          go_enter Tryz.func97, Tryz.ntmps97
          go_upto_region 1 with (fail)
          generalize w.heap.size = g at *
          generalize w.alloc _ = W at *
          have hne := HB.out.ne
          obtain ⟨own6, ⟨aw, cw, ah, ch, ab, cb, hmw⟩, -, -⟩ := HB.out.ms
          have c6 := cell_of_row _ _ 6 _ _ _ hmw.blk
          simp only [Tryz.mc, List.getElem?_toArray, List.getElem?_cons_succ, List.getElem?_cons_zero] at c6
          clear hmw
          obtain ⟨own', hm, ho, hg⟩ := HB.out.ms
          have c3 := HB.out.cell 3 _ fun _ _ _ => rfl
          have k1 := Tryz.fail_any hm m.at_ 181
          simp only [Tryz.stV, Wb.fail, Tryz.tkV, Tryz.thV] at k1
          go_wp2_with (first
            | (go_at_call 115; refine (kg _).mono ?_; rintro e w1 ⟨rfl, rfl⟩)
            | (go_at_call 60; refine k1.mono ?_; clear k1; rintro e w1 ⟨rfl, hC⟩; have hB1 := HB.out.chg ho hg hC; obtain ⟨bc0, bc1, bf0, bf1⟩ := hB1.boxc)
            | fail)
          obtain ⟨r1, r2⟩ := hB1.ret .nilFunc .nilFunc
          exact bodyPost_ret (Tryz.ret_st rfl rfl r1) rfl ⟨rfl, r2⟩
        · have q512 : ((m.word.length : Int) == 512) = false := by simp; omega
          simp only [if_neg h5]
          clear h5
          have s1 := Tryz.stTk m.tk Tryz.prog
          have s2 := Tryz.stTh m.th Tryz.prog
          generalize c.toNat = n at *
          go_enter Tryz.func97, Tryz.ntmps97
          go_upto_region 1 with (fail)
          generalize w.heap.size = g at *
          generalize w.alloc _ = W at *
          have hne := HB.out.ne
          obtain ⟨own6, ⟨aw, cw, ah, ch, ab, cb, hmw⟩, -, -⟩ := HB.out.ms
          have c6 := cell_of_row _ _ 6 _ _ _ hmw.blk
          simp only [Tryz.mc, List.getElem?_toArray, List.getElem?_cons_succ, List.getElem?_cons_zero] at c6
          clear hmw
          obtain ⟨own', hm, ho, hg⟩ := HB.out.ms
          have k1 := kK W _ hm
          clear kK
          go_wp2_with (first
            | (go_at_call 115; refine (kg _).mono ?_; rintro e w1 ⟨rfl, rfl⟩)
            | (go_at_call 59; refine k1.mono ?_; clear k1; rintro e w1 ⟨⟨v1, rfl⟩, hC⟩; have hB1 := HB.out.chg ho hg hC; obtain ⟨bc0, bc1, bf0, bf1⟩ := hB1.boxc; have c0 := hB1.cell 0 (Tryz.tkV (Wb.keep m c).tk) (fun _ _ _ => rfl); have c1 := hB1.cell 1 (Tryz.thV (Wb.keep m c).th) (fun _ _ _ => rfl); rw [Wb.keep_tk] at c0; rw [Wb.keep_th] at c1)
            | fail)
          obtain ⟨r1, r2⟩ := hB1.ret (Tryz.tkV m.tk) (Tryz.thV m.th)
          exact bodyPost_ret (Tryz.ret_st rfl rfl r1) rfl ⟨rfl, r2⟩
      · rw [Bool.eq_false_iff.2 ht] at kg
        simp only [if_pos (Bool.eq_false_iff.2 ht)]
        clear ht kK
        generalize c.toNat = n at *
        go_enter Tryz.func97, Tryz.ntmps97
        go_upto_region 1 with (fail)
        generalize w.heap.size = g at *
        generalize w.alloc _ = W at *
        have hne := HB.out.ne
        obtain ⟨own6, ⟨aw, cw, ah, ch, ab, cb, hmw⟩, -, -⟩ := HB.out.ms
        have c6 := cell_of_row _ _ 6 _ _ _ hmw.blk
        simp only [Tryz.mc, List.getElem?_toArray, List.getElem?_cons_succ, List.getElem?_cons_zero] at c6
        clear hmw
        obtain ⟨own', hm, ho, hg⟩ := HB.out.ms
        have k1 := Tryz.refuse_any hm
        go_wp2_with (first
          | (go_at_call 115; refine (kg _).mono ?_; rintro e w1 ⟨rfl, rfl⟩)
          | (go_at_call 58; refine k1.mono ?_; clear k1; rintro e w1 ⟨rfl, hC⟩; have hB1 := HB.out.chg ho hg hC; obtain ⟨bc0, bc1, bf0, bf1⟩ := hB1.boxc)
          | fail)
        obtain ⟨r1, r2⟩ := hB1.ret .nilFunc .nilFunc
        exact bodyPost_ret (Tryz.ret_st rfl rfl r1) rfl ⟨rfl, r2⟩
end Go.Proofs
