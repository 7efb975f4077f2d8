/-
  State functions of a message (sizes, statuses, values).
-/
import Derived.Test.YtogimcdjllhkcaaGreatDoorXi
namespace Go.Proofs
open Go.RowKit Go.Wi Go.Wb
theorem Wb.keep_tk (m : Msg) (c : UInt8) : (Wb.keep m c).tk = m.tk := by unfold Wb.keep; split <;> rfl
theorem Wb.keep_th (m : Msg) (c : UInt8) : (Wb.keep m c).th = m.th := by unfold Wb.keep; split <;> rfl
set_option maxHeartbeats 1000000 in
theorem Tryz.grown_any {T : TypeId} {w : World} {own : Nat → Prop} {b : Nat} {m : Msg} (h : Tryz.Ms T w own b m) (n base d : Nat) (hm : m.most ≤ 999999999) (hb : base ≤ 16) (hd : d ≤ 15) :
    Calls Tryz.prog 129 #[.pointer (some ⟨b, 0, none⟩), .int .i64 n, .int .i64 base, .int .i64 d] w fun e w' => e = .returned (.int .i64 (grown m.most n base d : Nat)) ∧ w' = w := by
  obtain ⟨aw, cw, ah, ch, ab, cb, hmw⟩ := h.ex
  have c16 := cell_of_row _ _ 16 _ _ _ hmw.blk
  simp only [Tryz.mc, List.getElem?_toArray, List.getElem?_cons_succ, List.getElem?_cons_zero] at c16
  clear h hmw
  by_cases hn : m.most < n
  · have q : (m.most : Int) < (n : Int) := by omega
    rw [show grown m.most n base d = n by unfold grown; rw [if_pos hn]]
    go_enter Tryz.func129, Tryz.ntmps129
    go_wp2
    go_ret
    exact ⟨rfl, rfl⟩
  · have q : ¬ (m.most : Int) < (n : Int) := by omega
    have hp : n * base ≤ 15999999984 := Nat.le_trans (Nat.mul_le_mul (by omega) hb) (by omega : 999999999 * 16 ≤ 15999999984)
    have w1 : IntKind.i64.wrap ((n : Int) * (base : Int)) = ((n * base : Nat) : Int) := by rw [← Int.natCast_mul, IntKind.wrap_i64]; omega
    have w2 : IntKind.i64.wrap (((n * base : Nat) : Int) + (d : Int)) = ((n * base + d : Nat) : Int) := by rw [IntKind.wrap_i64]; omega
    rw [show grown m.most n base d = n * base + d by unfold grown; rw [if_neg hn]]
    generalize n * base = P at *
    go_enter Tryz.func129, Tryz.ntmps129
    go_wp2
    go_ret
    exact ⟨rfl, rfl⟩
set_option maxHeartbeats 1000000 in
theorem Tryz.inExt_any {T : TypeId} {w : World} {own : Nat → Prop} {b : Nat} {m : Msg} (h : Tryz.Ms T w own b m) (c : UInt8) (hf : m.frm ≤ 4611686018427387904) :
    Calls Tryz.prog 134 #[.pointer (some ⟨b, 0, none⟩), .int .u8 c.toNat] w fun e w' => e = .returned (Tryz.stV (Wb.inExt m c).1) ∧ Tryz.MChg T own w w' b (Wb.inExt m c).2 := by
  have HB : Hid _ := Tryz.Bx.start h
  have kt := Tryz.isTextByte_any c
  by_cases hT : Wb.tooMuch m c = true
  · simp only [Wb.inExt, if_pos hT]
    go_enter Tryz.func134, Tryz.ntmps134
    go_upto_region 1 with (fail)
    generalize w.heap.size = g at *
    generalize w.alloc _ = W at *
    have hne := HB.out.ne
    obtain ⟨ownT, hmT, -, -⟩ := HB.out.ms
    have kT := Tryz.isTooMuch_any hmT c hf
    clear hmT
    rw [hT] at kT
    generalize c.toNat = n at *
    go_wp2_with (first
      | (go_at_call 132; refine kT.mono ?_; clear kT; rintro e w0 ⟨rfl, hb0⟩; have hB0 := HB.out.below hb0; clear hb0; obtain ⟨own', hm, ho, hg⟩ := hB0.ms; have c3 := hB0.cell 3 _ fun _ _ _ => rfl; have k1 := Tryz.fail_any hm m.at_ 181; simp only [Tryz.stV, Wb.fail, Tryz.tkV, Tryz.thV] at k1)
      | (go_at_call 71; refine k1.mono ?_; clear k1; rintro e w1 ⟨rfl, hC⟩; have hB1 := hB0.chg ho hg hC; obtain ⟨bc0, bc1, bf0, bf1⟩ := hB1.boxc)
      | fail)
    obtain ⟨r1, r2⟩ := hB1.ret .nilFunc .nilFunc
    exact bodyPost_ret (Tryz.ret_st rfl rfl r1) rfl ⟨rfl, r2⟩
  · have hT := Bool.eq_false_iff.2 hT
    simp only [Wb.inExt, if_neg (show ¬ Wb.tooMuch m c = true by rw [hT]; exact Bool.false_ne_true)]
    by_cases hc : c.toNat = 13
    · have q13 : ((c.toNat : Int) == 13) = true := by simp; omega
      simp only [if_pos hc]
      clear hc
      go_enter Tryz.func134, Tryz.ntmps134
      go_upto_region 1 with (fail)
      generalize w.heap.size = g at *
      generalize w.alloc _ = W at *
      have hne := HB.out.ne
      obtain ⟨ownT, hmT, -, -⟩ := HB.out.ms
      have kT := Tryz.isTooMuch_any hmT c hf
      clear hmT
      rw [hT] at kT
      generalize c.toNat = n at *
      go_wp2_with (first
        | (go_at_call 132; refine kT.mono ?_; clear kT; rintro e w0 ⟨rfl, hb0⟩; have hB0 := HB.out.below hb0; clear hb0; obtain ⟨bc0, bc1, bf0, bf1⟩ := hB0.boxc)
        | fail)
      obtain ⟨r1, r2⟩ := hB0.ret (Tryz.tkV .lineFeed) (Tryz.thV .sizeLineEnds)
      exact bodyPost_ret (Tryz.ret_st rfl rfl r1) rfl ⟨rfl, r2⟩
    · have q13 : ((c.toNat : Int) == 13) = false := by simp; omega
      simp only [if_neg hc]
      clear hc
      by_cases ht : txt c = true
      · rw [ht] at kt
        simp only [if_pos ht]
        clear ht
        have s1 := Tryz.stTk m.tk Tryz.prog
        have s2 := Tryz.stTh m.th Tryz.prog
        go_enter Tryz.func134, Tryz.ntmps134
        go_upto_region 1 with (fail)
        generalize w.heap.size = g at *
        generalize w.alloc _ = W at *
        have hne := HB.out.ne
        obtain ⟨ownT, hmT, -, -⟩ := HB.out.ms
        have kT := Tryz.isTooMuch_any hmT c hf
        clear hmT
        rw [hT] at kT
        generalize c.toNat = n at *
        go_wp2_with (first
          | (go_at_call 132; refine kT.mono ?_; clear kT; rintro e w0 ⟨rfl, hb0⟩; have hB0 := HB.out.below hb0; clear hb0; obtain ⟨bc0, bc1, bf0, bf1⟩ := hB0.boxc; have c0 := hB0.cell 0 (Tryz.tkV m.tk) fun _ _ _ => rfl; have c1 := hB0.cell 1 (Tryz.thV m.th) fun _ _ _ => rfl)
          | (go_at_call 63; refine (kt _).mono ?_; rintro e w1 ⟨rfl, rfl⟩)
          | fail)
        obtain ⟨r1, r2⟩ := hB0.ret (Tryz.tkV m.tk) (Tryz.thV m.th)
        exact bodyPost_ret (Tryz.ret_st rfl rfl r1) rfl ⟨rfl, r2⟩
      · rw [Bool.eq_false_iff.2 ht] at kt
        simp only [if_neg ht]
        clear ht
        go_enter Tryz.func134, Tryz.ntmps134
        go_upto_region 1 with (fail)
        generalize w.heap.size = g at *
        generalize w.alloc _ = W at *
        have hne := HB.out.ne
        obtain ⟨ownT, hmT, -, -⟩ := HB.out.ms
        have kT := Tryz.isTooMuch_any hmT c hf
        clear hmT
        rw [hT] at kT
        generalize c.toNat = n at *
        go_wp2_with (first
          | (go_at_call 132; refine kT.mono ?_; clear kT; rintro e w0 ⟨rfl, hb0⟩; have hB0 := HB.out.below hb0; clear hb0; obtain ⟨own', hm, ho, hg⟩ := hB0.ms; have k1 := Tryz.refuse_any hm)
          | (go_at_call 63; refine (kt _).mono ?_; rintro e w1 ⟨rfl, rfl⟩)
          | (go_at_call 72; refine k1.mono ?_; clear k1; rintro e w1 ⟨rfl, hC⟩; have hB1 := hB0.chg ho hg hC; obtain ⟨bc0, bc1, bf0, bf1⟩ := hB1.boxc)
          | fail)
        obtain ⟨r1, r2⟩ := hB1.ret .nilFunc .nilFunc
        exact bodyPost_ret (Tryz.ret_st rfl rfl r1) rfl ⟨rfl, r2⟩
set_option maxHeartbeats 1000000 in
theorem Tryz.inSize_any {T : TypeId} {w : World} {own : Nat → Prop} {b : Nat} {m : Msg} (h : Tryz.Ms T w own b m) (c : UInt8) (hf : m.frm ≤ 4611686018427387904) (hmo : m.most ≤ 999999999) :
    Calls Tryz.prog 127 #[.pointer (some ⟨b, 0, none⟩), .int .u8 c.toNat] w fun e w' => e = .returned (Tryz.stV (Wb.inSize m c).1) ∧ Tryz.MChg T own w w' b (Wb.inSize m c).2 := by
  have HB : Hid _ := Tryz.Bx.start h
  have kh := Tryz.hexDigit_any c
  by_cases hT : Wb.tooMuch m c = true
  · simp only [Wb.inSize, if_pos hT]
    go_enter Tryz.func127, Tryz.ntmps127
    go_upto_region 1 with (fail)
    generalize w.heap.size = g at *
    generalize w.alloc _ = W at *
    have hne := HB.out.ne
    obtain ⟨ownT, hmT, -, -⟩ := HB.out.ms
    have kT := Tryz.isTooMuch_any hmT c hf
    clear hmT
    rw [hT] at kT
    generalize c.toNat = n at *
    go_wp2_with (first
      | (go_at_call 131; refine (kh _).mono ?_; rintro e w1 ⟨rfl, rfl⟩)
      | (go_at_call 132; refine kT.mono ?_; clear kT; rintro e w0 ⟨rfl, hb0⟩; have hB0 := HB.out.below hb0; clear hb0; obtain ⟨own', hm, ho, hg⟩ := hB0.ms; have c3 := hB0.cell 3 _ fun _ _ _ => rfl; have k1 := Tryz.fail_any hm m.at_ 181; simp only [Tryz.stV, Wb.fail, Tryz.tkV, Tryz.thV] at k1)
      | (go_at_call 71; refine k1.mono ?_; clear k1; rintro e w1 ⟨rfl, hC⟩; have hB1 := hB0.chg ho hg hC; obtain ⟨bc0, bc1, bf0, bf1⟩ := hB1.boxc)
      | fail)
    obtain ⟨r1, r2⟩ := hB1.ret .nilFunc .nilFunc
    exact bodyPost_ret (Tryz.ret_st rfl rfl r1) rfl ⟨rfl, r2⟩
  · have hT := Bool.eq_false_iff.2 hT
    simp only [Wb.inSize, if_neg (show ¬ Wb.tooMuch m c = true by rw [hT]; exact Bool.false_ne_true)]
    cases hx : hexd c with
    | some d =>
      have e1 : Wb.hexI c = (d : Int) := by unfold Wb.hexI; rw [hx]
      have hd := hexd_le hx
      rw [e1] at kh
      have q0 : (0 : Int) ≤ (d : Int) := by omega
      simp only
      clear e1 hx
      have s1 := Tryz.stTk m.tk Tryz.prog
      have s2 := Tryz.stTh m.th Tryz.prog
      go_enter Tryz.func127, Tryz.ntmps127
      go_upto_region 1 with (fail)
      generalize w.heap.size = g at *
      generalize w.alloc _ = W at *
      have hne := HB.out.ne
      obtain ⟨ownT, hmT, -, -⟩ := HB.out.ms
      have kT := Tryz.isTooMuch_any hmT c hf
      clear hmT
      rw [hT] at kT
      generalize c.toNat = n at *
      go_wp2_with (first
        | (go_at_call 131; refine (kh _).mono ?_; rintro e w1 ⟨rfl, rfl⟩)
        | (go_at_call 132; refine kT.mono ?_; clear kT; rintro e w0 ⟨rfl, hb0⟩; have hB0 := HB.out.below hb0; clear hb0; obtain ⟨bc0, bc1, bf0, bf1⟩ := hB0.boxc; have c0 := hB0.cell 0 (Tryz.tkV m.tk) fun _ _ _ => rfl; have c1 := hB0.cell 1 (Tryz.thV m.th) fun _ _ _ => rfl; have c17 := hB0.cell 17 _ fun _ _ _ => rfl; obtain ⟨own', hm, ho, hg⟩ := hB0.ms; have f17 := hB0.frozen 17; have kg := Tryz.grown_any hm m.size 16 d hmo (by omega) hd)
        | (go_at_call 129; refine kg.mono ?_; clear kg; rintro e w1 ⟨rfl, rfl⟩)
        | fail)
      obtain ⟨r1, r2⟩ := (hB0.set 17 _ { m with size := grown m.most m.size 16 d } (fun _ _ _ => rfl) rfl rfl rfl).ret (Tryz.tkV m.tk) (Tryz.thV m.th)
      exact bodyPost_ret (Tryz.ret_st rfl rfl r1) rfl ⟨rfl, r2⟩
    | none =>
      have e1 : Wb.hexI c = -1 := by unfold Wb.hexI; rw [hx]
      rw [e1] at kh
      clear e1 hx
      simp only
      by_cases ha : m.at_ = m.frm
      · have qa : ((m.at_ : Int) == (m.frm : Int)) = true := by simp; omega
        simp only [if_pos ha]
        clear ha
        go_enter Tryz.func127, Tryz.ntmps127
        go_upto_region 1 with (fail)
        generalize w.heap.size = g at *
        generalize w.alloc _ = W at *
        have hne := HB.out.ne
        obtain ⟨ownT, hmT, -, -⟩ := HB.out.ms
        have kT := Tryz.isTooMuch_any hmT c hf
        clear hmT
        rw [hT] at kT
        generalize c.toNat = n at *
        go_wp2_with (first
          | (go_at_call 131; refine (kh _).mono ?_; rintro e w1 ⟨rfl, rfl⟩)
          | (go_at_call 132; refine kT.mono ?_; clear kT; rintro e w0 ⟨rfl, hb0⟩; have hB0 := HB.out.below hb0; clear hb0; have c3 := hB0.cell 3 _ fun _ _ _ => rfl; have c5 := hB0.cell 5 _ fun _ _ _ => rfl)
          | fail)
        go_quiet (fail)
        have hB2 := hB0.drewN nq
        obtain ⟨own', hm, ho, hg⟩ := hB2.ms
        have k1 := Tryz.refuse_any hm
        go_wp2_with (first
          | (go_at_call 72; refine k1.mono ?_; clear k1; rintro e w1 ⟨rfl, hC⟩; have hB1 := hB2.chg ho hg hC; obtain ⟨bc0, bc1, bf0, bf1⟩ := hB1.boxc)
          | fail)
        obtain ⟨r1, r2⟩ := hB1.ret .nilFunc .nilFunc
        exact bodyPost_ret (Tryz.ret_st rfl rfl r1) rfl ⟨rfl, r2⟩
      · have qa : ((m.at_ : Int) == (m.frm : Int)) = false := by simp; omega
        simp only [if_neg ha]
        clear ha
        by_cases hc : c.toNat = 13
        · have q13 : ((c.toNat : Int) == 13) = true := by simp; omega
          simp only [if_pos hc]
          clear hc
          go_enter Tryz.func127, Tryz.ntmps127
          go_upto_region 1 with (fail)
          generalize w.heap.size = g at *
          generalize w.alloc _ = W at *
          have hne := HB.out.ne
          obtain ⟨ownT, hmT, -, -⟩ := HB.out.ms
          have kT := Tryz.isTooMuch_any hmT c hf
          clear hmT
          rw [hT] at kT
          generalize c.toNat = n at *
          go_wp2_with (first
            | (go_at_call 131; refine (kh _).mono ?_; rintro e w1 ⟨rfl, rfl⟩)
            | (go_at_call 132; refine kT.mono ?_; clear kT; rintro e w0 ⟨rfl, hb0⟩; have hB0 := HB.out.below hb0; clear hb0; have c3 := hB0.cell 3 _ fun _ _ _ => rfl; have c5 := hB0.cell 5 _ fun _ _ _ => rfl)
            | fail)
          go_quiet (fail)
          have hB2 := hB0.drewN nq
          obtain ⟨bc0, bc1, bf0, bf1⟩ := hB2.boxc
          go_wp2
          obtain ⟨r1, r2⟩ := hB2.ret (Tryz.tkV .lineFeed) (Tryz.thV .sizeLineEnds)
          exact bodyPost_ret (Tryz.ret_st rfl rfl r1) rfl ⟨rfl, r2⟩
        · have q13 : ((c.toNat : Int) == 13) = false := by simp; omega
          simp only [if_neg hc]
          clear hc
          by_cases hc : c.toNat = 59
          · have q59 : ((c.toNat : Int) == 59) = true := by simp; omega
            simp only [if_pos hc]
            clear hc
            go_enter Tryz.func127, Tryz.ntmps127
            go_upto_region 1 with (fail)
            generalize w.heap.size = g at *
            generalize w.alloc _ = W at *
            have hne := HB.out.ne
            obtain ⟨ownT, hmT, -, -⟩ := HB.out.ms
            have kT := Tryz.isTooMuch_any hmT c hf
            clear hmT
            rw [hT] at kT
            generalize c.toNat = n at *
            go_wp2_with (first
              | (go_at_call 131; refine (kh _).mono ?_; rintro e w1 ⟨rfl, rfl⟩)
              | (go_at_call 132; refine kT.mono ?_; clear kT; rintro e w0 ⟨rfl, hb0⟩; have hB0 := HB.out.below hb0; clear hb0; have c3 := hB0.cell 3 _ fun _ _ _ => rfl; have c5 := hB0.cell 5 _ fun _ _ _ => rfl)
              | fail)
            go_quiet (fail)
            have hB2 := hB0.drewN nq
            obtain ⟨bc0, bc1, bf0, bf1⟩ := hB2.boxc
            go_wp2
            obtain ⟨r1, r2⟩ := hB2.ret (Tryz.tkV .inExt) (Tryz.thV .no)
            exact bodyPost_ret (Tryz.ret_st rfl rfl r1) rfl ⟨rfl, r2⟩
          · have q59 : ((c.toNat : Int) == 59) = false := by simp; omega
            simp only [if_neg hc]
            clear hc
            go_enter Tryz.func127, Tryz.ntmps127
            go_upto_region 1 with (fail)
            generalize w.heap.size = g at *
            generalize w.alloc _ = W at *
            have hne := HB.out.ne
            obtain ⟨ownT, hmT, -, -⟩ := HB.out.ms
            have kT := Tryz.isTooMuch_any hmT c hf
            clear hmT
            rw [hT] at kT
            generalize c.toNat = n at *
            go_wp2_with (first
              | (go_at_call 131; refine (kh _).mono ?_; rintro e w1 ⟨rfl, rfl⟩)
              | (go_at_call 132; refine kT.mono ?_; clear kT; rintro e w0 ⟨rfl, hb0⟩; have hB0 := HB.out.below hb0; clear hb0; have c3 := hB0.cell 3 _ fun _ _ _ => rfl; have c5 := hB0.cell 5 _ fun _ _ _ => rfl)
              | fail)
            go_quiet (fail)
            have hB2 := hB0.drewN nq
            obtain ⟨own', hm, ho, hg⟩ := hB2.ms
            have k1 := Tryz.refuse_any hm
            go_wp2_with (first
              | (go_at_call 72; refine k1.mono ?_; clear k1; rintro e w1 ⟨rfl, hC⟩; have hB1 := hB2.chg ho hg hC; obtain ⟨bc0, bc1, bf0, bf1⟩ := hB1.boxc)
              | fail)
            obtain ⟨r1, r2⟩ := hB1.ret .nilFunc .nilFunc
            exact bodyPost_ret (Tryz.ret_st rfl rfl r1) rfl ⟨rfl, r2⟩
end Go.Proofs
