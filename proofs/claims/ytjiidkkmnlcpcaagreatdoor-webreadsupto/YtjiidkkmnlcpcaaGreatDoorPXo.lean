/-
  Laid together by packg.py of Xo.
-/
import Derived.Test.YtjiidkkmnlcpcaaGreatDoorPaI
import Derived.Test.YtjiidkkmnlcpcaaGreatDoorPXn
namespace Go.Proofs
open Go.RowKit Go.Wi Go.Wb
set_option maxRecDepth 20000 in
set_option maxHeartbeats 1000000 in
theorem Tryz.inMethod_any {T : TypeId} {w : World} {own : Nat → Prop} {b : Nat} {m : Msg} (h : Tryz.Ms T w own b m) (c : UInt8) (hat : m.at_ ≤ 4611686018427387904) (hl : m.word.length ≤ 70368744177664) :
    Calls Tryz.prog 79 #[.pointer (some ⟨b, 0, none⟩), .int .u8 c.toNat] w fun e w' => e = .returned (Tryz.stV (Wb.inMethod m c).1) ∧ Tryz.MChg T own w w' b (Wb.inMethod m c).2 := by
  have HB : Hid _ := Tryz.Bx.start h
  have kt := Tryz.isTokenByte_any c
  by_cases ht : tok c = true
  · rw [ht] at kt
    have kK := fun (W : World) (own : Nat → Prop) (hm : Tryz.Ms T W own b m) => Tryz.keep_any hm c hl
    simp only [Wb.inMethod, if_pos ht]
    clear ht
    generalize c.toNat = n at *
    go_enter Tryz.func79, Tryz.ntmps79
    go_upto_region 1 with (fail)
    generalize w.heap.size = g at *
    generalize w.alloc _ = W at *
    have hne := HB.out.ne
    obtain ⟨own', hm, ho, hg⟩ := HB.out.ms
    have k1 := kK W _ hm
    clear kK
    go_wp2_with (first
      | (go_at_call 82; refine (kt _).mono ?_; rintro e w1 ⟨rfl, rfl⟩)
      | (go_at_call 59; refine k1.mono ?_; clear k1; rintro e w1 ⟨⟨v1, rfl⟩, hC⟩; have hB1 := HB.out.chg ho hg hC; obtain ⟨bc0, bc1, bf0, bf1⟩ := hB1.boxc)
      | fail)
    obtain ⟨r1, r2⟩ := hB1.ret (Tryz.tkV .inMethod) (Tryz.thV .no)
    exact bodyPost_ret (Tryz.ret_st rfl rfl r1) rfl ⟨rfl, r2⟩
  · rw [Bool.eq_false_iff.2 ht] at kt
    simp only [Wb.inMethod, if_neg ht]
    clear ht
    by_cases hc : c.toNat = 32
    · have q32 : ((c.toNat : Int) == 32) = true := by simp; omega
      by_cases h0 : 0 < m.word.length
      · have q0 : (0 : Int) < (m.word.length : Int) := by omega
        simp only [if_pos (show c.toNat = 32 ∧ 0 < m.word.length from ⟨hc, h0⟩)]
        clear hc h0
        generalize c.toNat = n at *
        go_enter Tryz.func79, Tryz.ntmps79
        go_upto_region 1 with (fail)
        generalize w.heap.size = g at *
        generalize w.alloc _ = W at *
        have hne := HB.out.ne
        obtain ⟨own6, ⟨aw, cw, ah, ch, ab, cb, hmw⟩, -, -⟩ := HB.out.ms
        have c6 := cell_of_row _ _ 6 _ _ _ hmw.blk
        simp only [Tryz.mc, List.getElem?_toArray, List.getElem?_cons_succ, List.getElem?_cons_zero] at c6
        have hcv := Tryz.conv_bs (Bs.ofRow hmw.word)
        clear hmw
        have c7 := HB.out.cell 7 _ fun _ _ _ => rfl
        have f7 := HB.out.frozen 7
        have hB0 := HB.out.set 7 (.string ⟨m.word.toArray⟩) { m with method := m.word } (fun _ _ _ => rfl) rfl rfl rfl
        obtain ⟨own', hm, ho, hg⟩ := hB0.ms
        have k1 := Tryz.part_any hm hat .inTarget 97
        go_wp2_with (first
          | (go_at_call 82; refine (kt _).mono ?_; rintro e w1 ⟨rfl, rfl⟩)
          | (go_at_call 87; refine k1.mono ?_; clear k1; rintro e w1 ⟨rfl, hC⟩; have hB1 := hB0.chg ho hg hC; obtain ⟨bc0, bc1, bf0, bf1⟩ := hB1.boxc)
          | fail)
        obtain ⟨r1, r2⟩ := hB1.ret (Tryz.tkV .inTarget) (Tryz.thV .no)
        exact bodyPost_ret (Tryz.ret_st rfl rfl r1) rfl ⟨rfl, r2⟩
      · have q0 : ¬ (0 : Int) < (m.word.length : Int) := by omega
        simp only [if_neg (show ¬ (c.toNat = 32 ∧ 0 < m.word.length) from fun e => h0 e.2)]
        clear hc h0
        generalize c.toNat = n at *
        go_enter Tryz.func79, Tryz.ntmps79
        go_upto_region 1 with (fail)
        generalize w.heap.size = g at *
        generalize w.alloc _ = W at *
        have hne := HB.out.ne
        obtain ⟨own6, ⟨aw, cw, ah, ch, ab, cb, hmw⟩, -, -⟩ := HB.out.ms
        have c6 := cell_of_row _ _ 6 _ _ _ hmw.blk
        simp only [Tryz.mc, List.getElem?_toArray, List.getElem?_cons_succ, List.getElem?_cons_zero] at c6
        clear hmw
        obtain ⟨own', hm, ho, hg⟩ := HB.out.ms
        have k1 := Tryz.refuse_any hm
        go_wp2_with (first
          | (go_at_call 82; refine (kt _).mono ?_; rintro e w1 ⟨rfl, rfl⟩)
          | (go_at_call 58; refine k1.mono ?_; clear k1; rintro e w1 ⟨rfl, hC⟩; have hB1 := HB.out.chg ho hg hC; obtain ⟨bc0, bc1, bf0, bf1⟩ := hB1.boxc)
          | fail)
        obtain ⟨r1, r2⟩ := hB1.ret .nilFunc .nilFunc
        exact bodyPost_ret (Tryz.ret_st rfl rfl r1) rfl ⟨rfl, r2⟩
    · have q32 : ((c.toNat : Int) == 32) = false := by simp; omega
      simp only [if_neg (show ¬ (c.toNat = 32 ∧ 0 < m.word.length) from fun e => hc e.1)]
      clear hc
      generalize c.toNat = n at *
      go_enter Tryz.func79, Tryz.ntmps79
      go_upto_region 1 with (fail)
      generalize w.heap.size = g at *
      generalize w.alloc _ = W at *
      have hne := HB.out.ne
      obtain ⟨own6, ⟨aw, cw, ah, ch, ab, cb, hmw⟩, -, -⟩ := HB.out.ms
      have c6 := cell_of_row _ _ 6 _ _ _ hmw.blk
      simp only [Tryz.mc, List.getElem?_toArray, List.getElem?_cons_succ, List.getElem?_cons_zero] at c6
      clear hmw
      obtain ⟨own', hm, ho, hg⟩ := HB.out.ms
      have k1 := Tryz.refuse_any hm
      go_wp2_with (first
        | (go_at_call 82; refine (kt _).mono ?_; rintro e w1 ⟨rfl, rfl⟩)
        | (go_at_call 58; refine k1.mono ?_; clear k1; rintro e w1 ⟨rfl, hC⟩; have hB1 := HB.out.chg ho hg hC; obtain ⟨bc0, bc1, bf0, bf1⟩ := hB1.boxc)
        | fail)
      obtain ⟨r1, r2⟩ := hB1.ret .nilFunc .nilFunc
      exact bodyPost_ret (Tryz.ret_st rfl rfl r1) rfl ⟨rfl, r2⟩
set_option maxRecDepth 20000 in
set_option maxHeartbeats 1000000 in
theorem Tryz.ahead_any {T : TypeId} {w : World} {own : Nat → Prop} {b : Nat} {m : Msg} (h : Tryz.Ms T w own b m) (c : UInt8) (hat : m.at_ ≤ 4611686018427387904) (hl : m.word.length ≤ 70368744177664) :
    Calls Tryz.prog 48 #[.pointer (some ⟨b, 0, none⟩), .int .u8 c.toNat] w fun e w' => e = .returned (Tryz.stV (Wb.ahead m c).1) ∧ Tryz.MChg T own w w' b (Wb.ahead m c).2 := by
  have HB : Hid _ := Tryz.Bx.start h
  by_cases hc : c.toNat = 13
  · have q13 : ((c.toNat : Int) == 13) = true := by simp; omega
    simp only [Wb.ahead, if_pos hc]
    clear hc
    generalize c.toNat = n at *
    go_enter Tryz.func48, Tryz.ntmps48
    go_upto_region 1 with (fail)
    generalize w.heap.size = g at *
    generalize w.alloc _ = W at *
    have hne := HB.out.ne
    obtain ⟨bc0, bc1, bf0, bf1⟩ := HB.out.boxc
    go_wp2_with (first
      | fail)
    obtain ⟨r1, r2⟩ := HB.out.ret (Tryz.tkV .lineFeed) (Tryz.thV .aheadAgain)
    exact bodyPost_ret (Tryz.ret_st rfl rfl r1) rfl ⟨rfl, r2⟩
  · have q13 : ((c.toNat : Int) == 13) = false := by simp; omega
    simp only [Wb.ahead, if_neg hc]
    clear hc
    obtain ⟨L, hL⟩ : ∃ L : Nat, m.at_ + 2048 = L := ⟨_, rfl⟩
    have w2 : IntKind.i64.wrap ((m.at_ : Int) + 2048) = (L : Int) := by rw [IntKind.wrap_i64]; omega
    have HKL : Hid ((L : Int) = (m.at_ : Int) + 2048) := (by show (L : Int) = (m.at_ : Int) + 2048; omega)
    generalize hm3 : ({ m with bound := (m.at_ : Int) + 2048 } : Msg) = m3
    have ha3 : m3.at_ ≤ 4611686018427387904 := by rw [← hm3]; exact hat
    have hl3 : m3.word.length ≤ 70368744177664 := by rw [← hm3]; exact hl
    have HM3 : Hid (({ m with bound := (m.at_ : Int) + 2048 } : Msg) = m3) := hm3
    clear hL hat hm3 hl
    have s1 := Tryz.stTk (Wb.inMethod m3 c).1.1 Tryz.prog
    have s2 := Tryz.stTh (Wb.inMethod m3 c).1.2 Tryz.prog
    go_enter Tryz.func48, Tryz.ntmps48
    go_upto_region 1 with (fail)
    generalize w.heap.size = g at *
    generalize w.alloc _ = W at *
    have hne := HB.out.ne
    have c3 := HB.out.cell 3 _ fun _ _ _ => rfl
    have c4 := HB.out.cell 4 _ fun _ _ _ => rfl
    have f4 := HB.out.frozen 4
    have hB3 : Tryz.Bx T own w (W.setCell ⟨b, 4, none⟩ (.int .i64 (L : Int))) b g m3 := HM3.out ▸ (HB.out.set 4 (.int .i64 (L : Int)) { m with bound := (m.at_ : Int) + 2048 } (fun _ _ _ => by rw [HKL.out]; rfl) rfl rfl rfl)
    obtain ⟨own', hm, ho, hg⟩ := hB3.ms
    have k1 := Tryz.inMethod_any hm c ha3 hl3
    simp only [Tryz.stV] at k1
    generalize c.toNat = n at *
    go_wp2_with (first
      | (go_at_call 79; refine k1.mono ?_; clear k1; rintro e w1 ⟨rfl, hC⟩; have hB1 := hB3.chg ho hg hC; obtain ⟨bc0, bc1, bf0, bf1⟩ := hB1.boxc)
      | fail)
    obtain ⟨r1, r2⟩ := hB1.ret (Tryz.tkV (Wb.inMethod m3 c).1.1) (Tryz.thV (Wb.inMethod m3 c).1.2)
    exact bodyPost_ret (Tryz.ret_st rfl rfl r1) rfl ⟨rfl, r2⟩
set_option maxRecDepth 20000 in
set_option maxHeartbeats 1000000 in
theorem Tryz.inName_any {T : TypeId} {w : World} {own : Nat → Prop} {b : Nat} {m : Msg} (h : Tryz.Ms T w own b m) (c : UInt8) (hat : m.at_ ≤ 4611686018427387904) (hl : m.word.length ≤ 70368744177664) :
    Calls Tryz.prog 140 #[.pointer (some ⟨b, 0, none⟩), .int .u8 c.toNat] w fun e w' => e = .returned (Tryz.stV (Wb.inName m c).1) ∧ Tryz.MChg T own w w' b (Wb.inName m c).2 := by
  have HB : Hid _ := Tryz.Bx.start h
  have kt := Tryz.isTokenByte_any c
  by_cases ht : tok c = true
  · rw [ht] at kt
    have kK := fun (W : World) (own : Nat → Prop) (hm : Tryz.Ms T W own b m) => Tryz.keep_any hm (sm c) hl
    have ks := Tryz.small_any c
    simp only [Wb.inName, if_pos ht]
    clear ht
    generalize (sm c).toNat = n2 at *
    generalize c.toNat = n at *
    go_enter Tryz.func140, Tryz.ntmps140
    go_upto_region 1 with (fail)
    generalize w.heap.size = g at *
    generalize w.alloc _ = W at *
    have hne := HB.out.ne
    obtain ⟨own', hm, ho, hg⟩ := HB.out.ms
    have k1 := kK W _ hm
    clear kK
    go_wp2_with (first
      | (go_at_call 82; refine (kt _).mono ?_; rintro e w1 ⟨rfl, rfl⟩)
      | (go_at_call 83; refine (ks _).mono ?_; rintro e w1 ⟨rfl, rfl⟩)
      | (go_at_call 59; refine k1.mono ?_; clear k1; rintro e w1 ⟨⟨v1, rfl⟩, hC⟩; have hB1 := HB.out.chg ho hg hC; obtain ⟨bc0, bc1, bf0, bf1⟩ := hB1.boxc)
      | fail)
    obtain ⟨r1, r2⟩ := hB1.ret (Tryz.tkV .inName) (Tryz.thV .no)
    exact bodyPost_ret (Tryz.ret_st rfl rfl r1) rfl ⟨rfl, r2⟩
  · rw [Bool.eq_false_iff.2 ht] at kt
    simp only [Wb.inName, if_neg ht]
    clear ht
    by_cases hc : c.toNat = 58
    · have q58 : ((c.toNat : Int) == 58) = true := by simp; omega
      by_cases h0 : m.frm < m.at_
      · have q0 : (m.frm : Int) < (m.at_ : Int) := by omega
        simp only [if_pos (show c.toNat = 58 ∧ m.frm < m.at_ from ⟨hc, h0⟩)]
        clear hc h0
        generalize c.toNat = n at *
        go_enter Tryz.func140, Tryz.ntmps140
        go_upto_region 1 with (fail)
        generalize w.heap.size = g at *
        generalize w.alloc _ = W at *
        have hne := HB.out.ne
        have c3 := HB.out.cell 3 _ fun _ _ _ => rfl
        have c5 := HB.out.cell 5 _ fun _ _ _ => rfl
        go_wp2_with (first
          | (go_at_call 82; refine (kt _).mono ?_; rintro e w1 ⟨rfl, rfl⟩)
          | fail)
        go_quiet (fail)
        have hB2 := HB.out.drewN nq
        obtain ⟨own6, ⟨aw, cw, ah, ch, ab, cb, hmw⟩, -, -⟩ := hB2.ms
        have c6 := cell_of_row _ _ 6 _ _ _ hmw.blk
        simp only [Tryz.mc, List.getElem?_toArray, List.getElem?_cons_succ, List.getElem?_cons_zero] at c6
        have hcv := Tryz.conv_bs (Bs.ofRow hmw.word)
        clear hmw
        have c12 := hB2.cell 12 _ fun _ _ _ => rfl
        have f12 := hB2.frozen 12
        have hB0 := hB2.set 12 (.string ⟨m.word.toArray⟩) { m with name := m.word } (fun _ _ _ => rfl) rfl rfl rfl
        obtain ⟨own', hm, ho, hg⟩ := hB0.ms
        have k1 := Tryz.part_any hm hat .inValue 142
        go_wp2_with (first
          | (go_at_call 87; refine k1.mono ?_; clear k1; rintro e w1 ⟨rfl, hC⟩; have hB1 := hB0.chg ho hg hC; obtain ⟨bc0, bc1, bf0, bf1⟩ := hB1.boxc)
          | fail)
        obtain ⟨r1, r2⟩ := hB1.ret (Tryz.tkV .inValue) (Tryz.thV .no)
        exact bodyPost_ret (Tryz.ret_st rfl rfl r1) rfl ⟨rfl, r2⟩
      · have q0 : ¬ (m.frm : Int) < (m.at_ : Int) := by omega
        simp only [if_neg (show ¬ (c.toNat = 58 ∧ m.frm < m.at_) from fun e => h0 e.2)]
        clear hc h0
        generalize c.toNat = n at *
        go_enter Tryz.func140, Tryz.ntmps140
        go_upto_region 1 with (fail)
        generalize w.heap.size = g at *
        generalize w.alloc _ = W at *
        have hne := HB.out.ne
        have c3 := HB.out.cell 3 _ fun _ _ _ => rfl
        have c5 := HB.out.cell 5 _ fun _ _ _ => rfl
        go_wp2_with (first
          | (go_at_call 82; refine (kt _).mono ?_; rintro e w1 ⟨rfl, rfl⟩)
          | fail)
        go_quiet (fail)
        have hB2 := HB.out.drewN nq
        obtain ⟨own', hm, ho, hg⟩ := hB2.ms
        have k1 := Tryz.refuse_any hm
        go_wp2_with (first
          | (go_at_call 58; refine k1.mono ?_; clear k1; rintro e w1 ⟨rfl, hC⟩; have hB1 := hB2.chg ho hg hC; obtain ⟨bc0, bc1, bf0, bf1⟩ := hB1.boxc)
          | fail)
        obtain ⟨r1, r2⟩ := hB1.ret .nilFunc .nilFunc
        exact bodyPost_ret (Tryz.ret_st rfl rfl r1) rfl ⟨rfl, r2⟩
    · have q58 : ((c.toNat : Int) == 58) = false := by simp; omega
      simp only [if_neg (show ¬ (c.toNat = 58 ∧ m.frm < m.at_) from fun e => hc e.1)]
      clear hc
      generalize c.toNat = n at *
      go_enter Tryz.func140, Tryz.ntmps140
      go_upto_region 1 with (fail)
      generalize w.heap.size = g at *
      generalize w.alloc _ = W at *
      have hne := HB.out.ne
      have c3 := HB.out.cell 3 _ fun _ _ _ => rfl
      have c5 := HB.out.cell 5 _ fun _ _ _ => rfl
      go_wp2_with (first
        | (go_at_call 82; refine (kt _).mono ?_; rintro e w1 ⟨rfl, rfl⟩)
        | fail)
      go_quiet (fail)
      have hB2 := HB.out.drewN nq
      obtain ⟨own', hm, ho, hg⟩ := hB2.ms
      have k1 := Tryz.refuse_any hm
      go_wp2_with (first
        | (go_at_call 58; refine k1.mono ?_; clear k1; rintro e w1 ⟨rfl, hC⟩; have hB1 := hB2.chg ho hg hC; obtain ⟨bc0, bc1, bf0, bf1⟩ := hB1.boxc)
        | fail)
      obtain ⟨r1, r2⟩ := hB1.ret .nilFunc .nilFunc
      exact bodyPost_ret (Tryz.ret_st rfl rfl r1) rfl ⟨rfl, r2⟩
set_option maxRecDepth 20000 in
set_option maxHeartbeats 1000000 in
theorem Tryz.atLine_any {T : TypeId} {w : World} {own : Nat → Prop} {b : Nat} {m : Msg} (h : Tryz.Ms T w own b m) (c : UInt8) (hat : m.at_ ≤ 4611686018427387904) (hl : m.word.length ≤ 70368744177664) (hli : m.lines ≤ 32) :
    Calls Tryz.prog 135 #[.pointer (some ⟨b, 0, none⟩), .int .u8 c.toNat] w fun e w' => e = .returned (Tryz.stV (Wb.atLine m c).1) ∧ Tryz.MChg T own w w' b (Wb.atLine m c).2 := by
  have HB : Hid _ := Tryz.Bx.start h
  by_cases hc : c.toNat = 13
  · have q13 : ((c.toNat : Int) == 13) = true := by simp; omega
    simp only [Wb.atLine, if_pos hc]
    clear hc
    generalize c.toNat = n at *
    go_enter Tryz.func135, Tryz.ntmps135
    go_upto_region 1 with (fail)
    generalize w.heap.size = g at *
    generalize w.alloc _ = W at *
    have hne := HB.out.ne
    obtain ⟨bc0, bc1, bf0, bf1⟩ := HB.out.boxc
    go_wp2_with (first
      | fail)
    obtain ⟨r1, r2⟩ := HB.out.ret (Tryz.tkV .lineFeed) (Tryz.thV .emptyLineEnds)
    exact bodyPost_ret (Tryz.ret_st rfl rfl r1) rfl ⟨rfl, r2⟩
  · have q13 : ((c.toNat : Int) == 13) = false := by simp; omega
    simp only [Wb.atLine, if_neg hc]
    clear hc
    by_cases h3 : m.lines = 32
    · have q3 : ((m.lines : Int) == 32) = true := by rw [h3]; rfl
      simp only [if_pos h3]
      clear h3
      generalize c.toNat = n at *
      go_enter Tryz.func135, Tryz.ntmps135
      go_upto_region 1 with (fail)
      generalize w.heap.size = g at *
      generalize w.alloc _ = W at *
      have hne := HB.out.ne
      obtain ⟨own', hm, ho, hg⟩ := HB.out.ms
      have c3 := HB.out.cell 3 _ fun _ _ _ => rfl
      have c11 := HB.out.cell 11 _ fun _ _ _ => rfl
      have k1 := Tryz.fail_any hm m.at_ 181
      simp only [Tryz.stV, Wb.fail, Tryz.tkV, Tryz.thV] at k1
      go_wp2_with (first
        | (go_at_call 60; refine k1.mono ?_; clear k1; rintro e w1 ⟨rfl, hC⟩; have hB1 := HB.out.chg ho hg hC; obtain ⟨bc0, bc1, bf0, bf1⟩ := hB1.boxc)
        | fail)
      obtain ⟨r1, r2⟩ := hB1.ret .nilFunc .nilFunc
      exact bodyPost_ret (Tryz.ret_st rfl rfl r1) rfl ⟨rfl, r2⟩
    · have q3 : ((m.lines : Int) == 32) = false := by simp; omega
      simp only [if_neg h3]
      clear h3
      have w2 : IntKind.i64.wrap ((m.lines : Int) + 1) = ((m.lines + 1 : Nat) : Int) := by rw [IntKind.wrap_i64]; omega
      generalize hm3 : ({ m with lines := m.lines + 1 } : Msg) = m3
      have ha3 : m3.at_ ≤ 4611686018427387904 := by rw [← hm3]; exact hat
      have hl3 : m3.word.length ≤ 70368744177664 := by rw [← hm3]; exact hl
      have HM3 : Hid (({ m with lines := m.lines + 1 } : Msg) = m3) := hm3
      clear hat hm3 hl
      have s1 := Tryz.stTk (Wb.inName m3 c).1.1 Tryz.prog
      have s2 := Tryz.stTh (Wb.inName m3 c).1.2 Tryz.prog
      go_enter Tryz.func135, Tryz.ntmps135
      go_upto_region 1 with (fail)
      generalize w.heap.size = g at *
      generalize w.alloc _ = W at *
      have hne := HB.out.ne
      have c11 := HB.out.cell 11 _ fun _ _ _ => rfl
      have f11 := HB.out.frozen 11
      have hB3 : Tryz.Bx T own w (W.setCell ⟨b, 11, none⟩ (.int .i64 ((m.lines : Int) + 1))) b g m3 := HM3.out ▸ (HB.out.set 11 (.int .i64 ((m.lines : Int) + 1)) { m with lines := m.lines + 1 } (fun _ _ _ => rfl) rfl rfl rfl)
      obtain ⟨own', hm, ho, hg⟩ := hB3.ms
      have k1 := Tryz.inName_any hm c ha3 hl3
      simp only [Tryz.stV] at k1
      generalize c.toNat = n at *
      go_wp2_with (first
        | (go_at_call 140; refine k1.mono ?_; clear k1; rintro e w1 ⟨rfl, hC⟩; have hB1 := hB3.chg ho hg hC; obtain ⟨bc0, bc1, bf0, bf1⟩ := hB1.boxc)
        | fail)
      obtain ⟨r1, r2⟩ := hB1.ret (Tryz.tkV (Wb.inName m3 c).1.1) (Tryz.thV (Wb.inName m3 c).1.2)
      exact bodyPost_ret (Tryz.ret_st rfl rfl r1) rfl ⟨rfl, r2⟩
end Go.Proofs
