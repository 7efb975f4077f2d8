/-
  State functions of a message (size lines that end, statuses, values).
-/
import Derived.Test.YtogimcdjllhkcaaGreatDoorXj
namespace Go.Proofs
open Go.RowKit Go.Wi Go.Wb
set_option maxRecDepth 20000 in
set_option maxHeartbeats 1000000 in
theorem Tryz.sizeLineEnds_any {T : TypeId} {w : World} {own : Nat → Prop} {b : Nat} {m : Msg} (h : Tryz.Ms T w own b m) (hat : m.at_ ≤ 4611686018427387904) (hs : m.size ≤ 16000000015) (hl : m.body.length ≤ 4611686018427387904) :
    Calls Tryz.prog 133 #[.pointer (some ⟨b, 0, none⟩)] w fun e w' => e = .returned (Tryz.stV (Wb.sizeLineEnds m).1) ∧ Tryz.MChg T own w w' b (Wb.sizeLineEnds m).2 := by
  have HB : Hid _ := Tryz.Bx.start h
  have hwr : IntKind.i64.wrap ((m.size : Int) + (m.body.length : Int)) = ((m.size + m.body.length : Nat) : Int) := by rw [IntKind.wrap_i64]; omega
  by_cases h1 : m.most < m.size + m.body.length
  · have q1 : (m.most : Int) < ((m.size + m.body.length : Nat) : Int) := by omega
    simp only [Wb.sizeLineEnds, if_pos h1]
    clear h1
    go_enter Tryz.func133, Tryz.ntmps133
    go_upto_region 1 with (fail)
    generalize w.heap.size = g at *
    generalize w.alloc _ = W at *
    have hne := HB.out.ne
    have c16 := HB.out.cell 16 _ fun _ _ _ => rfl
    have c17 := HB.out.cell 17 _ fun _ _ _ => rfl
    obtain ⟨own6, ⟨aw, cw, ah, ch, ab, cb, hmw⟩, -, -⟩ := HB.out.ms
    have c19 := cell_of_row _ _ 19 _ _ _ hmw.blk
    simp only [Tryz.mc, List.getElem?_toArray, List.getElem?_cons_succ, List.getElem?_cons_zero] at c19
    clear hmw
    go_quiet (fail)
    have hB2 := HB.out.drewN nq
    obtain ⟨own', hm, ho, hg⟩ := hB2.ms
    have c5 := hB2.cell 5 _ fun _ _ _ => rfl
    have k1 := Tryz.fail_any hm m.frm 182
    simp only [Tryz.stV, Wb.fail, Tryz.tkV, Tryz.thV] at k1
    go_wp2_with (first
      | (go_at_call 71; refine k1.mono ?_; clear k1; rintro e w1 ⟨rfl, hC⟩; have hB1 := hB2.chg ho hg hC; obtain ⟨bc0, bc1, bf0, bf1⟩ := hB1.boxc)
      | fail)
    obtain ⟨r1, r2⟩ := hB1.ret .nilFunc .nilFunc
    exact bodyPost_ret (Tryz.ret_st rfl rfl r1) rfl ⟨rfl, r2⟩
  · have q1 : ¬ (m.most : Int) < ((m.size + m.body.length : Nat) : Int) := by omega
    simp only [Wb.sizeLineEnds, if_neg h1]
    clear h1
    by_cases h2 : m.size = 0
    · have q2 : ((m.size : Int) == 0) = true := by simp; omega
      simp only [if_pos h2]
      clear h2
      obtain ⟨K, hK⟩ : ∃ K : Nat, m.at_ + 1 = K := ⟨_, rfl⟩
      obtain ⟨L, hL⟩ : ∃ L : Nat, K + 2048 = L := ⟨_, rfl⟩
      have w1 : IntKind.i64.wrap ((m.at_ : Int) + 1) = (K : Int) := by rw [IntKind.wrap_i64]; omega
      have w2 : IntKind.i64.wrap ((K : Int) + 2048) = (L : Int) := by rw [IntKind.wrap_i64]; omega
      have HKL : Hid ((L : Int) = (m.at_ : Int) + 1 + 2048) := (by show (L : Int) = (m.at_ : Int) + 1 + 2048; omega)
      generalize hm3 : ({ m with trailers := true, lines := 0, bound := (m.at_ : Int) + 1 + 2048 } : Msg) = m3
      have ha3 : m3.at_ ≤ 4611686018427387904 := by rw [← hm3]; exact hat
      have HM3 : Hid (({ m with trailers := true, lines := 0, bound := (m.at_ : Int) + 1 + 2048 } : Msg) = m3) := hm3
      clear hK hL hat hm3
      go_enter Tryz.func133, Tryz.ntmps133
      go_upto_region 1 with (fail)
      generalize w.heap.size = g at *
      generalize w.alloc _ = W at *
      have hne := HB.out.ne
      have c16 := HB.out.cell 16 _ fun _ _ _ => rfl
      have c17 := HB.out.cell 17 _ fun _ _ _ => rfl
      obtain ⟨own6, ⟨aw, cw, ah, ch, ab, cb, hmw⟩, -, -⟩ := HB.out.ms
      have c19 := cell_of_row _ _ 19 _ _ _ hmw.blk
      simp only [Tryz.mc, List.getElem?_toArray, List.getElem?_cons_succ, List.getElem?_cons_zero] at c19
      clear hmw
      go_quiet (fail)
      have hB2 := HB.out.drewN nq
      have c3 := hB2.cell 3 _ fun _ _ _ => rfl
      have c4 := hB2.cell 4 _ fun _ _ _ => rfl
      have c11 := hB2.cell 11 _ fun _ _ _ => rfl
      have c14 := hB2.cell 14 _ fun _ _ _ => rfl
      have c17 := hB2.cell 17 _ fun _ _ _ => rfl
      have f4 := hB2.frozen 4
      have f11 := hB2.frozen 11
      have f14 := hB2.frozen 14
      have hB3 : Tryz.Bx T own w (((((W.drewN nq).setCell ⟨b, 14, none⟩ (.bool true)).setCell ⟨b, 11, none⟩ (.int .i64 0))).setCell ⟨b, 4, none⟩ (.int .i64 (L : Int))) b g m3 := HM3.out ▸ ((hB2.set 14 (.bool true) { m with trailers := true } (fun _ _ _ => rfl) rfl rfl rfl).set 11 (.int .i64 0) { m with trailers := true, lines := 0 } (fun _ _ _ => rfl) rfl rfl rfl).set 4 (.int .i64 (L : Int)) { m with trailers := true, lines := 0, bound := m.at_ + 1 + 2048 } (fun _ _ _ => by rw [HKL.out]; rfl) rfl rfl rfl
      obtain ⟨own', hm, ho, hg⟩ := hB3.ms
      have k1 := Tryz.headerLine_any hm ha3
      simp only [Tryz.stV, Wb.headerLine, Wb.part, Tryz.tkV, Tryz.thV] at k1
      go_wp2_with (first
        | (go_at_call 108; refine k1.mono ?_; clear k1; rintro e w1 ⟨rfl, hC⟩; have hB1 := hB3.chg ho hg hC; obtain ⟨bc0, bc1, bf0, bf1⟩ := hB1.boxc)
        | fail)
      obtain ⟨r1, r2⟩ := hB1.ret (Tryz.tkV .atLine) (Tryz.thV .no)
      exact bodyPost_ret (Tryz.ret_st rfl rfl r1) rfl ⟨rfl, r2⟩
    · have q2 : ((m.size : Int) == 0) = false := by simp; omega
      simp only [if_neg h2]
      clear h2
      go_enter Tryz.func133, Tryz.ntmps133
      go_upto_region 1 with (fail)
      generalize w.heap.size = g at *
      generalize w.alloc _ = W at *
      have hne := HB.out.ne
      have c16 := HB.out.cell 16 _ fun _ _ _ => rfl
      have c17 := HB.out.cell 17 _ fun _ _ _ => rfl
      obtain ⟨own6, ⟨aw, cw, ah, ch, ab, cb, hmw⟩, -, -⟩ := HB.out.ms
      have c19 := cell_of_row _ _ 19 _ _ _ hmw.blk
      simp only [Tryz.mc, List.getElem?_toArray, List.getElem?_cons_succ, List.getElem?_cons_zero] at c19
      clear hmw
      go_quiet (fail)
      have hB2 := HB.out.drewN nq
      have c17 := hB2.cell 17 _ fun _ _ _ => rfl
      have c18 := hB2.cell 18 _ fun _ _ _ => rfl
      have f18 := hB2.frozen 18
      obtain ⟨bc0, bc1, bf0, bf1⟩ := hB2.boxc
      go_wp2
      obtain ⟨r1, r2⟩ := (hB2.set 18 (.int .i64 m.size) { m with left := m.size } (fun _ _ _ => rfl) rfl rfl rfl).ret (Tryz.tkV .lineEnd) (Tryz.thV .sizeLine)
      exact bodyPost_ret (Tryz.ret_st rfl rfl r1) rfl ⟨rfl, r2⟩
set_option maxHeartbeats 1000000 in
theorem Tryz.inStatus_any {T : TypeId} {w : World} {own : Nat → Prop} {b : Nat} {m : Msg} (h : Tryz.Ms T w own b m) (c : UInt8) (hs : m.status ≤ 99) (hf : m.frm ≤ 4611686018427387904) :
    Calls Tryz.prog 89 #[.pointer (some ⟨b, 0, none⟩), .int .u8 c.toNat] w fun e w' => e = .returned (Tryz.stV (Wb.inStatus m c).1) ∧ Tryz.MChg T own w w' b (Wb.inStatus m c).2 := by
  have HB : Hid _ := Tryz.Bx.start h
  have kd := Tryz.isDigit_any c
  by_cases hd : dig c = true
  · have hd0 : ¬ dig c = false := by rw [hd]; intro e; cases e
    rw [hd] at kd
    obtain ⟨hd9, hd48⟩ := dig_sub hd
    simp only [Wb.inStatus, if_neg hd0]
    have hw2 : IntKind.i64.wrap ((m.frm : Int) + 2) = ((m.frm + 2 : Nat) : Int) := by rw [IntKind.wrap_i64]; omega
    have hn := toNat_lt c
    clear hd hd0
    generalize c.toNat = n at *
    obtain ⟨S, hS⟩ : ∃ S : Nat, m.status * 10 + (n - 48) = S := ⟨_, rfl⟩
    have e9 : (m.status : Int) * 10 + ((n : Int) - 48) = (S : Int) := by omega
    rw [hS]
    clear hS
    by_cases h1 : m.at_ < m.frm + 2
    · have q1 : (m.at_ : Int) < ((m.frm + 2 : Nat) : Int) := by omega
      simp only [if_pos h1]
      clear h1
      have s1 := Tryz.stTk m.tk Tryz.prog
      have s2 := Tryz.stTh m.th Tryz.prog
      go_enter Tryz.func89, Tryz.ntmps89
      go_upto_region 1 with (fail)
      generalize w.heap.size = g at *
      generalize w.alloc _ = W at *
      have hne := HB.out.ne
      have c0 := HB.out.cell 0 (Tryz.tkV m.tk) fun _ _ _ => rfl
      have c1 := HB.out.cell 1 (Tryz.thV m.th) fun _ _ _ => rfl
      have c3 := HB.out.cell 3 _ fun _ _ _ => rfl
      have c5 := HB.out.cell 5 _ fun _ _ _ => rfl
      have c9 := HB.out.cell 9 _ fun _ _ _ => rfl
      have f9 := HB.out.frozen 9
      have hB0 := HB.out.set 9 (.int .i64 (S : Int)) { m with status := S } (fun _ _ _ => rfl) rfl rfl rfl
      go_wp2_with (first
        | (go_at_call 58; refine (kd _).mono ?_; rintro e w1 ⟨rfl, rfl⟩)
        | fail)
      go_quiet (fail)
      have hB2 := hB0.drewN nq
      obtain ⟨bc0, bc1, bf0, bf1⟩ := hB2.boxc
      go_wp2
      obtain ⟨r1, r2⟩ := hB2.ret (Tryz.tkV m.tk) (Tryz.thV m.th)
      exact bodyPost_ret (Tryz.ret_st rfl rfl r1) rfl ⟨rfl, r2⟩
    · have q1 : ¬ (m.at_ : Int) < ((m.frm + 2 : Nat) : Int) := by omega
      simp only [if_neg h1]
      clear h1
      have kS := Tryz.isStatus_any (S : Int)
      by_cases h2 : 200 ≤ S ∧ S ≤ 599
      · rw [show (decide ((200 : Int) ≤ (S : Int)) && decide ((S : Int) ≤ 599)) = true by simp; omega] at kS
        simp only [if_pos h2]
        clear h2
        go_enter Tryz.func89, Tryz.ntmps89
        go_upto_region 1 with (fail)
        generalize w.heap.size = g at *
        generalize w.alloc _ = W at *
        have hne := HB.out.ne
        have c0 := HB.out.cell 0 (Tryz.tkV m.tk) fun _ _ _ => rfl
        have c1 := HB.out.cell 1 (Tryz.thV m.th) fun _ _ _ => rfl
        have c3 := HB.out.cell 3 _ fun _ _ _ => rfl
        have c5 := HB.out.cell 5 _ fun _ _ _ => rfl
        have c9 := HB.out.cell 9 _ fun _ _ _ => rfl
        have f9 := HB.out.frozen 9
        have hB0 := HB.out.set 9 (.int .i64 (S : Int)) { m with status := S } (fun _ _ _ => rfl) rfl rfl rfl
        go_wp2_with (first
          | (go_at_call 58; refine (kd _).mono ?_; rintro e w1 ⟨rfl, rfl⟩)
          | fail)
        go_quiet (fail)
        have hB2 := hB0.drewN nq
        obtain ⟨bc0, bc1, bf0, bf1⟩ := hB2.boxc
        go_wp2_with (first
          | (go_at_call 31; refine (kS _).mono ?_; rintro e w1 ⟨rfl, rfl⟩)
          | fail)
        obtain ⟨r1, r2⟩ := hB2.ret (Tryz.tkV .blankB) (Tryz.thV .no)
        exact bodyPost_ret (Tryz.ret_st rfl rfl r1) rfl ⟨rfl, r2⟩
      · rw [show (decide ((200 : Int) ≤ (S : Int)) && decide ((S : Int) ≤ 599)) = false by rw [Bool.eq_false_iff]; simp; omega] at kS
        simp only [if_neg h2]
        clear h2
        go_enter Tryz.func89, Tryz.ntmps89
        go_upto_region 1 with (fail)
        generalize w.heap.size = g at *
        generalize w.alloc _ = W at *
        have hne := HB.out.ne
        have c0 := HB.out.cell 0 (Tryz.tkV m.tk) fun _ _ _ => rfl
        have c1 := HB.out.cell 1 (Tryz.thV m.th) fun _ _ _ => rfl
        have c3 := HB.out.cell 3 _ fun _ _ _ => rfl
        have c5 := HB.out.cell 5 _ fun _ _ _ => rfl
        have c9 := HB.out.cell 9 _ fun _ _ _ => rfl
        have f9 := HB.out.frozen 9
        have hB0 := HB.out.set 9 (.int .i64 (S : Int)) { m with status := S } (fun _ _ _ => rfl) rfl rfl rfl
        go_wp2_with (first
          | (go_at_call 58; refine (kd _).mono ?_; rintro e w1 ⟨rfl, rfl⟩)
          | fail)
        go_quiet (fail)
        have hB2 := hB0.drewN nq
        obtain ⟨own', hm, ho, hg⟩ := hB2.ms
        have k1 := Tryz.fail_any hm m.frm 180
        simp only [Tryz.stV, Wb.fail, Tryz.tkV, Tryz.thV] at k1
        go_wp2_with (first
          | (go_at_call 31; refine (kS _).mono ?_; rintro e w1 ⟨rfl, rfl⟩)
          | (go_at_call 71; refine k1.mono ?_; clear k1; rintro e w1 ⟨rfl, hC⟩; have hB1 := hB2.chg ho hg hC; obtain ⟨bc0, bc1, bf0, bf1⟩ := hB1.boxc)
          | fail)
        obtain ⟨r1, r2⟩ := hB1.ret .nilFunc .nilFunc
        exact bodyPost_ret (Tryz.ret_st rfl rfl r1) rfl ⟨rfl, r2⟩
  · rw [Bool.eq_false_iff.2 hd] at kd
    simp only [Wb.inStatus, if_pos (Bool.eq_false_iff.2 hd)]
    clear hd
    generalize c.toNat = n at *
    go_enter Tryz.func89, Tryz.ntmps89
    go_upto_region 1 with (fail)
    generalize w.heap.size = g at *
    generalize w.alloc _ = W at *
    have hne := HB.out.ne
    obtain ⟨own', hm, ho, hg⟩ := HB.out.ms
    have k1 := Tryz.refuse_any hm
    go_wp2_with (first
      | (go_at_call 58; refine (kd _).mono ?_; rintro e w1 ⟨rfl, rfl⟩)
      | (go_at_call 72; refine k1.mono ?_; clear k1; rintro e w1 ⟨rfl, hC⟩; have hB1 := HB.out.chg ho hg hC; obtain ⟨bc0, bc1, bf0, bf1⟩ := hB1.boxc)
      | fail)
    obtain ⟨r1, r2⟩ := hB1.ret .nilFunc .nilFunc
    exact bodyPost_ret (Tryz.ret_st rfl rfl r1) rfl ⟨rfl, r2⟩
set_option maxHeartbeats 1000000 in
theorem Tryz.inValue_any {T : TypeId} {w : World} {own : Nat → Prop} {b : Nat} {m : Msg} (h : Tryz.Ms T w own b m) (c : UInt8) (hl : m.word.length ≤ 70368744177664) :
    Calls Tryz.prog 117 #[.pointer (some ⟨b, 0, none⟩), .int .u8 c.toNat] w fun e w' => e = .returned (Tryz.stV (Wb.inValue m c).1) ∧ Tryz.MChg T own w w' b (Wb.inValue m c).2 := by
  have HB : Hid _ := Tryz.Bx.start h
  have kt := Tryz.isTextByte_any c
  have kb := Tryz.isBlank_any c
  by_cases hc : c.toNat = 13
  · have q13 : ((c.toNat : Int) == 13) = true := by simp; omega
    simp only [Wb.inValue, if_pos hc]
    clear hc kt kb
    generalize c.toNat = n at *
    go_enter Tryz.func117, Tryz.ntmps117
    go_upto_region 1 with (fail)
    generalize w.heap.size = g at *
    generalize w.alloc _ = W at *
    have hne := HB.out.ne
    obtain ⟨bc0, bc1, bf0, bf1⟩ := HB.out.boxc
    go_wp2_with (first
      | fail)
    obtain ⟨r1, r2⟩ := HB.out.ret (Tryz.tkV .lineFeed) (Tryz.thV .headerEnds)
    exact bodyPost_ret (Tryz.ret_st rfl rfl r1) rfl ⟨rfl, r2⟩
  · have q13 : ((c.toNat : Int) == 13) = false := by simp; omega
    simp only [Wb.inValue, if_neg hc]
    clear hc
    have hemp : m.word.isEmpty = decide (m.word.length = 0) := by cases m.word <;> simp
    have kK := fun (W : World) (own : Nat → Prop) (hm : Tryz.Ms T W own b m) => Tryz.keep_any hm c hl
    by_cases hb : Wb.blank c = true
    · rw [hb] at kb
      by_cases h0 : m.word.length = 0
      · have q0 : ((m.word.length : Int) == 0) = true := by rw [h0]; rfl
        have e0 : (Wb.blank c && m.word.isEmpty) = true := by rw [hb, hemp, decide_eq_true h0]; rfl
        simp only [if_pos e0]
        clear e0 hb hemp h0 kK
        have s1 := Tryz.stTk m.tk Tryz.prog
        have s2 := Tryz.stTh m.th Tryz.prog
        generalize c.toNat = n at *
        go_enter Tryz.func117, Tryz.ntmps117
        go_upto_region 1 with (fail)
        generalize w.heap.size = g at *
        generalize w.alloc _ = W at *
        have hne := HB.out.ne
        obtain ⟨own6, ⟨aw, cw, ah, ch, ab, cb, hmw⟩, -, -⟩ := HB.out.ms
        have c6 := cell_of_row _ _ 6 _ _ _ hmw.blk
        simp only [Tryz.mc, List.getElem?_toArray, List.getElem?_cons_succ, List.getElem?_cons_zero] at c6
        clear hmw
        obtain ⟨bc0, bc1, bf0, bf1⟩ := HB.out.boxc
        have c0 := HB.out.cell 0 (Tryz.tkV m.tk) fun _ _ _ => rfl
        have c1 := HB.out.cell 1 (Tryz.thV m.th) fun _ _ _ => rfl
        go_wp2_with (first
          | (go_at_call 122; refine (kb _).mono ?_; rintro e w1 ⟨rfl, rfl⟩)
          | fail)
        obtain ⟨r1, r2⟩ := HB.out.ret (Tryz.tkV m.tk) (Tryz.thV m.th)
        exact bodyPost_ret (Tryz.ret_st rfl rfl r1) rfl ⟨rfl, r2⟩
      · have q0 : ((m.word.length : Int) == 0) = false := by simpa using h0
        have e0 : ¬ (Wb.blank c && m.word.isEmpty) = true := by rw [hb, hemp, decide_eq_false h0]; exact Bool.false_ne_true
        simp only [if_neg e0]
        clear e0 hb hemp h0
        by_cases ht : txt c = true
        · rw [ht] at kt
          simp only [if_pos ht]
          clear ht
          have s1 := Tryz.stTk m.tk Tryz.prog
          have s2 := Tryz.stTh m.th Tryz.prog
          generalize c.toNat = n at *
          go_enter Tryz.func117, Tryz.ntmps117
          go_upto_region 1 with (fail)
          generalize w.heap.size = g at *
          generalize w.alloc _ = W at *
          have hne := HB.out.ne
          obtain ⟨own6, ⟨aw, cw, ah, ch, ab, cb, hmw⟩, -, -⟩ := HB.out.ms
          have c6 := cell_of_row _ _ 6 _ _ _ hmw.blk
          simp only [Tryz.mc, List.getElem?_toArray, List.getElem?_cons_succ, List.getElem?_cons_zero] at c6
          clear hmw
          obtain ⟨own', hm, ho, hg⟩ := HB.out.ms
          have k1 := kK W _ hm
          clear kK
          go_wp2_with (first
            | (go_at_call 122; refine (kb _).mono ?_; rintro e w1 ⟨rfl, rfl⟩)
            | (go_at_call 63; refine (kt _).mono ?_; rintro e w1 ⟨rfl, rfl⟩)
            | (go_at_call 73; refine k1.mono ?_; clear k1; rintro e w1 ⟨⟨v1, rfl⟩, hC⟩; have hB1 := HB.out.chg ho hg hC; obtain ⟨bc0, bc1, bf0, bf1⟩ := hB1.boxc; have c0 := hB1.cell 0 (Tryz.tkV (Wb.keep m c).tk) (fun _ _ _ => rfl); have c1 := hB1.cell 1 (Tryz.thV (Wb.keep m c).th) (fun _ _ _ => rfl); rw [Wb.keep_tk] at c0; rw [Wb.keep_th] at c1)
            | fail)
          obtain ⟨r1, r2⟩ := hB1.ret (Tryz.tkV m.tk) (Tryz.thV m.th)
          exact bodyPost_ret (Tryz.ret_st rfl rfl r1) rfl ⟨rfl, r2⟩
        · rw [Bool.eq_false_iff.2 ht] at kt
          simp only [if_neg ht]
          clear ht kK
          generalize c.toNat = n at *
          go_enter Tryz.func117, Tryz.ntmps117
          go_upto_region 1 with (fail)
          generalize w.heap.size = g at *
          generalize w.alloc _ = W at *
          have hne := HB.out.ne
          obtain ⟨own6, ⟨aw, cw, ah, ch, ab, cb, hmw⟩, -, -⟩ := HB.out.ms
          have c6 := cell_of_row _ _ 6 _ _ _ hmw.blk
          simp only [Tryz.mc, List.getElem?_toArray, List.getElem?_cons_succ, List.getElem?_cons_zero] at c6
          clear hmw
          obtain ⟨own', hm, ho, hg⟩ := HB.out.ms
          have k1 := Tryz.refuse_any hm
          go_wp2_with (first
            | (go_at_call 122; refine (kb _).mono ?_; rintro e w1 ⟨rfl, rfl⟩)
            | (go_at_call 63; refine (kt _).mono ?_; rintro e w1 ⟨rfl, rfl⟩)
            | (go_at_call 72; refine k1.mono ?_; clear k1; rintro e w1 ⟨rfl, hC⟩; have hB1 := HB.out.chg ho hg hC; obtain ⟨bc0, bc1, bf0, bf1⟩ := hB1.boxc)
            | fail)
          obtain ⟨r1, r2⟩ := hB1.ret .nilFunc .nilFunc
          exact bodyPost_ret (Tryz.ret_st rfl rfl r1) rfl ⟨rfl, r2⟩
    · rw [Bool.eq_false_iff.2 hb] at kb
      have e0 : ¬ (Wb.blank c && m.word.isEmpty) = true := by rw [Bool.eq_false_iff.2 hb]; exact Bool.false_ne_true
      simp only [if_neg e0]
      clear e0 hb hemp
      by_cases ht : txt c = true
      · rw [ht] at kt
        simp only [if_pos ht]
        clear ht
        have s1 := Tryz.stTk m.tk Tryz.prog
        have s2 := Tryz.stTh m.th Tryz.prog
        generalize c.toNat = n at *
        go_enter Tryz.func117, Tryz.ntmps117
        go_upto_region 1 with (fail)
        generalize w.heap.size = g at *
        generalize w.alloc _ = W at *
        have hne := HB.out.ne
        obtain ⟨own6, ⟨aw, cw, ah, ch, ab, cb, hmw⟩, -, -⟩ := HB.out.ms
        have c6 := cell_of_row _ _ 6 _ _ _ hmw.blk
        simp only [Tryz.mc, List.getElem?_toArray, List.getElem?_cons_succ, List.getElem?_cons_zero] at c6
        clear hmw
        obtain ⟨own', hm, ho, hg⟩ := HB.out.ms
        have k1 := kK W _ hm
        clear kK
        go_wp2_with (first
          | (go_at_call 122; refine (kb _).mono ?_; rintro e w1 ⟨rfl, rfl⟩)
          | (go_at_call 63; refine (kt _).mono ?_; rintro e w1 ⟨rfl, rfl⟩)
          | (go_at_call 73; refine k1.mono ?_; clear k1; rintro e w1 ⟨⟨v1, rfl⟩, hC⟩; have hB1 := HB.out.chg ho hg hC; obtain ⟨bc0, bc1, bf0, bf1⟩ := hB1.boxc; have c0 := hB1.cell 0 (Tryz.tkV (Wb.keep m c).tk) (fun _ _ _ => rfl); have c1 := hB1.cell 1 (Tryz.thV (Wb.keep m c).th) (fun _ _ _ => rfl); rw [Wb.keep_tk] at c0; rw [Wb.keep_th] at c1)
          | fail)
        obtain ⟨r1, r2⟩ := hB1.ret (Tryz.tkV m.tk) (Tryz.thV m.th)
        exact bodyPost_ret (Tryz.ret_st rfl rfl r1) rfl ⟨rfl, r2⟩
      · rw [Bool.eq_false_iff.2 ht] at kt
        simp only [if_neg ht]
        clear ht kK
        generalize c.toNat = n at *
        go_enter Tryz.func117, Tryz.ntmps117
        go_upto_region 1 with (fail)
        generalize w.heap.size = g at *
        generalize w.alloc _ = W at *
        have hne := HB.out.ne
        obtain ⟨own6, ⟨aw, cw, ah, ch, ab, cb, hmw⟩, -, -⟩ := HB.out.ms
        have c6 := cell_of_row _ _ 6 _ _ _ hmw.blk
        simp only [Tryz.mc, List.getElem?_toArray, List.getElem?_cons_succ, List.getElem?_cons_zero] at c6
        clear hmw
        obtain ⟨own', hm, ho, hg⟩ := HB.out.ms
        have k1 := Tryz.refuse_any hm
        go_wp2_with (first
          | (go_at_call 122; refine (kb _).mono ?_; rintro e w1 ⟨rfl, rfl⟩)
          | (go_at_call 63; refine (kt _).mono ?_; rintro e w1 ⟨rfl, rfl⟩)
          | (go_at_call 72; refine k1.mono ?_; clear k1; rintro e w1 ⟨rfl, hC⟩; have hB1 := HB.out.chg ho hg hC; obtain ⟨bc0, bc1, bf0, bf1⟩ := hB1.boxc)
          | fail)
        obtain ⟨r1, r2⟩ := hB1.ret .nilFunc .nilFunc
        exact bodyPost_ret (Tryz.ret_st rfl rfl r1) rfl ⟨rfl, r2⟩
end Go.Proofs
