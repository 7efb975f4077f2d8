/-
  State functions of a message (targets, versions).
-/
import Derived.Test.YtogimcdjllhkcaaGreatDoorXk
namespace Go.Proofs
open Go.RowKit Go.Wi Go.Wb
set_option maxRecDepth 20000 in
/-- A row of bytes as a text. -/
theorem Tryz.conv_bs {W : World} {ad : Option Addr} {n cap : Nat} {l : List UInt8} (h : Bs W (.slice ad n cap) l) : (convert 26 9 (.slice ad n cap)).run Tryz.prog W = .ok (.string ⟨l.toArray⟩) W := by
  obtain ⟨ad', cap', e, hc, hn, h1⟩ := h.ex
  injection e with e1 e2 e3
  subst e1 e2 e3
  rcases h1 with rfl | ⟨g, o, rfl, _, h2⟩
  · exact run_convert_bytes_zero (P := Tryz.prog) _ 26 5 Tryz.underlying26 Tryz.underlying5 ad cap 9 Tryz.underlying9
  · exact run_convert_bytes_back (P := Tryz.prog) W 26 9 5 ⟨g, o, none⟩ cap l Tryz.underlying26 Tryz.underlying5 Tryz.underlying9 (fun j hj => by
      rw [Addr.add_mid]
      exact h2 j _ (by simp [Lib.byteCells, hj]))
set_option maxRecDepth 20000 in
set_option maxHeartbeats 1000000 in
theorem Tryz.inTarget_any {T : TypeId} {w : World} {own : Nat → Prop} {b : Nat} {m : Msg} (h : Tryz.Ms T w own b m) (c : UInt8) (hat : m.at_ ≤ 4611686018427387904) (hl : m.word.length ≤ 70368744177664) :
    Calls Tryz.prog 88 #[.pointer (some ⟨b, 0, none⟩), .int .u8 c.toNat] w fun e w' => e = .returned (Tryz.stV (Wb.inTarget m c).1) ∧ Tryz.MChg T own w w' b (Wb.inTarget m c).2 := by
  have HB : Hid _ := Tryz.Bx.start h
  have kg := Tryz.isTargetByte_any c
  have kK := fun (W : World) (own : Nat → Prop) (hm : Tryz.Ms T W own b m) => Tryz.keep_any hm c hl
  by_cases h0 : m.word.length = 0
  · have q0 : ((m.word.length : Int) == 0) = true := by rw [h0]; rfl
    by_cases h47 : c.toNat = 47
    · have q47 : ((c.toNat : Int) != 47) = false := by simp; omega
      have q32 : ((c.toNat : Int) == 32) = false := by simp; omega
      have q512 : ((m.word.length : Int) == 512) = false := by rw [h0]; rfl
      have ht : tgt c = true := by simp [tgt, h47]
      rw [ht] at kg
      have z1 : ¬ (m.word.length = 0 ∧ c.toNat ≠ 47) := fun e => e.2 h47
      have z2 : ¬ c.toNat = 32 := by omega
      have z3 : ¬ tgt c = false := by rw [ht]; intro e; cases e
      have z4 : ¬ m.word.length = 512 := by omega
      simp only [Wb.inTarget, if_neg z1, if_neg z2, if_neg z3, if_neg z4]
      clear z1 z2 z3 z4 ht h47 h0
      have s1 := Tryz.stTk m.tk Tryz.prog
      have s2 := Tryz.stTh m.th Tryz.prog
      generalize c.toNat = n at *
      go_enter Tryz.func88, Tryz.ntmps88
      go_upto_region 1 with (fail)
      generalize w.heap.size = g at *
      generalize w.alloc _ = W at *
      have hne := HB.out.ne
      obtain ⟨own6, ⟨aw, cw, ah, ch, ab, cb, hmw⟩, -, -⟩ := HB.out.ms
      have c6 := cell_of_row _ _ 6 _ _ _ hmw.blk
      simp only [Tryz.mc, List.getElem?_toArray, List.getElem?_cons_succ, List.getElem?_cons_zero] at c6
      clear hmw
      obtain ⟨own', hm, ho, hg⟩ := HB.out.ms
      have k1 := kK W _ hm
      clear kK
      go_wp2_with (first
        | (go_at_call 45; refine (kg _).mono ?_; rintro e w1 ⟨rfl, rfl⟩)
        | (go_at_call 73; refine k1.mono ?_; clear k1; rintro e w1 ⟨⟨v1, rfl⟩, hC⟩; have hB1 := HB.out.chg ho hg hC; obtain ⟨bc0, bc1, bf0, bf1⟩ := hB1.boxc; have c0 := hB1.cell 0 (Tryz.tkV (Wb.keep m c).tk) (fun _ _ _ => rfl); have c1 := hB1.cell 1 (Tryz.thV (Wb.keep m c).th) (fun _ _ _ => rfl); rw [Wb.keep_tk] at c0; rw [Wb.keep_th] at c1)
        | fail)
      obtain ⟨r1, r2⟩ := hB1.ret (Tryz.tkV m.tk) (Tryz.thV m.th)
      exact bodyPost_ret (Tryz.ret_st rfl rfl r1) rfl ⟨rfl, r2⟩
    · have q47 : ((c.toNat : Int) != 47) = true := by simp; omega
      simp only [Wb.inTarget, if_pos (show m.word.length = 0 ∧ c.toNat ≠ 47 from ⟨h0, h47⟩)]
      clear h0 h47 kK
      generalize c.toNat = n at *
      go_enter Tryz.func88, Tryz.ntmps88
      go_upto_region 1 with (fail)
      generalize w.heap.size = g at *
      generalize w.alloc _ = W at *
      have hne := HB.out.ne
      obtain ⟨own6, ⟨aw, cw, ah, ch, ab, cb, hmw⟩, -, -⟩ := HB.out.ms
      have c6 := cell_of_row _ _ 6 _ _ _ hmw.blk
      simp only [Tryz.mc, List.getElem?_toArray, List.getElem?_cons_succ, List.getElem?_cons_zero] at c6
      clear hmw
      obtain ⟨own', hm, ho, hg⟩ := HB.out.ms
      have k1 := Tryz.refuse_any hm
      go_wp2_with (first
        | (go_at_call 72; refine k1.mono ?_; clear k1; rintro e w1 ⟨rfl, hC⟩; have hB1 := HB.out.chg ho hg hC; obtain ⟨bc0, bc1, bf0, bf1⟩ := hB1.boxc)
        | fail)
      obtain ⟨r1, r2⟩ := hB1.ret .nilFunc .nilFunc
      exact bodyPost_ret (Tryz.ret_st rfl rfl r1) rfl ⟨rfl, r2⟩
  · have q0 : ((m.word.length : Int) == 0) = false := by simpa using h0
    simp only [Wb.inTarget, if_neg (show ¬ (m.word.length = 0 ∧ c.toNat ≠ 47) from fun e => h0 e.1)]
    clear h0
    by_cases h32 : c.toNat = 32
    · have q32 : ((c.toNat : Int) == 32) = true := by simp; omega
      simp only [if_pos h32]
      clear h32 kK kg
      generalize c.toNat = n at *
      go_enter Tryz.func88, Tryz.ntmps88
      go_upto_region 1 with (fail)
      generalize w.heap.size = g at *
      generalize w.alloc _ = W at *
      have hne := HB.out.ne
      obtain ⟨own6, ⟨aw, cw, ah, ch, ab, cb, hmw⟩, -, -⟩ := HB.out.ms
      have c6 := cell_of_row _ _ 6 _ _ _ hmw.blk
      simp only [Tryz.mc, List.getElem?_toArray, List.getElem?_cons_succ, List.getElem?_cons_zero] at c6
      have hcv := Tryz.conv_bs (Bs.ofRow hmw.word)
      clear hmw
      have c8 := HB.out.cell 8 _ fun _ _ _ => rfl
      have f8 := HB.out.frozen 8
      have hB0 := HB.out.set 8 (.string ⟨m.word.toArray⟩) { m with target := m.word } (fun _ _ _ => rfl) rfl rfl rfl
      obtain ⟨own', hm, ho, hg⟩ := hB0.ms
      have k1 := Tryz.part_any hm hat .inVersion 56
      go_wp2_with (first
        | (go_at_call 87; refine k1.mono ?_; clear k1; rintro e w1 ⟨rfl, hC⟩; have hB1 := hB0.chg ho hg hC; have hB4 := hB1.below ((Below.refl _ w1).alloc (Nat.le_refl _) (.cells #[.func (.func 56) #[] #[], .func (.func 100) #[] #[]] 69)); obtain ⟨bc0, bc1, bf0, bf1⟩ := hB4.boxc)
        | fail)
      obtain ⟨r1, r2⟩ := hB4.ret (Tryz.tkV .inVersion) (Tryz.thV .requestLineEnds)
      exact bodyPost_ret (Tryz.ret_st rfl rfl r1) rfl ⟨rfl, r2⟩
    · have q32 : ((c.toNat : Int) == 32) = false := by simp; omega
      simp only [if_neg h32]
      clear h32
      by_cases ht : tgt c = true
      · rw [ht] at kg
        simp only [if_neg (show ¬ tgt c = false by rw [ht]; intro e; cases e)]
        clear ht
        by_cases h5 : m.word.length = 512
        · have q512 : ((m.word.length : Int) == 512) = true := by rw [h5]; rfl
          simp only [if_pos h5]
          clear h5 kK
          generalize c.toNat = n at *
          go_enter Tryz.func88, Tryz.ntmps88
          go_upto_region 1 with (fail)
          generalize w.heap.size = g at *
          generalize w.alloc _ = W at *
          have hne := HB.out.ne
          obtain ⟨own6, ⟨aw, cw, ah, ch, ab, cb, hmw⟩, -, -⟩ := HB.out.ms
          have c6 := cell_of_row _ _ 6 _ _ _ hmw.blk
          simp only [Tryz.mc, List.getElem?_toArray, List.getElem?_cons_succ, List.getElem?_cons_zero] at c6
          clear hmw
          obtain ⟨own', hm, ho, hg⟩ := HB.out.ms
          have c3 := HB.out.cell 3 _ fun _ _ _ => rfl
          have k1 := Tryz.fail_any hm m.at_ 181
          simp only [Tryz.stV, Wb.fail, Tryz.tkV, Tryz.thV] at k1
          go_wp2_with (first
            | (go_at_call 45; refine (kg _).mono ?_; rintro e w1 ⟨rfl, rfl⟩)
            | (go_at_call 71; refine k1.mono ?_; clear k1; rintro e w1 ⟨rfl, hC⟩; have hB1 := HB.out.chg ho hg hC; obtain ⟨bc0, bc1, bf0, bf1⟩ := hB1.boxc)
            | fail)
          obtain ⟨r1, r2⟩ := hB1.ret .nilFunc .nilFunc
          exact bodyPost_ret (Tryz.ret_st rfl rfl r1) rfl ⟨rfl, r2⟩
        · have q512 : ((m.word.length : Int) == 512) = false := by simp; omega
          simp only [if_neg h5]
          clear h5
          have s1 := Tryz.stTk m.tk Tryz.prog
          have s2 := Tryz.stTh m.th Tryz.prog
          generalize c.toNat = n at *
          go_enter Tryz.func88, Tryz.ntmps88
          go_upto_region 1 with (fail)
          generalize w.heap.size = g at *
          generalize w.alloc _ = W at *
          have hne := HB.out.ne
          obtain ⟨own6, ⟨aw, cw, ah, ch, ab, cb, hmw⟩, -, -⟩ := HB.out.ms
          have c6 := cell_of_row _ _ 6 _ _ _ hmw.blk
          simp only [Tryz.mc, List.getElem?_toArray, List.getElem?_cons_succ, List.getElem?_cons_zero] at c6
          clear hmw
          obtain ⟨own', hm, ho, hg⟩ := HB.out.ms
          have k1 := kK W _ hm
          clear kK
          go_wp2_with (first
            | (go_at_call 45; refine (kg _).mono ?_; rintro e w1 ⟨rfl, rfl⟩)
            | (go_at_call 73; refine k1.mono ?_; clear k1; rintro e w1 ⟨⟨v1, rfl⟩, hC⟩; have hB1 := HB.out.chg ho hg hC; obtain ⟨bc0, bc1, bf0, bf1⟩ := hB1.boxc; have c0 := hB1.cell 0 (Tryz.tkV (Wb.keep m c).tk) (fun _ _ _ => rfl); have c1 := hB1.cell 1 (Tryz.thV (Wb.keep m c).th) (fun _ _ _ => rfl); rw [Wb.keep_tk] at c0; rw [Wb.keep_th] at c1)
            | fail)
          obtain ⟨r1, r2⟩ := hB1.ret (Tryz.tkV m.tk) (Tryz.thV m.th)
          exact bodyPost_ret (Tryz.ret_st rfl rfl r1) rfl ⟨rfl, r2⟩
      · rw [Bool.eq_false_iff.2 ht] at kg
        simp only [if_pos (Bool.eq_false_iff.2 ht)]
        clear ht kK
        generalize c.toNat = n at *
        go_enter Tryz.func88, Tryz.ntmps88
        go_upto_region 1 with (fail)
        generalize w.heap.size = g at *
        generalize w.alloc _ = W at *
        have hne := HB.out.ne
        obtain ⟨own6, ⟨aw, cw, ah, ch, ab, cb, hmw⟩, -, -⟩ := HB.out.ms
        have c6 := cell_of_row _ _ 6 _ _ _ hmw.blk
        simp only [Tryz.mc, List.getElem?_toArray, List.getElem?_cons_succ, List.getElem?_cons_zero] at c6
        clear hmw
        obtain ⟨own', hm, ho, hg⟩ := HB.out.ms
        have k1 := Tryz.refuse_any hm
        go_wp2_with (first
          | (go_at_call 45; refine (kg _).mono ?_; rintro e w1 ⟨rfl, rfl⟩)
          | (go_at_call 72; refine k1.mono ?_; clear k1; rintro e w1 ⟨rfl, hC⟩; have hB1 := HB.out.chg ho hg hC; obtain ⟨bc0, bc1, bf0, bf1⟩ := hB1.boxc)
          | fail)
        obtain ⟨r1, r2⟩ := hB1.ret .nilFunc .nilFunc
        exact bodyPost_ret (Tryz.ret_st rfl rfl r1) rfl ⟨rfl, r2⟩
end Go.Proofs
