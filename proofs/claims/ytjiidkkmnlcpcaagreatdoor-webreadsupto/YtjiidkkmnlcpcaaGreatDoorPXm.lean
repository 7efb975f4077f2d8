/-
  Laid together by packg.py of Xm.
-/
import Derived.Test.YtjiidkkmnlcpcaaGreatDoorPaI
namespace Go.Proofs
open Go.RowKit Go.Wi Go.Wb
theorem Wb.keep_frm (m : Msg) (c : UInt8) : (Wb.keep m c).frm = m.frm := by unfold Wb.keep; split <;> rfl
theorem Wb.form_at {k : Nat} (hk : k < 8) (h : k < (⟨#[72, 84, 84, 80, 47, 48, 46, 48]⟩ : ByteArray).size) : (⟨#[72, 84, 84, 80, 47, 48, 46, 48]⟩ : ByteArray)[k]'h = [72, 84, 84, 80, 47, 48, 46, 48].getD k 0 := by
  match k, hk with
  | 0, _ => rfl
  | 1, _ => rfl
  | 2, _ => rfl
  | 3, _ => rfl
  | 4, _ => rfl
  | 5, _ => rfl
  | 6, _ => rfl
  | 7, _ => rfl
theorem Wb.ne_text {l k : List UInt8} (h : l ≠ k) : (l == k) = false := by simpa using h
theorem Wb.eq_text {l k : List UInt8} (h : l = k) : (l == k) = true := by simpa using h
set_option maxRecDepth 20000 in
set_option maxHeartbeats 1000000 in
theorem Tryz.inVersion_any {T : TypeId} {w : World} {own : Nat → Prop} {b : Nat} {m : Msg} (h : Tryz.Ms T w own b m) (c : UInt8) (_hat : m.at_ ≤ 4611686018427387904) (hw8 : m.word.length < 8) (hth : m.th = .requestLineEnds ∨ m.th = .statusFollows) :
    Calls Tryz.prog 43 #[.pointer (some ⟨b, 0, none⟩), .int .u8 c.toNat] w fun e w' => e = .returned (Tryz.stV (Wb.inVersion m c).1) ∧ Tryz.MChg T own w w' b (Wb.inVersion m c).2 := by
  have HB : Hid _ := Tryz.Bx.start h
  have kd := Tryz.isDigit_any c
  have kK := fun (W : World) (own : Nat → Prop) (hm : Tryz.Ms T W own b m) => Tryz.keep_any hm c (by omega)
  have hwant : ∀ (h : m.word.length < (⟨#[72, 84, 84, 80, 47, 48, 46, 48]⟩ : ByteArray).size), (⟨#[72, 84, 84, 80, 47, 48, 46, 48]⟩ : ByteArray)[m.word.length]'h = want m := fun h => by unfold want form; exact Wb.form_at hw8 h
  by_cases hcw : c = want m
  · have q1 : ((c.toNat : Int) != ((want m).toNat : Int)) = false := by rw [hcw]; simp
    simp only [Wb.inVersion, if_neg (show ¬ (c ≠ want m ∧ (want m ≠ 48 ∨ dig c = false)) from fun e => e.1 hcw)]
    clear hcw
    by_cases h8 : (Wb.keep m c).word.length < 8
    · have q8 : (((Wb.keep m c).word.length : Nat) : Int) < 8 := by omega
      simp only [if_pos h8]
      clear h8
      have s1 := Tryz.stTk m.tk Tryz.prog
      have s2 := Tryz.stTh m.th Tryz.prog
      go_enter Tryz.func43, Tryz.ntmps43
      go_upto_region 1 with (fail)
      generalize w.heap.size = g at *
      generalize w.alloc _ = W at *
      have hne := HB.out.ne
      obtain ⟨own6, ⟨aw, cw, ah, ch, ab, cb, hmw⟩, -, -⟩ := HB.out.ms
      have c6 := cell_of_row _ _ 6 _ _ _ hmw.blk
      simp only [Tryz.mc, List.getElem?_toArray, List.getElem?_cons_succ, List.getElem?_cons_zero] at c6
      clear hmw
      go_upto_region 2 with (fail)
      try simp only [hwant]
      clear hwant hw8
      generalize want m = V at *
      generalize V.toNat = v at *
      generalize c.toNat = n at *
      obtain ⟨own', hm, ho, hg⟩ := HB.out.ms
      have k1 := kK W _ hm
      clear kK hm
      go_wp2_with (first
        | (go_at_call 57; refine (kd _).mono ?_; rintro e w1 ⟨rfl, rfl⟩)
        | (go_at_call 59; refine k1.mono ?_; clear k1; rintro e w1 ⟨⟨v1, rfl⟩, hC⟩; have hB1 := HB.out.chg ho hg hC; clear hC; obtain ⟨bc0, bc1, bf0, bf1⟩ := hB1.boxc; have c0 := hB1.cell 0 (Tryz.tkV (Wb.keep m c).tk) (fun _ _ _ => rfl); have c1 := hB1.cell 1 (Tryz.thV (Wb.keep m c).th) (fun _ _ _ => rfl); rw [Wb.keep_tk] at c0; rw [Wb.keep_th] at c1; obtain ⟨own8, ⟨aw8, cw8, ah8, ch8, ab8, cb8, hmw8⟩, -, -⟩ := hB1.ms; have d6 := cell_of_row _ _ 6 _ _ _ hmw8.blk; simp only [Tryz.mc, List.getElem?_toArray, List.getElem?_cons_succ, List.getElem?_cons_zero] at d6; have hcv := Tryz.conv_bs (Bs.ofRow hmw8.word); clear hmw8; skip)
        | fail)
      obtain ⟨r1, r2⟩ := hB1.ret (Tryz.tkV m.tk) (Tryz.thV m.th)
      exact bodyPost_ret (Tryz.ret_st rfl rfl r1) rfl ⟨rfl, r2⟩
    · have q8 : ¬ (((Wb.keep m c).word.length : Nat) : Int) < 8 := by omega
      simp only [if_neg h8]
      clear h8
      by_cases hv : (Wb.keep m c).word ≠ wOlder ∧ (Wb.keep m c).word ≠ wNewer
      · have qo := Wb.ne_text hv.1
        have qn := Wb.ne_text hv.2
        simp only [if_pos hv]
        unfold wOlder at qo
        unfold wNewer at qn
        clear hv
        go_enter Tryz.func43, Tryz.ntmps43
        go_upto_region 1 with (fail)
        generalize w.heap.size = g at *
        generalize w.alloc _ = W at *
        have hne := HB.out.ne
        obtain ⟨own6, ⟨aw, cw, ah, ch, ab, cb, hmw⟩, -, -⟩ := HB.out.ms
        have c6 := cell_of_row _ _ 6 _ _ _ hmw.blk
        simp only [Tryz.mc, List.getElem?_toArray, List.getElem?_cons_succ, List.getElem?_cons_zero] at c6
        clear hmw
        go_upto_region 2 with (fail)
        try simp only [hwant]
        clear hwant hw8
        generalize want m = V at *
        generalize V.toNat = v at *
        generalize c.toNat = n at *
        obtain ⟨own', hm, ho, hg⟩ := HB.out.ms
        have k1 := kK W _ hm
        clear kK hm
        go_wp2_with (first
          | (go_at_call 57; refine (kd _).mono ?_; rintro e w1 ⟨rfl, rfl⟩)
          | (go_at_call 59; refine k1.mono ?_; clear k1; rintro e w1 ⟨⟨v1, rfl⟩, hC⟩; have hB1 := HB.out.chg ho hg hC; clear hC; obtain ⟨bc0, bc1, bf0, bf1⟩ := hB1.boxc; have c0 := hB1.cell 0 (Tryz.tkV (Wb.keep m c).tk) (fun _ _ _ => rfl); have c1 := hB1.cell 1 (Tryz.thV (Wb.keep m c).th) (fun _ _ _ => rfl); rw [Wb.keep_tk] at c0; rw [Wb.keep_th] at c1; obtain ⟨own8, ⟨aw8, cw8, ah8, ch8, ab8, cb8, hmw8⟩, -, -⟩ := hB1.ms; have d6 := cell_of_row _ _ 6 _ _ _ hmw8.blk; simp only [Tryz.mc, List.getElem?_toArray, List.getElem?_cons_succ, List.getElem?_cons_zero] at d6; have hcv := Tryz.conv_bs (Bs.ofRow hmw8.word); clear hmw8; obtain ⟨own9, hm9, ho9, hg9⟩ := hB1.ms; have c5 := hB1.cell 5 (.int .i64 ((Wb.keep m c).frm : Nat)) (fun _ _ _ => rfl); rw [Wb.keep_frm] at c5; have k2 := Tryz.fail_any hm9 m.frm 184; simp only [Tryz.stV, Wb.fail, Tryz.tkV, Tryz.thV] at k2)
          | (go_at_call 60; refine k2.mono ?_; clear k2; rintro e w2 ⟨rfl, hC⟩; have hB2 := hB1.chg ho9 hg9 hC; obtain ⟨bc0, bc1, bf0, bf1⟩ := hB2.boxc)
          | fail)
        obtain ⟨r1, r2⟩ := hB2.ret .nilFunc .nilFunc
        exact bodyPost_ret (Tryz.ret_st rfl rfl r1) rfl ⟨rfl, r2⟩
      · simp only [if_neg hv]
        by_cases hn : (Wb.keep m c).word = wNewer
        · have qn := Wb.eq_text hn
          have qo := Wb.ne_text (show (Wb.keep m c).word ≠ wOlder by rw [hn]; decide)
          rw [decide_eq_true hn]
          unfold wOlder at qo
          unfold wNewer at qn
          clear hv hn
          rcases hth with hth | hth
          · rw [show Wb.thenDo m.th { Wb.keep m c with newer := true } = Wb.requestLineEnds { Wb.keep m c with newer := true } by rw [hth]; rfl]
            go_enter Tryz.func43, Tryz.ntmps43
            go_upto_region 1 with (fail)
            generalize w.heap.size = g at *
            generalize w.alloc _ = W at *
            have hne := HB.out.ne
            obtain ⟨own6, ⟨aw, cw, ah, ch, ab, cb, hmw⟩, -, -⟩ := HB.out.ms
            have c6 := cell_of_row _ _ 6 _ _ _ hmw.blk
            simp only [Tryz.mc, List.getElem?_toArray, List.getElem?_cons_succ, List.getElem?_cons_zero] at c6
            clear hmw
            go_upto_region 2 with (fail)
            try simp only [hwant]
            clear hwant hw8
            generalize want m = V at *
            generalize V.toNat = v at *
            generalize c.toNat = n at *
            obtain ⟨own', hm, ho, hg⟩ := HB.out.ms
            have k1 := kK W _ hm
            clear kK hm
            go_wp2_with (first
              | (go_at_call 57; refine (kd _).mono ?_; rintro e w1 ⟨rfl, rfl⟩)
              | (go_at_call 59; refine k1.mono ?_; clear k1; rintro e w1 ⟨⟨v1, rfl⟩, hC⟩; have hB1 := HB.out.chg ho hg hC; clear hC; obtain ⟨bc0, bc1, bf0, bf1⟩ := hB1.boxc; have c0 := hB1.cell 0 (Tryz.tkV (Wb.keep m c).tk) (fun _ _ _ => rfl); have c1 := hB1.cell 1 (Tryz.thV (Wb.keep m c).th) (fun _ _ _ => rfl); rw [Wb.keep_tk] at c0; rw [Wb.keep_th] at c1; obtain ⟨own8, ⟨aw8, cw8, ah8, ch8, ab8, cb8, hmw8⟩, -, -⟩ := hB1.ms; have d6 := cell_of_row _ _ 6 _ _ _ hmw8.blk; simp only [Tryz.mc, List.getElem?_toArray, List.getElem?_cons_succ, List.getElem?_cons_zero] at d6; have hcv := Tryz.conv_bs (Bs.ofRow hmw8.word); clear hmw8; rw [hth] at c1; have c10 := hB1.cell 10 (.bool (Wb.keep m c).newer) (fun _ _ _ => rfl); have f10 := hB1.frozen 10; have hB5 := hB1.set 10 (.bool true) { Wb.keep m c with newer := true } (fun _ _ _ => rfl) rfl rfl rfl; obtain ⟨own9, hm9, ho9, hg9⟩ := hB5.ms; have k2 := Tryz.requestLineEnds_any hm9; simp only [Tryz.stV, Wb.requestLineEnds, Tryz.tkV, Tryz.thV] at k2; simp only [Tryz.thV] at c1)
              | (go_at_call 114; refine k2.mono ?_; clear k2; rintro e w2 ⟨rfl, hC⟩; have hB2 := hB5.chg ho9 hg9 hC; obtain ⟨bc0, bc1, bf0, bf1⟩ := hB2.boxc)
              | fail)
            obtain ⟨r1, r2⟩ := hB2.ret (Tryz.tkV .lineEnd) (Tryz.thV .headerLine)
            exact bodyPost_ret (Tryz.ret_st rfl rfl r1) rfl ⟨rfl, r2⟩
          · rw [show Wb.thenDo m.th { Wb.keep m c with newer := true } = Wb.statusFollows { Wb.keep m c with newer := true } by rw [hth]; rfl]
            go_enter Tryz.func43, Tryz.ntmps43
            go_upto_region 1 with (fail)
            generalize w.heap.size = g at *
            generalize w.alloc _ = W at *
            have hne := HB.out.ne
            obtain ⟨own6, ⟨aw, cw, ah, ch, ab, cb, hmw⟩, -, -⟩ := HB.out.ms
            have c6 := cell_of_row _ _ 6 _ _ _ hmw.blk
            simp only [Tryz.mc, List.getElem?_toArray, List.getElem?_cons_succ, List.getElem?_cons_zero] at c6
            clear hmw
            go_upto_region 2 with (fail)
            try simp only [hwant]
            clear hwant hw8
            generalize want m = V at *
            generalize V.toNat = v at *
            generalize c.toNat = n at *
            obtain ⟨own', hm, ho, hg⟩ := HB.out.ms
            have k1 := kK W _ hm
            clear kK hm
            go_wp2_with (first
              | (go_at_call 57; refine (kd _).mono ?_; rintro e w1 ⟨rfl, rfl⟩)
              | (go_at_call 59; refine k1.mono ?_; clear k1; rintro e w1 ⟨⟨v1, rfl⟩, hC⟩; have hB1 := HB.out.chg ho hg hC; clear hC; obtain ⟨bc0, bc1, bf0, bf1⟩ := hB1.boxc; have c0 := hB1.cell 0 (Tryz.tkV (Wb.keep m c).tk) (fun _ _ _ => rfl); have c1 := hB1.cell 1 (Tryz.thV (Wb.keep m c).th) (fun _ _ _ => rfl); rw [Wb.keep_tk] at c0; rw [Wb.keep_th] at c1; obtain ⟨own8, ⟨aw8, cw8, ah8, ch8, ab8, cb8, hmw8⟩, -, -⟩ := hB1.ms; have d6 := cell_of_row _ _ 6 _ _ _ hmw8.blk; simp only [Tryz.mc, List.getElem?_toArray, List.getElem?_cons_succ, List.getElem?_cons_zero] at d6; have hcv := Tryz.conv_bs (Bs.ofRow hmw8.word); clear hmw8; rw [hth] at c1; have c10 := hB1.cell 10 (.bool (Wb.keep m c).newer) (fun _ _ _ => rfl); have f10 := hB1.frozen 10; have hB5 := hB1.set 10 (.bool true) { Wb.keep m c with newer := true } (fun _ _ _ => rfl) rfl rfl rfl; obtain ⟨own9, hm9, ho9, hg9⟩ := hB5.ms; have k2 := Tryz.statusFollows_any hm9; simp only [Tryz.stV, Wb.statusFollows, Tryz.tkV, Tryz.thV] at k2; simp only [Tryz.thV] at c1)
              | (go_at_call 44; refine k2.mono ?_; clear k2; rintro e w2 ⟨rfl, hC⟩; have hB2 := hB5.chg ho9 hg9 hC; obtain ⟨bc0, bc1, bf0, bf1⟩ := hB2.boxc)
              | fail)
            obtain ⟨r1, r2⟩ := hB2.ret (Tryz.tkV .blankA) (Tryz.thV .no)
            exact bodyPost_ret (Tryz.ret_st rfl rfl r1) rfl ⟨rfl, r2⟩
        · have ho : (Wb.keep m c).word = wOlder := by by_cases e : (Wb.keep m c).word = wOlder; exact e; exact absurd ⟨e, hn⟩ hv
          have qo := Wb.eq_text ho
          have qn := Wb.ne_text hn
          rw [decide_eq_false hn]
          unfold wOlder at qo
          unfold wNewer at qn
          clear hv hn ho
          rcases hth with hth | hth
          · rw [show Wb.thenDo m.th { Wb.keep m c with newer := false } = Wb.requestLineEnds { Wb.keep m c with newer := false } by rw [hth]; rfl]
            go_enter Tryz.func43, Tryz.ntmps43
            go_upto_region 1 with (fail)
            generalize w.heap.size = g at *
            generalize w.alloc _ = W at *
            have hne := HB.out.ne
            obtain ⟨own6, ⟨aw, cw, ah, ch, ab, cb, hmw⟩, -, -⟩ := HB.out.ms
            have c6 := cell_of_row _ _ 6 _ _ _ hmw.blk
            simp only [Tryz.mc, List.getElem?_toArray, List.getElem?_cons_succ, List.getElem?_cons_zero] at c6
            clear hmw
            go_upto_region 2 with (fail)
            try simp only [hwant]
            clear hwant hw8
            generalize want m = V at *
            generalize V.toNat = v at *
            generalize c.toNat = n at *
            obtain ⟨own', hm, ho, hg⟩ := HB.out.ms
            have k1 := kK W _ hm
            clear kK hm
            go_wp2_with (first
              | (go_at_call 57; refine (kd _).mono ?_; rintro e w1 ⟨rfl, rfl⟩)
              | (go_at_call 59; refine k1.mono ?_; clear k1; rintro e w1 ⟨⟨v1, rfl⟩, hC⟩; have hB1 := HB.out.chg ho hg hC; clear hC; obtain ⟨bc0, bc1, bf0, bf1⟩ := hB1.boxc; have c0 := hB1.cell 0 (Tryz.tkV (Wb.keep m c).tk) (fun _ _ _ => rfl); have c1 := hB1.cell 1 (Tryz.thV (Wb.keep m c).th) (fun _ _ _ => rfl); rw [Wb.keep_tk] at c0; rw [Wb.keep_th] at c1; obtain ⟨own8, ⟨aw8, cw8, ah8, ch8, ab8, cb8, hmw8⟩, -, -⟩ := hB1.ms; have d6 := cell_of_row _ _ 6 _ _ _ hmw8.blk; simp only [Tryz.mc, List.getElem?_toArray, List.getElem?_cons_succ, List.getElem?_cons_zero] at d6; have hcv := Tryz.conv_bs (Bs.ofRow hmw8.word); clear hmw8; rw [hth] at c1; have c10 := hB1.cell 10 (.bool (Wb.keep m c).newer) (fun _ _ _ => rfl); have f10 := hB1.frozen 10; have hB5 := hB1.set 10 (.bool false) { Wb.keep m c with newer := false } (fun _ _ _ => rfl) rfl rfl rfl; obtain ⟨own9, hm9, ho9, hg9⟩ := hB5.ms; have k2 := Tryz.requestLineEnds_any hm9; simp only [Tryz.stV, Wb.requestLineEnds, Tryz.tkV, Tryz.thV] at k2; simp only [Tryz.thV] at c1)
              | (go_at_call 114; refine k2.mono ?_; clear k2; rintro e w2 ⟨rfl, hC⟩; have hB2 := hB5.chg ho9 hg9 hC; obtain ⟨bc0, bc1, bf0, bf1⟩ := hB2.boxc)
              | fail)
            obtain ⟨r1, r2⟩ := hB2.ret (Tryz.tkV .lineEnd) (Tryz.thV .headerLine)
            exact bodyPost_ret (Tryz.ret_st rfl rfl r1) rfl ⟨rfl, r2⟩
          · rw [show Wb.thenDo m.th { Wb.keep m c with newer := false } = Wb.statusFollows { Wb.keep m c with newer := false } by rw [hth]; rfl]
            go_enter Tryz.func43, Tryz.ntmps43
            go_upto_region 1 with (fail)
            generalize w.heap.size = g at *
            generalize w.alloc _ = W at *
            have hne := HB.out.ne
            obtain ⟨own6, ⟨aw, cw, ah, ch, ab, cb, hmw⟩, -, -⟩ := HB.out.ms
            have c6 := cell_of_row _ _ 6 _ _ _ hmw.blk
            simp only [Tryz.mc, List.getElem?_toArray, List.getElem?_cons_succ, List.getElem?_cons_zero] at c6
            clear hmw
            go_upto_region 2 with (fail)
            try simp only [hwant]
            clear hwant hw8
            generalize want m = V at *
            generalize V.toNat = v at *
            generalize c.toNat = n at *
            obtain ⟨own', hm, ho, hg⟩ := HB.out.ms
            have k1 := kK W _ hm
            clear kK hm
            go_wp2_with (first
              | (go_at_call 57; refine (kd _).mono ?_; rintro e w1 ⟨rfl, rfl⟩)
              | (go_at_call 59; refine k1.mono ?_; clear k1; rintro e w1 ⟨⟨v1, rfl⟩, hC⟩; have hB1 := HB.out.chg ho hg hC; clear hC; obtain ⟨bc0, bc1, bf0, bf1⟩ := hB1.boxc; have c0 := hB1.cell 0 (Tryz.tkV (Wb.keep m c).tk) (fun _ _ _ => rfl); have c1 := hB1.cell 1 (Tryz.thV (Wb.keep m c).th) (fun _ _ _ => rfl); rw [Wb.keep_tk] at c0; rw [Wb.keep_th] at c1; obtain ⟨own8, ⟨aw8, cw8, ah8, ch8, ab8, cb8, hmw8⟩, -, -⟩ := hB1.ms; have d6 := cell_of_row _ _ 6 _ _ _ hmw8.blk; simp only [Tryz.mc, List.getElem?_toArray, List.getElem?_cons_succ, List.getElem?_cons_zero] at d6; have hcv := Tryz.conv_bs (Bs.ofRow hmw8.word); clear hmw8; rw [hth] at c1; have c10 := hB1.cell 10 (.bool (Wb.keep m c).newer) (fun _ _ _ => rfl); have f10 := hB1.frozen 10; have hB5 := hB1.set 10 (.bool false) { Wb.keep m c with newer := false } (fun _ _ _ => rfl) rfl rfl rfl; obtain ⟨own9, hm9, ho9, hg9⟩ := hB5.ms; have k2 := Tryz.statusFollows_any hm9; simp only [Tryz.stV, Wb.statusFollows, Tryz.tkV, Tryz.thV] at k2; simp only [Tryz.thV] at c1)
              | (go_at_call 44; refine k2.mono ?_; clear k2; rintro e w2 ⟨rfl, hC⟩; have hB2 := hB5.chg ho9 hg9 hC; obtain ⟨bc0, bc1, bf0, bf1⟩ := hB2.boxc)
              | fail)
            obtain ⟨r1, r2⟩ := hB2.ret (Tryz.tkV .blankA) (Tryz.thV .no)
            exact bodyPost_ret (Tryz.ret_st rfl rfl r1) rfl ⟨rfl, r2⟩
  · have q1 : ((c.toNat : Int) != ((want m).toNat : Int)) = true := by simp only [bne_iff_ne, ne_eq, Int.natCast_inj, UInt8.toNat_inj]; exact hcw
    by_cases hw4 : want m = 48
    · have q2 : (((want m).toNat : Int) != 48) = false := by rw [hw4]; rfl
      by_cases hd : dig c = true
      · rw [hd] at kd
        simp only [Wb.inVersion, if_neg (show ¬ (c ≠ want m ∧ (want m ≠ 48 ∨ dig c = false)) from fun e => by rcases e.2 with e | e; exact e hw4; rw [hd] at e; cases e)]
        clear hcw hw4 hd
        by_cases h8 : (Wb.keep m c).word.length < 8
        · have q8 : (((Wb.keep m c).word.length : Nat) : Int) < 8 := by omega
          simp only [if_pos h8]
          clear h8
          have s1 := Tryz.stTk m.tk Tryz.prog
          have s2 := Tryz.stTh m.th Tryz.prog
          go_enter Tryz.func43, Tryz.ntmps43
          go_upto_region 1 with (fail)
          generalize w.heap.size = g at *
          generalize w.alloc _ = W at *
          have hne := HB.out.ne
          obtain ⟨own6, ⟨aw, cw, ah, ch, ab, cb, hmw⟩, -, -⟩ := HB.out.ms
          have c6 := cell_of_row _ _ 6 _ _ _ hmw.blk
          simp only [Tryz.mc, List.getElem?_toArray, List.getElem?_cons_succ, List.getElem?_cons_zero] at c6
          clear hmw
          go_upto_region 2 with (fail)
          try simp only [hwant]
          clear hwant hw8
          generalize want m = V at *
          generalize V.toNat = v at *
          generalize c.toNat = n at *
          obtain ⟨own', hm, ho, hg⟩ := HB.out.ms
          have k1 := kK W _ hm
          clear kK hm
          go_wp2_with (first
            | (go_at_call 57; refine (kd _).mono ?_; rintro e w1 ⟨rfl, rfl⟩)
            | (go_at_call 59; refine k1.mono ?_; clear k1; rintro e w1 ⟨⟨v1, rfl⟩, hC⟩; have hB1 := HB.out.chg ho hg hC; clear hC; obtain ⟨bc0, bc1, bf0, bf1⟩ := hB1.boxc; have c0 := hB1.cell 0 (Tryz.tkV (Wb.keep m c).tk) (fun _ _ _ => rfl); have c1 := hB1.cell 1 (Tryz.thV (Wb.keep m c).th) (fun _ _ _ => rfl); rw [Wb.keep_tk] at c0; rw [Wb.keep_th] at c1; obtain ⟨own8, ⟨aw8, cw8, ah8, ch8, ab8, cb8, hmw8⟩, -, -⟩ := hB1.ms; have d6 := cell_of_row _ _ 6 _ _ _ hmw8.blk; simp only [Tryz.mc, List.getElem?_toArray, List.getElem?_cons_succ, List.getElem?_cons_zero] at d6; have hcv := Tryz.conv_bs (Bs.ofRow hmw8.word); clear hmw8; skip)
            | fail)
          obtain ⟨r1, r2⟩ := hB1.ret (Tryz.tkV m.tk) (Tryz.thV m.th)
          exact bodyPost_ret (Tryz.ret_st rfl rfl r1) rfl ⟨rfl, r2⟩
        · have q8 : ¬ (((Wb.keep m c).word.length : Nat) : Int) < 8 := by omega
          simp only [if_neg h8]
          clear h8
          by_cases hv : (Wb.keep m c).word ≠ wOlder ∧ (Wb.keep m c).word ≠ wNewer
          · have qo := Wb.ne_text hv.1
            have qn := Wb.ne_text hv.2
            simp only [if_pos hv]
            unfold wOlder at qo
            unfold wNewer at qn
            clear hv
            go_enter Tryz.func43, Tryz.ntmps43
            go_upto_region 1 with (fail)
            generalize w.heap.size = g at *
            generalize w.alloc _ = W at *
            have hne := HB.out.ne
            obtain ⟨own6, ⟨aw, cw, ah, ch, ab, cb, hmw⟩, -, -⟩ := HB.out.ms
            have c6 := cell_of_row _ _ 6 _ _ _ hmw.blk
            simp only [Tryz.mc, List.getElem?_toArray, List.getElem?_cons_succ, List.getElem?_cons_zero] at c6
            clear hmw
            go_upto_region 2 with (fail)
            try simp only [hwant]
            clear hwant hw8
            generalize want m = V at *
            generalize V.toNat = v at *
            generalize c.toNat = n at *
            obtain ⟨own', hm, ho, hg⟩ := HB.out.ms
            have k1 := kK W _ hm
            clear kK hm
            go_wp2_with (first
              | (go_at_call 57; refine (kd _).mono ?_; rintro e w1 ⟨rfl, rfl⟩)
              | (go_at_call 59; refine k1.mono ?_; clear k1; rintro e w1 ⟨⟨v1, rfl⟩, hC⟩; have hB1 := HB.out.chg ho hg hC; clear hC; obtain ⟨bc0, bc1, bf0, bf1⟩ := hB1.boxc; have c0 := hB1.cell 0 (Tryz.tkV (Wb.keep m c).tk) (fun _ _ _ => rfl); have c1 := hB1.cell 1 (Tryz.thV (Wb.keep m c).th) (fun _ _ _ => rfl); rw [Wb.keep_tk] at c0; rw [Wb.keep_th] at c1; obtain ⟨own8, ⟨aw8, cw8, ah8, ch8, ab8, cb8, hmw8⟩, -, -⟩ := hB1.ms; have d6 := cell_of_row _ _ 6 _ _ _ hmw8.blk; simp only [Tryz.mc, List.getElem?_toArray, List.getElem?_cons_succ, List.getElem?_cons_zero] at d6; have hcv := Tryz.conv_bs (Bs.ofRow hmw8.word); clear hmw8; obtain ⟨own9, hm9, ho9, hg9⟩ := hB1.ms; have c5 := hB1.cell 5 (.int .i64 ((Wb.keep m c).frm : Nat)) (fun _ _ _ => rfl); rw [Wb.keep_frm] at c5; have k2 := Tryz.fail_any hm9 m.frm 184; simp only [Tryz.stV, Wb.fail, Tryz.tkV, Tryz.thV] at k2)
              | (go_at_call 60; refine k2.mono ?_; clear k2; rintro e w2 ⟨rfl, hC⟩; have hB2 := hB1.chg ho9 hg9 hC; obtain ⟨bc0, bc1, bf0, bf1⟩ := hB2.boxc)
              | fail)
            obtain ⟨r1, r2⟩ := hB2.ret .nilFunc .nilFunc
            exact bodyPost_ret (Tryz.ret_st rfl rfl r1) rfl ⟨rfl, r2⟩
          · simp only [if_neg hv]
            by_cases hn : (Wb.keep m c).word = wNewer
            · have qn := Wb.eq_text hn
              have qo := Wb.ne_text (show (Wb.keep m c).word ≠ wOlder by rw [hn]; decide)
              rw [decide_eq_true hn]
              unfold wOlder at qo
              unfold wNewer at qn
              clear hv hn
              rcases hth with hth | hth
              · rw [show Wb.thenDo m.th { Wb.keep m c with newer := true } = Wb.requestLineEnds { Wb.keep m c with newer := true } by rw [hth]; rfl]
                go_enter Tryz.func43, Tryz.ntmps43
                go_upto_region 1 with (fail)
                generalize w.heap.size = g at *
                generalize w.alloc _ = W at *
                have hne := HB.out.ne
                obtain ⟨own6, ⟨aw, cw, ah, ch, ab, cb, hmw⟩, -, -⟩ := HB.out.ms
                have c6 := cell_of_row _ _ 6 _ _ _ hmw.blk
                simp only [Tryz.mc, List.getElem?_toArray, List.getElem?_cons_succ, List.getElem?_cons_zero] at c6
                clear hmw
                go_upto_region 2 with (fail)
                try simp only [hwant]
                clear hwant hw8
                generalize want m = V at *
                generalize V.toNat = v at *
                generalize c.toNat = n at *
                obtain ⟨own', hm, ho, hg⟩ := HB.out.ms
                have k1 := kK W _ hm
                clear kK hm
                go_wp2_with (first
                  | (go_at_call 57; refine (kd _).mono ?_; rintro e w1 ⟨rfl, rfl⟩)
                  | (go_at_call 59; refine k1.mono ?_; clear k1; rintro e w1 ⟨⟨v1, rfl⟩, hC⟩; have hB1 := HB.out.chg ho hg hC; clear hC; obtain ⟨bc0, bc1, bf0, bf1⟩ := hB1.boxc; have c0 := hB1.cell 0 (Tryz.tkV (Wb.keep m c).tk) (fun _ _ _ => rfl); have c1 := hB1.cell 1 (Tryz.thV (Wb.keep m c).th) (fun _ _ _ => rfl); rw [Wb.keep_tk] at c0; rw [Wb.keep_th] at c1; obtain ⟨own8, ⟨aw8, cw8, ah8, ch8, ab8, cb8, hmw8⟩, -, -⟩ := hB1.ms; have d6 := cell_of_row _ _ 6 _ _ _ hmw8.blk; simp only [Tryz.mc, List.getElem?_toArray, List.getElem?_cons_succ, List.getElem?_cons_zero] at d6; have hcv := Tryz.conv_bs (Bs.ofRow hmw8.word); clear hmw8; rw [hth] at c1; have c10 := hB1.cell 10 (.bool (Wb.keep m c).newer) (fun _ _ _ => rfl); have f10 := hB1.frozen 10; have hB5 := hB1.set 10 (.bool true) { Wb.keep m c with newer := true } (fun _ _ _ => rfl) rfl rfl rfl; obtain ⟨own9, hm9, ho9, hg9⟩ := hB5.ms; have k2 := Tryz.requestLineEnds_any hm9; simp only [Tryz.stV, Wb.requestLineEnds, Tryz.tkV, Tryz.thV] at k2; simp only [Tryz.thV] at c1)
                  | (go_at_call 114; refine k2.mono ?_; clear k2; rintro e w2 ⟨rfl, hC⟩; have hB2 := hB5.chg ho9 hg9 hC; obtain ⟨bc0, bc1, bf0, bf1⟩ := hB2.boxc)
                  | fail)
                obtain ⟨r1, r2⟩ := hB2.ret (Tryz.tkV .lineEnd) (Tryz.thV .headerLine)
                exact bodyPost_ret (Tryz.ret_st rfl rfl r1) rfl ⟨rfl, r2⟩
              · rw [show Wb.thenDo m.th { Wb.keep m c with newer := true } = Wb.statusFollows { Wb.keep m c with newer := true } by rw [hth]; rfl]
                go_enter Tryz.func43, Tryz.ntmps43
                go_upto_region 1 with (fail)
                generalize w.heap.size = g at *
                generalize w.alloc _ = W at *
                have hne := HB.out.ne
                obtain ⟨own6, ⟨aw, cw, ah, ch, ab, cb, hmw⟩, -, -⟩ := HB.out.ms
                have c6 := cell_of_row _ _ 6 _ _ _ hmw.blk
                simp only [Tryz.mc, List.getElem?_toArray, List.getElem?_cons_succ, List.getElem?_cons_zero] at c6
                clear hmw
                go_upto_region 2 with (fail)
                try simp only [hwant]
                clear hwant hw8
                generalize want m = V at *
                generalize V.toNat = v at *
                generalize c.toNat = n at *
                obtain ⟨own', hm, ho, hg⟩ := HB.out.ms
                have k1 := kK W _ hm
                clear kK hm
                go_wp2_with (first
                  | (go_at_call 57; refine (kd _).mono ?_; rintro e w1 ⟨rfl, rfl⟩)
                  | (go_at_call 59; refine k1.mono ?_; clear k1; rintro e w1 ⟨⟨v1, rfl⟩, hC⟩; have hB1 := HB.out.chg ho hg hC; clear hC; obtain ⟨bc0, bc1, bf0, bf1⟩ := hB1.boxc; have c0 := hB1.cell 0 (Tryz.tkV (Wb.keep m c).tk) (fun _ _ _ => rfl); have c1 := hB1.cell 1 (Tryz.thV (Wb.keep m c).th) (fun _ _ _ => rfl); rw [Wb.keep_tk] at c0; rw [Wb.keep_th] at c1; obtain ⟨own8, ⟨aw8, cw8, ah8, ch8, ab8, cb8, hmw8⟩, -, -⟩ := hB1.ms; have d6 := cell_of_row _ _ 6 _ _ _ hmw8.blk; simp only [Tryz.mc, List.getElem?_toArray, List.getElem?_cons_succ, List.getElem?_cons_zero] at d6; have hcv := Tryz.conv_bs (Bs.ofRow hmw8.word); clear hmw8; rw [hth] at c1; have c10 := hB1.cell 10 (.bool (Wb.keep m c).newer) (fun _ _ _ => rfl); have f10 := hB1.frozen 10; have hB5 := hB1.set 10 (.bool true) { Wb.keep m c with newer := true } (fun _ _ _ => rfl) rfl rfl rfl; obtain ⟨own9, hm9, ho9, hg9⟩ := hB5.ms; have k2 := Tryz.statusFollows_any hm9; simp only [Tryz.stV, Wb.statusFollows, Tryz.tkV, Tryz.thV] at k2; simp only [Tryz.thV] at c1)
                  | (go_at_call 44; refine k2.mono ?_; clear k2; rintro e w2 ⟨rfl, hC⟩; have hB2 := hB5.chg ho9 hg9 hC; obtain ⟨bc0, bc1, bf0, bf1⟩ := hB2.boxc)
                  | fail)
                obtain ⟨r1, r2⟩ := hB2.ret (Tryz.tkV .blankA) (Tryz.thV .no)
                exact bodyPost_ret (Tryz.ret_st rfl rfl r1) rfl ⟨rfl, r2⟩
            · have ho : (Wb.keep m c).word = wOlder := by by_cases e : (Wb.keep m c).word = wOlder; exact e; exact absurd ⟨e, hn⟩ hv
              have qo := Wb.eq_text ho
              have qn := Wb.ne_text hn
              rw [decide_eq_false hn]
              unfold wOlder at qo
              unfold wNewer at qn
              clear hv hn ho
              rcases hth with hth | hth
              · rw [show Wb.thenDo m.th { Wb.keep m c with newer := false } = Wb.requestLineEnds { Wb.keep m c with newer := false } by rw [hth]; rfl]
                go_enter Tryz.func43, Tryz.ntmps43
                go_upto_region 1 with (fail)
                generalize w.heap.size = g at *
                generalize w.alloc _ = W at *
                have hne := HB.out.ne
                obtain ⟨own6, ⟨aw, cw, ah, ch, ab, cb, hmw⟩, -, -⟩ := HB.out.ms
                have c6 := cell_of_row _ _ 6 _ _ _ hmw.blk
                simp only [Tryz.mc, List.getElem?_toArray, List.getElem?_cons_succ, List.getElem?_cons_zero] at c6
                clear hmw
                go_upto_region 2 with (fail)
                try simp only [hwant]
                clear hwant hw8
                generalize want m = V at *
                generalize V.toNat = v at *
                generalize c.toNat = n at *
                obtain ⟨own', hm, ho, hg⟩ := HB.out.ms
                have k1 := kK W _ hm
                clear kK hm
                go_wp2_with (first
                  | (go_at_call 57; refine (kd _).mono ?_; rintro e w1 ⟨rfl, rfl⟩)
                  | (go_at_call 59; refine k1.mono ?_; clear k1; rintro e w1 ⟨⟨v1, rfl⟩, hC⟩; have hB1 := HB.out.chg ho hg hC; clear hC; obtain ⟨bc0, bc1, bf0, bf1⟩ := hB1.boxc; have c0 := hB1.cell 0 (Tryz.tkV (Wb.keep m c).tk) (fun _ _ _ => rfl); have c1 := hB1.cell 1 (Tryz.thV (Wb.keep m c).th) (fun _ _ _ => rfl); rw [Wb.keep_tk] at c0; rw [Wb.keep_th] at c1; obtain ⟨own8, ⟨aw8, cw8, ah8, ch8, ab8, cb8, hmw8⟩, -, -⟩ := hB1.ms; have d6 := cell_of_row _ _ 6 _ _ _ hmw8.blk; simp only [Tryz.mc, List.getElem?_toArray, List.getElem?_cons_succ, List.getElem?_cons_zero] at d6; have hcv := Tryz.conv_bs (Bs.ofRow hmw8.word); clear hmw8; rw [hth] at c1; have c10 := hB1.cell 10 (.bool (Wb.keep m c).newer) (fun _ _ _ => rfl); have f10 := hB1.frozen 10; have hB5 := hB1.set 10 (.bool false) { Wb.keep m c with newer := false } (fun _ _ _ => rfl) rfl rfl rfl; obtain ⟨own9, hm9, ho9, hg9⟩ := hB5.ms; have k2 := Tryz.requestLineEnds_any hm9; simp only [Tryz.stV, Wb.requestLineEnds, Tryz.tkV, Tryz.thV] at k2; simp only [Tryz.thV] at c1)
                  | (go_at_call 114; refine k2.mono ?_; clear k2; rintro e w2 ⟨rfl, hC⟩; have hB2 := hB5.chg ho9 hg9 hC; obtain ⟨bc0, bc1, bf0, bf1⟩ := hB2.boxc)
                  | fail)
                obtain ⟨r1, r2⟩ := hB2.ret (Tryz.tkV .lineEnd) (Tryz.thV .headerLine)
                exact bodyPost_ret (Tryz.ret_st rfl rfl r1) rfl ⟨rfl, r2⟩
              · rw [show Wb.thenDo m.th { Wb.keep m c with newer := false } = Wb.statusFollows { Wb.keep m c with newer := false } by rw [hth]; rfl]
                go_enter Tryz.func43, Tryz.ntmps43
                go_upto_region 1 with (fail)
                generalize w.heap.size = g at *
                generalize w.alloc _ = W at *
                have hne := HB.out.ne
                obtain ⟨own6, ⟨aw, cw, ah, ch, ab, cb, hmw⟩, -, -⟩ := HB.out.ms
                have c6 := cell_of_row _ _ 6 _ _ _ hmw.blk
                simp only [Tryz.mc, List.getElem?_toArray, List.getElem?_cons_succ, List.getElem?_cons_zero] at c6
                clear hmw
                go_upto_region 2 with (fail)
                try simp only [hwant]
                clear hwant hw8
                generalize want m = V at *
                generalize V.toNat = v at *
                generalize c.toNat = n at *
                obtain ⟨own', hm, ho, hg⟩ := HB.out.ms
                have k1 := kK W _ hm
                clear kK hm
                go_wp2_with (first
                  | (go_at_call 57; refine (kd _).mono ?_; rintro e w1 ⟨rfl, rfl⟩)
                  | (go_at_call 59; refine k1.mono ?_; clear k1; rintro e w1 ⟨⟨v1, rfl⟩, hC⟩; have hB1 := HB.out.chg ho hg hC; clear hC; obtain ⟨bc0, bc1, bf0, bf1⟩ := hB1.boxc; have c0 := hB1.cell 0 (Tryz.tkV (Wb.keep m c).tk) (fun _ _ _ => rfl); have c1 := hB1.cell 1 (Tryz.thV (Wb.keep m c).th) (fun _ _ _ => rfl); rw [Wb.keep_tk] at c0; rw [Wb.keep_th] at c1; obtain ⟨own8, ⟨aw8, cw8, ah8, ch8, ab8, cb8, hmw8⟩, -, -⟩ := hB1.ms; have d6 := cell_of_row _ _ 6 _ _ _ hmw8.blk; simp only [Tryz.mc, List.getElem?_toArray, List.getElem?_cons_succ, List.getElem?_cons_zero] at d6; have hcv := Tryz.conv_bs (Bs.ofRow hmw8.word); clear hmw8; rw [hth] at c1; have c10 := hB1.cell 10 (.bool (Wb.keep m c).newer) (fun _ _ _ => rfl); have f10 := hB1.frozen 10; have hB5 := hB1.set 10 (.bool false) { Wb.keep m c with newer := false } (fun _ _ _ => rfl) rfl rfl rfl; obtain ⟨own9, hm9, ho9, hg9⟩ := hB5.ms; have k2 := Tryz.statusFollows_any hm9; simp only [Tryz.stV, Wb.statusFollows, Tryz.tkV, Tryz.thV] at k2; simp only [Tryz.thV] at c1)
                  | (go_at_call 44; refine k2.mono ?_; clear k2; rintro e w2 ⟨rfl, hC⟩; have hB2 := hB5.chg ho9 hg9 hC; obtain ⟨bc0, bc1, bf0, bf1⟩ := hB2.boxc)
                  | fail)
                obtain ⟨r1, r2⟩ := hB2.ret (Tryz.tkV .blankA) (Tryz.thV .no)
                exact bodyPost_ret (Tryz.ret_st rfl rfl r1) rfl ⟨rfl, r2⟩
      · rw [Bool.eq_false_iff.2 hd] at kd
        simp only [Wb.inVersion, if_pos (show c ≠ want m ∧ (want m ≠ 48 ∨ dig c = false) from ⟨hcw, .inr (Bool.eq_false_iff.2 hd)⟩)]
        clear hcw hw4 hd kK
        go_enter Tryz.func43, Tryz.ntmps43
        go_upto_region 1 with (fail)
        generalize w.heap.size = g at *
        generalize w.alloc _ = W at *
        have hne := HB.out.ne
        obtain ⟨own6, ⟨aw, cw, ah, ch, ab, cb, hmw⟩, -, -⟩ := HB.out.ms
        have c6 := cell_of_row _ _ 6 _ _ _ hmw.blk
        simp only [Tryz.mc, List.getElem?_toArray, List.getElem?_cons_succ, List.getElem?_cons_zero] at c6
        clear hmw
        go_upto_region 2 with (fail)
        try simp only [hwant]
        clear hwant hw8
        generalize want m = V at *
        generalize V.toNat = v at *
        generalize c.toNat = n at *
        obtain ⟨own', hm, ho, hg⟩ := HB.out.ms
        have k1 := Tryz.refuse_any hm
        go_wp2_with (first
          | (go_at_call 57; refine (kd _).mono ?_; rintro e w1 ⟨rfl, rfl⟩)
          | (go_at_call 58; refine k1.mono ?_; clear k1; rintro e w1 ⟨rfl, hC⟩; have hB1 := HB.out.chg ho hg hC; obtain ⟨bc0, bc1, bf0, bf1⟩ := hB1.boxc)
          | fail)
        obtain ⟨r1, r2⟩ := hB1.ret .nilFunc .nilFunc
        exact bodyPost_ret (Tryz.ret_st rfl rfl r1) rfl ⟨rfl, r2⟩
    · have q2 : (((want m).toNat : Int) != 48) = true := by simp only [bne_iff_ne, ne_eq]; intro e; exact hw4 (UInt8.toNat_inj.1 (by show (want m).toNat = 48; omega))
      simp only [Wb.inVersion, if_pos (show c ≠ want m ∧ (want m ≠ 48 ∨ dig c = false) from ⟨hcw, .inl hw4⟩)]
      clear hcw hw4 kK
      go_enter Tryz.func43, Tryz.ntmps43
      go_upto_region 1 with (fail)
      generalize w.heap.size = g at *
      generalize w.alloc _ = W at *
      have hne := HB.out.ne
      obtain ⟨own6, ⟨aw, cw, ah, ch, ab, cb, hmw⟩, -, -⟩ := HB.out.ms
      have c6 := cell_of_row _ _ 6 _ _ _ hmw.blk
      simp only [Tryz.mc, List.getElem?_toArray, List.getElem?_cons_succ, List.getElem?_cons_zero] at c6
      clear hmw
      go_upto_region 2 with (fail)
      try simp only [hwant]
      clear hwant hw8
      generalize want m = V at *
      generalize V.toNat = v at *
      generalize c.toNat = n at *
      obtain ⟨own', hm, ho, hg⟩ := HB.out.ms
      have k1 := Tryz.refuse_any hm
      go_wp2_with (first
        | (go_at_call 57; refine (kd _).mono ?_; rintro e w1 ⟨rfl, rfl⟩)
        | (go_at_call 58; refine k1.mono ?_; clear k1; rintro e w1 ⟨rfl, hC⟩; have hB1 := HB.out.chg ho hg hC; obtain ⟨bc0, bc1, bf0, bf1⟩ := hB1.boxc)
        | fail)
      obtain ⟨r1, r2⟩ := hB1.ret .nilFunc .nilFunc
      exact bodyPost_ret (Tryz.ret_st rfl rfl r1) rfl ⟨rfl, r2⟩
end Go.Proofs
