/-
  Laid together by packg.py of Xx.
-/
import Derived.Test.YtjiidkkmnlcpcaaGreatDoorPXw
import Derived.Test.YtjiidkkmnlcpcaaGreatDoorPXm
import Derived.Test.YtjiidkkmnlcpcaaGreatDoorPXo
import Derived.Test.YtjiidkkmnlcpcaaGreatDoorPXp
import Derived.Test.YtjiidkkmnlcpcaaGreatDoorPaX
namespace Go.Proofs
open Go.RowKit Go.Wi Go.Wb
set_option maxRecDepth 20000 in
set_option maxHeartbeats 1000000 in
theorem Tryz.lineFeed_any {T : TypeId} {w : World} {own : Nat → Prop} {b : Nat} {m : Msg} (h : Tryz.Ms T w own b m) (c : UInt8) (hG : Wb.Good m) (hat : m.at_ ≤ 4611686018427387904) (htk : m.tk = .lineFeed) :
    Calls Tryz.prog 77 #[.pointer (some ⟨b, 0, none⟩), .int .u8 c.toNat] w fun e w' => e = .returned (Tryz.stV (Wb.lineFeed m c).1) ∧ Tryz.MChg T own w w' b (Wb.lineFeed m c).2 := by
  have HB : Hid _ := Tryz.Bx.start h
  have hlw : m.word.length ≤ 70368744177664 := by have := hG.sz.word; omega
  have hhl : m.headers.length ≤ 4398046511000 := by have := hG.hl.le; omega
  have hhs : ∀ p ∈ m.headers, p.2.length ≤ 4000000000 := fun p hp => Nat.le_trans (hG.sz.heads p hp).2 (by omega)
  have hmo := hG.fit.ok.ok.most
  have hsz := hG.fit.ok.ok.size
  have hbl : m.body.length ≤ 4611686018427387904 := Nat.le_trans hG.fit.ok.ok.body hat
  have hfd := hG.fit.ok.feed (.inl htk)
  clear hG htk
  by_cases hc : c.toNat = 10
  · have q10 : ((c.toNat : Int) != 10) = false := by simp; omega
    simp only [Wb.lineFeed, if_pos hc]
    clear hc
    cases hth : m.th with
    | no => exact absurd hth hfd.1
    | requestLineEnds => exact absurd hth hfd.2.1
    | statusFollows => exact absurd hth hfd.2.2
    | aheadAgain =>
      rw [show Wb.thenDo .aheadAgain m = Wb.aheadAgain m from rfl]
      have kX := fun (W : World) (own : Nat → Prop) (hm : Tryz.Ms T W own b m) => Tryz.aheadAgain_any hm
      clear hfd hlw hhl hhs hmo hsz hbl hat
      have s1 := Tryz.stTk (Wb.aheadAgain m).1.1 Tryz.prog
      have s2 := Tryz.stTh (Wb.aheadAgain m).1.2 Tryz.prog
      have c1h := fun (W : World) (g : Nat) (hB : Tryz.Bx T own w W b g m) => hB.cell 1 (Tryz.thV m.th) fun _ _ _ => rfl
      rw [hth] at c1h
      simp only [Tryz.thV] at c1h
      clear hth
      generalize c.toNat = n at *
      go_enter Tryz.func77, Tryz.ntmps77
      go_upto_region 1 with (fail)
      generalize w.heap.size = g at *
      generalize w.alloc _ = W at *
      have hne := HB.out.ne
      have c1 := c1h W g HB.out
      clear c1h
      obtain ⟨own', hm, ho, hg⟩ := HB.out.ms
      have k1 := kX W _ hm
      clear kX hm
      simp only [Tryz.stV] at k1
      go_wp2_with (first
        | (go_at_call 78; refine k1.mono ?_; clear k1; rintro e w1 ⟨rfl, hC⟩; have hB1 := HB.out.chg ho hg hC; obtain ⟨bc0, bc1, bf0, bf1⟩ := hB1.boxc)
        | fail)
      obtain ⟨r1, r2⟩ := hB1.ret (Tryz.tkV (Wb.aheadAgain m).1.1) (Tryz.thV (Wb.aheadAgain m).1.2)
      exact bodyPost_ret (Tryz.ret_st rfl rfl r1) rfl ⟨rfl, r2⟩
    | headerLine =>
      rw [show Wb.thenDo .headerLine m = Wb.headerLine m from rfl]
      have kX := fun (W : World) (own : Nat → Prop) (hm : Tryz.Ms T W own b m) => Tryz.headerLine_any hm hat
      clear hfd hlw hhl hhs hmo hsz hbl hat
      have s1 := Tryz.stTk (Wb.headerLine m).1.1 Tryz.prog
      have s2 := Tryz.stTh (Wb.headerLine m).1.2 Tryz.prog
      have c1h := fun (W : World) (g : Nat) (hB : Tryz.Bx T own w W b g m) => hB.cell 1 (Tryz.thV m.th) fun _ _ _ => rfl
      rw [hth] at c1h
      simp only [Tryz.thV] at c1h
      clear hth
      generalize c.toNat = n at *
      go_enter Tryz.func77, Tryz.ntmps77
      go_upto_region 1 with (fail)
      generalize w.heap.size = g at *
      generalize w.alloc _ = W at *
      have hne := HB.out.ne
      have c1 := c1h W g HB.out
      clear c1h
      obtain ⟨own', hm, ho, hg⟩ := HB.out.ms
      have k1 := kX W _ hm
      clear kX hm
      simp only [Tryz.stV] at k1
      go_wp2_with (first
        | (go_at_call 128; refine k1.mono ?_; clear k1; rintro e w1 ⟨rfl, hC⟩; have hB1 := HB.out.chg ho hg hC; obtain ⟨bc0, bc1, bf0, bf1⟩ := hB1.boxc)
        | fail)
      obtain ⟨r1, r2⟩ := hB1.ret (Tryz.tkV (Wb.headerLine m).1.1) (Tryz.thV (Wb.headerLine m).1.2)
      exact bodyPost_ret (Tryz.ret_st rfl rfl r1) rfl ⟨rfl, r2⟩
    | headerEnds =>
      rw [show Wb.thenDo .headerEnds m = Wb.headerEnds m from rfl]
      have kX := fun (W : World) (own : Nat → Prop) (hm : Tryz.Ms T W own b m) => Tryz.headerEnds_any hm hat hlw hhl
      clear hfd hlw hhl hhs hmo hsz hbl hat
      have s1 := Tryz.stTk (Wb.headerEnds m).1.1 Tryz.prog
      have s2 := Tryz.stTh (Wb.headerEnds m).1.2 Tryz.prog
      have c1h := fun (W : World) (g : Nat) (hB : Tryz.Bx T own w W b g m) => hB.cell 1 (Tryz.thV m.th) fun _ _ _ => rfl
      rw [hth] at c1h
      simp only [Tryz.thV] at c1h
      clear hth
      generalize c.toNat = n at *
      go_enter Tryz.func77, Tryz.ntmps77
      go_upto_region 1 with (fail)
      generalize w.heap.size = g at *
      generalize w.alloc _ = W at *
      have hne := HB.out.ne
      have c1 := c1h W g HB.out
      clear c1h
      obtain ⟨own', hm, ho, hg⟩ := HB.out.ms
      have k1 := kX W _ hm
      clear kX hm
      simp only [Tryz.stV] at k1
      go_wp2_with (first
        | (go_at_call 146; refine k1.mono ?_; clear k1; rintro e w1 ⟨rfl, hC⟩; have hB1 := HB.out.chg ho hg hC; obtain ⟨bc0, bc1, bf0, bf1⟩ := hB1.boxc)
        | fail)
      obtain ⟨r1, r2⟩ := hB1.ret (Tryz.tkV (Wb.headerEnds m).1.1) (Tryz.thV (Wb.headerEnds m).1.2)
      exact bodyPost_ret (Tryz.ret_st rfl rfl r1) rfl ⟨rfl, r2⟩
    | emptyLineEnds =>
      rw [show Wb.thenDo .emptyLineEnds m = Wb.emptyLineEnds m from rfl]
      have kX := fun (W : World) (own : Nat → Prop) (hm : Tryz.Ms T W own b m) => Tryz.emptyLineEnds_any hm hat hhl hhs hmo
      clear hfd hlw hhl hhs hmo hsz hbl hat
      have s1 := Tryz.stTk (Wb.emptyLineEnds m).1.1 Tryz.prog
      have s2 := Tryz.stTh (Wb.emptyLineEnds m).1.2 Tryz.prog
      have c1h := fun (W : World) (g : Nat) (hB : Tryz.Bx T own w W b g m) => hB.cell 1 (Tryz.thV m.th) fun _ _ _ => rfl
      rw [hth] at c1h
      simp only [Tryz.thV] at c1h
      clear hth
      generalize c.toNat = n at *
      go_enter Tryz.func77, Tryz.ntmps77
      go_upto_region 1 with (fail)
      generalize w.heap.size = g at *
      generalize w.alloc _ = W at *
      have hne := HB.out.ne
      have c1 := c1h W g HB.out
      clear c1h
      obtain ⟨own', hm, ho, hg⟩ := HB.out.ms
      have k1 := kX W _ hm
      clear kX hm
      simp only [Tryz.stV] at k1
      go_wp2_with (first
        | (go_at_call 139; refine k1.mono ?_; clear k1; rintro e w1 ⟨rfl, hC⟩; have hB1 := HB.out.chg ho hg hC; obtain ⟨bc0, bc1, bf0, bf1⟩ := hB1.boxc)
        | fail)
      obtain ⟨r1, r2⟩ := hB1.ret (Tryz.tkV (Wb.emptyLineEnds m).1.1) (Tryz.thV (Wb.emptyLineEnds m).1.2)
      exact bodyPost_ret (Tryz.ret_st rfl rfl r1) rfl ⟨rfl, r2⟩
    | sizeLine =>
      rw [show Wb.thenDo .sizeLine m = Wb.sizeLine m from rfl]
      have kX := fun (W : World) (own : Nat → Prop) (hm : Tryz.Ms T W own b m) => Tryz.sizeLine_any hm hat
      clear hfd hlw hhl hhs hmo hsz hbl hat
      have s1 := Tryz.stTk (Wb.sizeLine m).1.1 Tryz.prog
      have s2 := Tryz.stTh (Wb.sizeLine m).1.2 Tryz.prog
      have c1h := fun (W : World) (g : Nat) (hB : Tryz.Bx T own w W b g m) => hB.cell 1 (Tryz.thV m.th) fun _ _ _ => rfl
      rw [hth] at c1h
      simp only [Tryz.thV] at c1h
      clear hth
      generalize c.toNat = n at *
      go_enter Tryz.func77, Tryz.ntmps77
      go_upto_region 1 with (fail)
      generalize w.heap.size = g at *
      generalize w.alloc _ = W at *
      have hne := HB.out.ne
      have c1 := c1h W g HB.out
      clear c1h
      obtain ⟨own', hm, ho, hg⟩ := HB.out.ms
      have k1 := kX W _ hm
      clear kX hm
      simp only [Tryz.stV] at k1
      go_wp2_with (first
        | (go_at_call 145; refine k1.mono ?_; clear k1; rintro e w1 ⟨rfl, hC⟩; have hB1 := HB.out.chg ho hg hC; obtain ⟨bc0, bc1, bf0, bf1⟩ := hB1.boxc)
        | fail)
      obtain ⟨r1, r2⟩ := hB1.ret (Tryz.tkV (Wb.sizeLine m).1.1) (Tryz.thV (Wb.sizeLine m).1.2)
      exact bodyPost_ret (Tryz.ret_st rfl rfl r1) rfl ⟨rfl, r2⟩
    | sizeLineEnds =>
      rw [show Wb.thenDo .sizeLineEnds m = Wb.sizeLineEnds m from rfl]
      have kX := fun (W : World) (own : Nat → Prop) (hm : Tryz.Ms T W own b m) => Tryz.sizeLineEnds_any hm hat hsz hbl
      clear hfd hlw hhl hhs hmo hsz hbl hat
      have s1 := Tryz.stTk (Wb.sizeLineEnds m).1.1 Tryz.prog
      have s2 := Tryz.stTh (Wb.sizeLineEnds m).1.2 Tryz.prog
      have c1h := fun (W : World) (g : Nat) (hB : Tryz.Bx T own w W b g m) => hB.cell 1 (Tryz.thV m.th) fun _ _ _ => rfl
      rw [hth] at c1h
      simp only [Tryz.thV] at c1h
      clear hth
      generalize c.toNat = n at *
      go_enter Tryz.func77, Tryz.ntmps77
      go_upto_region 1 with (fail)
      generalize w.heap.size = g at *
      generalize w.alloc _ = W at *
      have hne := HB.out.ne
      have c1 := c1h W g HB.out
      clear c1h
      obtain ⟨own', hm, ho, hg⟩ := HB.out.ms
      have k1 := kX W _ hm
      clear kX hm
      simp only [Tryz.stV] at k1
      go_wp2_with (first
        | (go_at_call 158; refine k1.mono ?_; clear k1; rintro e w1 ⟨rfl, hC⟩; have hB1 := HB.out.chg ho hg hC; obtain ⟨bc0, bc1, bf0, bf1⟩ := hB1.boxc)
        | fail)
      obtain ⟨r1, r2⟩ := hB1.ret (Tryz.tkV (Wb.sizeLineEnds m).1.1) (Tryz.thV (Wb.sizeLineEnds m).1.2)
      exact bodyPost_ret (Tryz.ret_st rfl rfl r1) rfl ⟨rfl, r2⟩
  · have q10 : ((c.toNat : Int) != 10) = true := by simp; omega
    simp only [Wb.lineFeed, if_neg hc]
    clear hc
    generalize c.toNat = n at *
    go_enter Tryz.func77, Tryz.ntmps77
    go_upto_region 1 with (fail)
    generalize w.heap.size = g at *
    generalize w.alloc _ = W at *
    have hne := HB.out.ne
    obtain ⟨own', hm, ho, hg⟩ := HB.out.ms
    have k1 := Tryz.refuse_any hm
    go_wp2_with (first
      | (go_at_call 58; refine k1.mono ?_; clear k1; rintro e w1 ⟨rfl, hC⟩; have hB1 := HB.out.chg ho hg hC; obtain ⟨bc0, bc1, bf0, bf1⟩ := hB1.boxc)
      | fail)
    obtain ⟨r1, r2⟩ := hB1.ret .nilFunc .nilFunc
    exact bodyPost_ret (Tryz.ret_st rfl rfl r1) rfl ⟨rfl, r2⟩
end Go.Proofs
