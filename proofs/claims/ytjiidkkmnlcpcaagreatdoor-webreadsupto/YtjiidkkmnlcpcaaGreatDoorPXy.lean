/-
  Laid together by packg.py of Xy.
-/
import Derived.Test.YtjiidkkmnlcpcaaGreatDoorPXx
namespace Go.Proofs
open Go.RowKit Go.Wi Go.Wb
theorem Tryz.Ms.drewN {T : TypeId} {w : World} {own : Nat → Prop} {b : Nat} {m : Msg} (h : Tryz.Ms T w own b m) (n : Nat) : Tryz.Ms T (w.drewN n) own b m := h.below (belowN (Below.refl _ w) n)
theorem Tryz.MChg.open {T : TypeId} {own : Nat → Prop} {w w' : World} {b : Nat} {m : Msg} (h : Tryz.MChg T own w w' b m) : ∃ own', Tryz.Ms T w' own' b m ∧ (∀ k, own' k → own k ∨ w.heap.size ≤ k) ∧ w'.there b 0 22 ∧ w'.cell? ⟨b, 3, none⟩ = some (.int .i64 m.at_) := by
  obtain ⟨own', h1, h2⟩ := h.ex
  refine ⟨own', h1, h2, h1.there, ?_⟩
  obtain ⟨aw, cw, ah, ch, ab, cb, h3⟩ := h1.ex
  rw [cell_of_row _ _ 3 _ _ _ h3.blk]
  rfl
/-- The state that was answered, and the next place. -/
theorem Tryz.MChg.after {T : TypeId} {own : Nat → Prop} {w w' : World} {b : Nat} {o : Out} (h : Tryz.MChg T own w w' b o.2) : Tryz.MChg T own w (((w'.setCell ⟨b, 0, none⟩ (Tryz.tkV o.1.1)).setCell ⟨b, 1, none⟩ (Tryz.thV o.1.2)).setCell ⟨b, 3, none⟩ (.int .i64 ((o.2.at_ : Int) + 1))) b (Wb.after o) := by
  obtain ⟨own', h1, h2⟩ := h.ex
  have e : ((o.2.at_ : Int) + 1) = ((o.2.at_ + 1 : Nat) : Int) := by omega
  rw [e]
  have hob : own' b := by obtain ⟨aw, cw, ah, ch, ab, cb, h4⟩ := h1.ex; exact h4.ob
  have h3 := ((h1.set 0 (Tryz.tkV o.1.1) { o.2 with tk := o.1.1 } (fun _ _ _ => rfl) rfl rfl rfl).set 1 (Tryz.thV o.1.2) { o.2 with tk := o.1.1, th := o.1.2 } (fun _ _ _ => rfl) rfl rfl rfl).set 3 (.int .i64 ((o.2.at_ + 1 : Nat) : Int)) (Wb.after o) (fun _ _ _ => rfl) rfl rfl rfl
  exact ⟨⟨own', h3, h2⟩, ((h.wo.setCell b 0 _ (h2 b hob)).setCell b 1 _ (h2 b hob)).setCell b 3 _ (h2 b hob)⟩
theorem Wb.inS99 {m : Msg} (h : Ok m) (ht : m.tk = .inStatus) : m.status ≤ 99 := by
  obtain ⟨i1, i2⟩ := h.inS ht
  have i3 := h.ok.frm
  have : m.at_ - m.frm = 0 ∨ m.at_ - m.frm = 1 ∨ m.at_ - m.frm = 2 := by omega
  rcases this with e | e | e <;> rw [e] at i2 <;> omega
set_option maxRecDepth 20000 in
set_option maxHeartbeats 8000000 in
theorem Tryz.step_any {T : TypeId} {w : World} {own : Nat → Prop} {b : Nat} {m : Msg} (h : Tryz.Ms T w own b m) (c : UInt8) (hG : Wb.Good m) (hat : m.at_ ≤ 4611686018427387904) (hno : m.tk ≠ .no) :
    Calls Tryz.prog 46 #[.pointer (some ⟨b, 0, none⟩), .int .u8 c.toNat] w fun e w' => (∃ v, e = .returned v) ∧ Tryz.MChg T own w w' b (Wb.step m c) := by
  have hd := h.drewN
  obtain ⟨c0, c3, c4⟩ : w.cell? ⟨b, 0, none⟩ = some (Tryz.tkV m.tk) ∧ w.cell? ⟨b, 3, none⟩ = some (.int .i64 m.at_) ∧ w.cell? ⟨b, 4, none⟩ = some (.int .i64 m.bound) := by
    obtain ⟨aw, cw, ah, ch, ab, cb, hmw⟩ := h.ex
    exact ⟨(cell_of_row _ _ 0 _ _ _ hmw.blk).trans rfl, (cell_of_row _ _ 3 _ _ _ hmw.blk).trans rfl, (cell_of_row _ _ 4 _ _ _ hmw.blk).trans rfl⟩
  have hlw : m.word.length ≤ 70368744177664 := by have := hG.sz.word; omega
  have hmo := hG.fit.ok.ok.most
  have hfr : m.frm ≤ 4611686018427387904 := Nat.le_trans hG.fit.ok.ok.frm hat
  have hoa : ∀ t, (takeDo t m c).2.at_ ≤ 4611686018427387904 := fun t => by rcases at_takeDo m t c with e | e <;> omega
  clear h
  by_cases hb : (m.at_ : Int) = m.bound
  · have q : ((m.at_ : Int) == m.bound) = true := by simpa using hb
    rw [show Wb.step m c = (fail m m.at_ 181).2 by unfold Wb.step; rw [if_pos hb]]
    clear hb hoa hG hlw hmo hfr
    go_enter Tryz.func46, Tryz.ntmps46
    go_wp2
    go_quiet (fail)
    have k1 := Tryz.fail_any (hd nq) m.at_ 181
    go_wp2_with (first
      | (go_at_call 60; refine k1.mono ?_; clear k1; rintro e w1 ⟨rfl, hC⟩)
      | fail)
    exact bodyPost_ret (results_none rfl _ _ _) rfl ⟨⟨_, rfl⟩, Tryz.MChg.trans ((Wo.refl own w).drewN nq) (fun k e => .inl e) hC⟩
  · have q : ((m.at_ : Int) == m.bound) = false := by simpa using hb
    rw [show Wb.step m c = Wb.after (takeDo m.tk m c) by unfold Wb.step; rw [if_neg hb]; rfl]
    clear hb
    cases htk : m.tk with
    | no => exact absurd htk hno
    | ahead =>
      rw [show Wb.takeDo .ahead m c = Wb.ahead m c from rfl]
      have hoa2 : (Wb.ahead m c).2.at_ ≤ 4611686018427387904 := hoa .ahead
      have kX := fun (n : Nat) => Tryz.ahead_any (hd n) c hat hlw
      rw [htk] at c0
      simp only [Tryz.tkV] at c0
      clear htk hoa hG hlw hmo hfr hat hno hd
      have s1 := Tryz.stTk (Wb.ahead m c).1.1 Tryz.prog
      have s2 := Tryz.stTh (Wb.ahead m c).1.2 Tryz.prog
      generalize Wb.ahead m c = o at *
      go_enter Tryz.func46, Tryz.ntmps46
      go_wp2
      go_quiet (fail)
      have k1 := kX nq
      clear kX
      simp only [Tryz.stV] at k1
      go_wp2_with (first
        | (go_at_call 48; refine k1.mono ?_; clear k1; rintro e w1 ⟨rfl, hC⟩; obtain ⟨own1, hm1, ho1, hth1, d3⟩ := hC.open; have t0 := hth1 0 (by omega); have t1 := hth1 1 (by omega); have t3 := hth1 3 (by omega); obtain ⟨v0, e0⟩ := Option.isSome_iff_exists.1 t0.1; obtain ⟨v1, e1⟩ := Option.isSome_iff_exists.1 t1.1; have z0 := t0.2; have z1 := t1.2; have z3 := t3.2; have HC : Hid _ := hC.after; clear hC t0 t1 t3 hth1 hm1)
        | fail)
      go_end0
      exact ⟨⟨_, rfl⟩, Tryz.MChg.trans ((Wo.refl own w).drewN nq) (fun k e => .inl e) HC.out⟩
    | inMethod =>
      rw [show Wb.takeDo .inMethod m c = Wb.inMethod m c from rfl]
      have hoa2 : (Wb.inMethod m c).2.at_ ≤ 4611686018427387904 := hoa .inMethod
      have kX := fun (n : Nat) => Tryz.inMethod_any (hd n) c hat hlw
      rw [htk] at c0
      simp only [Tryz.tkV] at c0
      clear htk hoa hG hlw hmo hfr hat hno hd
      have s1 := Tryz.stTk (Wb.inMethod m c).1.1 Tryz.prog
      have s2 := Tryz.stTh (Wb.inMethod m c).1.2 Tryz.prog
      generalize Wb.inMethod m c = o at *
      go_enter Tryz.func46, Tryz.ntmps46
      go_wp2
      go_quiet (fail)
      have k1 := kX nq
      clear kX
      simp only [Tryz.stV] at k1
      go_wp2_with (first
        | (go_at_call 79; refine k1.mono ?_; clear k1; rintro e w1 ⟨rfl, hC⟩; obtain ⟨own1, hm1, ho1, hth1, d3⟩ := hC.open; have t0 := hth1 0 (by omega); have t1 := hth1 1 (by omega); have t3 := hth1 3 (by omega); obtain ⟨v0, e0⟩ := Option.isSome_iff_exists.1 t0.1; obtain ⟨v1, e1⟩ := Option.isSome_iff_exists.1 t1.1; have z0 := t0.2; have z1 := t1.2; have z3 := t3.2; have HC : Hid _ := hC.after; clear hC t0 t1 t3 hth1 hm1)
        | fail)
      go_end0
      exact ⟨⟨_, rfl⟩, Tryz.MChg.trans ((Wo.refl own w).drewN nq) (fun k e => .inl e) HC.out⟩
    | inTarget =>
      rw [show Wb.takeDo .inTarget m c = Wb.inTarget m c from rfl]
      have hoa2 : (Wb.inTarget m c).2.at_ ≤ 4611686018427387904 := hoa .inTarget
      have kX := fun (n : Nat) => Tryz.inTarget_any (hd n) c hat hlw
      rw [htk] at c0
      simp only [Tryz.tkV] at c0
      clear htk hoa hG hlw hmo hfr hat hno hd
      have s1 := Tryz.stTk (Wb.inTarget m c).1.1 Tryz.prog
      have s2 := Tryz.stTh (Wb.inTarget m c).1.2 Tryz.prog
      generalize Wb.inTarget m c = o at *
      go_enter Tryz.func46, Tryz.ntmps46
      go_wp2
      go_quiet (fail)
      have k1 := kX nq
      clear kX
      simp only [Tryz.stV] at k1
      go_wp2_with (first
        | (go_at_call 97; refine k1.mono ?_; clear k1; rintro e w1 ⟨rfl, hC⟩; obtain ⟨own1, hm1, ho1, hth1, d3⟩ := hC.open; have t0 := hth1 0 (by omega); have t1 := hth1 1 (by omega); have t3 := hth1 3 (by omega); obtain ⟨v0, e0⟩ := Option.isSome_iff_exists.1 t0.1; obtain ⟨v1, e1⟩ := Option.isSome_iff_exists.1 t1.1; have z0 := t0.2; have z1 := t1.2; have z3 := t3.2; have HC : Hid _ := hC.after; clear hC t0 t1 t3 hth1 hm1)
        | fail)
      go_end0
      exact ⟨⟨_, rfl⟩, Tryz.MChg.trans ((Wo.refl own w).drewN nq) (fun k e => .inl e) HC.out⟩
    | inVersion =>
      rw [show Wb.takeDo .inVersion m c = Wb.inVersion m c from rfl]
      have hoa2 : (Wb.inVersion m c).2.at_ ≤ 4611686018427387904 := hoa .inVersion
      have kX := fun (n : Nat) => Tryz.inVersion_any (hd n) c hat (hG.fit.ok.ver htk).1 (hG.fit.ok.ver htk).2
      rw [htk] at c0
      simp only [Tryz.tkV] at c0
      clear htk hoa hG hlw hmo hfr hat hno hd
      have s1 := Tryz.stTk (Wb.inVersion m c).1.1 Tryz.prog
      have s2 := Tryz.stTh (Wb.inVersion m c).1.2 Tryz.prog
      generalize Wb.inVersion m c = o at *
      go_enter Tryz.func46, Tryz.ntmps46
      go_wp2
      go_quiet (fail)
      have k1 := kX nq
      clear kX
      simp only [Tryz.stV] at k1
      go_wp2_with (first
        | (go_at_call 43; refine k1.mono ?_; clear k1; rintro e w1 ⟨rfl, hC⟩; obtain ⟨own1, hm1, ho1, hth1, d3⟩ := hC.open; have t0 := hth1 0 (by omega); have t1 := hth1 1 (by omega); have t3 := hth1 3 (by omega); obtain ⟨v0, e0⟩ := Option.isSome_iff_exists.1 t0.1; obtain ⟨v1, e1⟩ := Option.isSome_iff_exists.1 t1.1; have z0 := t0.2; have z1 := t1.2; have z3 := t3.2; have HC : Hid _ := hC.after; clear hC t0 t1 t3 hth1 hm1)
        | fail)
      go_end0
      exact ⟨⟨_, rfl⟩, Tryz.MChg.trans ((Wo.refl own w).drewN nq) (fun k e => .inl e) HC.out⟩
    | lineEnd =>
      rw [show Wb.takeDo .lineEnd m c = Wb.lineEnd m c from rfl]
      have hoa2 : (Wb.lineEnd m c).2.at_ ≤ 4611686018427387904 := hoa .lineEnd
      have kX := fun (n : Nat) => Tryz.lineEnd_any (hd n) c (hG.fit.ok.feed (.inr htk)).1
      rw [htk] at c0
      simp only [Tryz.tkV] at c0
      clear htk hoa hG hlw hmo hfr hat hno hd
      have s1 := Tryz.stTk (Wb.lineEnd m c).1.1 Tryz.prog
      have s2 := Tryz.stTh (Wb.lineEnd m c).1.2 Tryz.prog
      generalize Wb.lineEnd m c = o at *
      go_enter Tryz.func46, Tryz.ntmps46
      go_wp2
      go_quiet (fail)
      have k1 := kX nq
      clear kX
      simp only [Tryz.stV] at k1
      go_wp2_with (first
        | (go_at_call 127; refine k1.mono ?_; clear k1; rintro e w1 ⟨rfl, hC⟩; obtain ⟨own1, hm1, ho1, hth1, d3⟩ := hC.open; have t0 := hth1 0 (by omega); have t1 := hth1 1 (by omega); have t3 := hth1 3 (by omega); obtain ⟨v0, e0⟩ := Option.isSome_iff_exists.1 t0.1; obtain ⟨v1, e1⟩ := Option.isSome_iff_exists.1 t1.1; have z0 := t0.2; have z1 := t1.2; have z3 := t3.2; have HC : Hid _ := hC.after; clear hC t0 t1 t3 hth1 hm1)
        | fail)
      go_end0
      exact ⟨⟨_, rfl⟩, Tryz.MChg.trans ((Wo.refl own w).drewN nq) (fun k e => .inl e) HC.out⟩
    | lineFeed =>
      rw [show Wb.takeDo .lineFeed m c = Wb.lineFeed m c from rfl]
      have hoa2 : (Wb.lineFeed m c).2.at_ ≤ 4611686018427387904 := hoa .lineFeed
      have kX := fun (n : Nat) => Tryz.lineFeed_any (hd n) c hG hat htk
      rw [htk] at c0
      simp only [Tryz.tkV] at c0
      clear htk hoa hG hlw hmo hfr hat hno hd
      have s1 := Tryz.stTk (Wb.lineFeed m c).1.1 Tryz.prog
      have s2 := Tryz.stTh (Wb.lineFeed m c).1.2 Tryz.prog
      generalize Wb.lineFeed m c = o at *
      go_enter Tryz.func46, Tryz.ntmps46
      go_wp2
      go_quiet (fail)
      have k1 := kX nq
      clear kX
      simp only [Tryz.stV] at k1
      go_wp2_with (first
        | (go_at_call 77; refine k1.mono ?_; clear k1; rintro e w1 ⟨rfl, hC⟩; obtain ⟨own1, hm1, ho1, hth1, d3⟩ := hC.open; have t0 := hth1 0 (by omega); have t1 := hth1 1 (by omega); have t3 := hth1 3 (by omega); obtain ⟨v0, e0⟩ := Option.isSome_iff_exists.1 t0.1; obtain ⟨v1, e1⟩ := Option.isSome_iff_exists.1 t1.1; have z0 := t0.2; have z1 := t1.2; have z3 := t3.2; have HC : Hid _ := hC.after; clear hC t0 t1 t3 hth1 hm1)
        | fail)
      go_end0
      exact ⟨⟨_, rfl⟩, Tryz.MChg.trans ((Wo.refl own w).drewN nq) (fun k e => .inl e) HC.out⟩
    | atLine =>
      rw [show Wb.takeDo .atLine m c = Wb.atLine m c from rfl]
      have hoa2 : (Wb.atLine m c).2.at_ ≤ 4611686018427387904 := hoa .atLine
      have kX := fun (n : Nat) => Tryz.atLine_any (hd n) c hat hlw hG.fit.ok.ok.lines
      rw [htk] at c0
      simp only [Tryz.tkV] at c0
      clear htk hoa hG hlw hmo hfr hat hno hd
      have s1 := Tryz.stTk (Wb.atLine m c).1.1 Tryz.prog
      have s2 := Tryz.stTh (Wb.atLine m c).1.2 Tryz.prog
      generalize Wb.atLine m c = o at *
      go_enter Tryz.func46, Tryz.ntmps46
      go_wp2
      go_quiet (fail)
      have k1 := kX nq
      clear kX
      simp only [Tryz.stV] at k1
      go_wp2_with (first
        | (go_at_call 135; refine k1.mono ?_; clear k1; rintro e w1 ⟨rfl, hC⟩; obtain ⟨own1, hm1, ho1, hth1, d3⟩ := hC.open; have t0 := hth1 0 (by omega); have t1 := hth1 1 (by omega); have t3 := hth1 3 (by omega); obtain ⟨v0, e0⟩ := Option.isSome_iff_exists.1 t0.1; obtain ⟨v1, e1⟩ := Option.isSome_iff_exists.1 t1.1; have z0 := t0.2; have z1 := t1.2; have z3 := t3.2; have HC : Hid _ := hC.after; clear hC t0 t1 t3 hth1 hm1)
        | fail)
      go_end0
      exact ⟨⟨_, rfl⟩, Tryz.MChg.trans ((Wo.refl own w).drewN nq) (fun k e => .inl e) HC.out⟩
    | inName =>
      rw [show Wb.takeDo .inName m c = Wb.inName m c from rfl]
      have hoa2 : (Wb.inName m c).2.at_ ≤ 4611686018427387904 := hoa .inName
      have kX := fun (n : Nat) => Tryz.inName_any (hd n) c hat hlw
      rw [htk] at c0
      simp only [Tryz.tkV] at c0
      clear htk hoa hG hlw hmo hfr hat hno hd
      have s1 := Tryz.stTk (Wb.inName m c).1.1 Tryz.prog
      have s2 := Tryz.stTh (Wb.inName m c).1.2 Tryz.prog
      generalize Wb.inName m c = o at *
      go_enter Tryz.func46, Tryz.ntmps46
      go_wp2
      go_quiet (fail)
      have k1 := kX nq
      clear kX
      simp only [Tryz.stV] at k1
      go_wp2_with (first
        | (go_at_call 140; refine k1.mono ?_; clear k1; rintro e w1 ⟨rfl, hC⟩; obtain ⟨own1, hm1, ho1, hth1, d3⟩ := hC.open; have t0 := hth1 0 (by omega); have t1 := hth1 1 (by omega); have t3 := hth1 3 (by omega); obtain ⟨v0, e0⟩ := Option.isSome_iff_exists.1 t0.1; obtain ⟨v1, e1⟩ := Option.isSome_iff_exists.1 t1.1; have z0 := t0.2; have z1 := t1.2; have z3 := t3.2; have HC : Hid _ := hC.after; clear hC t0 t1 t3 hth1 hm1)
        | fail)
      go_end0
      exact ⟨⟨_, rfl⟩, Tryz.MChg.trans ((Wo.refl own w).drewN nq) (fun k e => .inl e) HC.out⟩
    | inValue =>
      rw [show Wb.takeDo .inValue m c = Wb.inValue m c from rfl]
      have hoa2 : (Wb.inValue m c).2.at_ ≤ 4611686018427387904 := hoa .inValue
      have kX := fun (n : Nat) => Tryz.inValue_any (hd n) c hlw
      rw [htk] at c0
      simp only [Tryz.tkV] at c0
      clear htk hoa hG hlw hmo hfr hat hno hd
      have s1 := Tryz.stTk (Wb.inValue m c).1.1 Tryz.prog
      have s2 := Tryz.stTh (Wb.inValue m c).1.2 Tryz.prog
      generalize Wb.inValue m c = o at *
      go_enter Tryz.func46, Tryz.ntmps46
      go_wp2
      go_quiet (fail)
      have k1 := kX nq
      clear kX
      simp only [Tryz.stV] at k1
      go_wp2_with (first
        | (go_at_call 142; refine k1.mono ?_; clear k1; rintro e w1 ⟨rfl, hC⟩; obtain ⟨own1, hm1, ho1, hth1, d3⟩ := hC.open; have t0 := hth1 0 (by omega); have t1 := hth1 1 (by omega); have t3 := hth1 3 (by omega); obtain ⟨v0, e0⟩ := Option.isSome_iff_exists.1 t0.1; obtain ⟨v1, e1⟩ := Option.isSome_iff_exists.1 t1.1; have z0 := t0.2; have z1 := t1.2; have z3 := t3.2; have HC : Hid _ := hC.after; clear hC t0 t1 t3 hth1 hm1)
        | fail)
      go_end0
      exact ⟨⟨_, rfl⟩, Tryz.MChg.trans ((Wo.refl own w).drewN nq) (fun k e => .inl e) HC.out⟩
    | inSize =>
      rw [show Wb.takeDo .inSize m c = Wb.inSize m c from rfl]
      have hoa2 : (Wb.inSize m c).2.at_ ≤ 4611686018427387904 := hoa .inSize
      have kX := fun (n : Nat) => Tryz.inSize_any (hd n) c hfr hmo
      rw [htk] at c0
      simp only [Tryz.tkV] at c0
      clear htk hoa hG hlw hmo hfr hat hno hd
      have s1 := Tryz.stTk (Wb.inSize m c).1.1 Tryz.prog
      have s2 := Tryz.stTh (Wb.inSize m c).1.2 Tryz.prog
      generalize Wb.inSize m c = o at *
      go_enter Tryz.func46, Tryz.ntmps46
      go_wp2
      go_quiet (fail)
      have k1 := kX nq
      clear kX
      simp only [Tryz.stV] at k1
      go_wp2_with (first
        | (go_at_call 152; refine k1.mono ?_; clear k1; rintro e w1 ⟨rfl, hC⟩; obtain ⟨own1, hm1, ho1, hth1, d3⟩ := hC.open; have t0 := hth1 0 (by omega); have t1 := hth1 1 (by omega); have t3 := hth1 3 (by omega); obtain ⟨v0, e0⟩ := Option.isSome_iff_exists.1 t0.1; obtain ⟨v1, e1⟩ := Option.isSome_iff_exists.1 t1.1; have z0 := t0.2; have z1 := t1.2; have z3 := t3.2; have HC : Hid _ := hC.after; clear hC t0 t1 t3 hth1 hm1)
        | fail)
      go_end0
      exact ⟨⟨_, rfl⟩, Tryz.MChg.trans ((Wo.refl own w).drewN nq) (fun k e => .inl e) HC.out⟩
    | inExt =>
      rw [show Wb.takeDo .inExt m c = Wb.inExt m c from rfl]
      have hoa2 : (Wb.inExt m c).2.at_ ≤ 4611686018427387904 := hoa .inExt
      have kX := fun (n : Nat) => Tryz.inExt_any (hd n) c hfr
      rw [htk] at c0
      simp only [Tryz.tkV] at c0
      clear htk hoa hG hlw hmo hfr hat hno hd
      have s1 := Tryz.stTk (Wb.inExt m c).1.1 Tryz.prog
      have s2 := Tryz.stTh (Wb.inExt m c).1.2 Tryz.prog
      generalize Wb.inExt m c = o at *
      go_enter Tryz.func46, Tryz.ntmps46
      go_wp2
      go_quiet (fail)
      have k1 := kX nq
      clear kX
      simp only [Tryz.stV] at k1
      go_wp2_with (first
        | (go_at_call 159; refine k1.mono ?_; clear k1; rintro e w1 ⟨rfl, hC⟩; obtain ⟨own1, hm1, ho1, hth1, d3⟩ := hC.open; have t0 := hth1 0 (by omega); have t1 := hth1 1 (by omega); have t3 := hth1 3 (by omega); obtain ⟨v0, e0⟩ := Option.isSome_iff_exists.1 t0.1; obtain ⟨v1, e1⟩ := Option.isSome_iff_exists.1 t1.1; have z0 := t0.2; have z1 := t1.2; have z3 := t3.2; have HC : Hid _ := hC.after; clear hC t0 t1 t3 hth1 hm1)
        | fail)
      go_end0
      exact ⟨⟨_, rfl⟩, Tryz.MChg.trans ((Wo.refl own w).drewN nq) (fun k e => .inl e) HC.out⟩
    | blankA =>
      rw [show Wb.takeDo .blankA m c = Wb.blankA m c from rfl]
      have hoa2 : (Wb.blankA m c).2.at_ ≤ 4611686018427387904 := hoa .blankA
      have kX := fun (n : Nat) => Tryz.blankA_any (hd n) c hat
      rw [htk] at c0
      simp only [Tryz.tkV] at c0
      clear htk hoa hG hlw hmo hfr hat hno hd
      have s1 := Tryz.stTk (Wb.blankA m c).1.1 Tryz.prog
      have s2 := Tryz.stTh (Wb.blankA m c).1.2 Tryz.prog
      generalize Wb.blankA m c = o at *
      go_enter Tryz.func46, Tryz.ntmps46
      go_wp2
      go_quiet (fail)
      have k1 := kX nq
      clear kX
      simp only [Tryz.stV] at k1
      go_wp2_with (first
        | (go_at_call 61; refine k1.mono ?_; clear k1; rintro e w1 ⟨rfl, hC⟩; obtain ⟨own1, hm1, ho1, hth1, d3⟩ := hC.open; have t0 := hth1 0 (by omega); have t1 := hth1 1 (by omega); have t3 := hth1 3 (by omega); obtain ⟨v0, e0⟩ := Option.isSome_iff_exists.1 t0.1; obtain ⟨v1, e1⟩ := Option.isSome_iff_exists.1 t1.1; have z0 := t0.2; have z1 := t1.2; have z3 := t3.2; have HC : Hid _ := hC.after; clear hC t0 t1 t3 hth1 hm1)
        | fail)
      go_end0
      exact ⟨⟨_, rfl⟩, Tryz.MChg.trans ((Wo.refl own w).drewN nq) (fun k e => .inl e) HC.out⟩
    | inStatus =>
      rw [show Wb.takeDo .inStatus m c = Wb.inStatus m c from rfl]
      have hoa2 : (Wb.inStatus m c).2.at_ ≤ 4611686018427387904 := hoa .inStatus
      have kX := fun (n : Nat) => Tryz.inStatus_any (hd n) c (Wb.inS99 hG.fit.ok htk) hfr
      rw [htk] at c0
      simp only [Tryz.tkV] at c0
      clear htk hoa hG hlw hmo hfr hat hno hd
      have s1 := Tryz.stTk (Wb.inStatus m c).1.1 Tryz.prog
      have s2 := Tryz.stTh (Wb.inStatus m c).1.2 Tryz.prog
      generalize Wb.inStatus m c = o at *
      go_enter Tryz.func46, Tryz.ntmps46
      go_wp2
      go_quiet (fail)
      have k1 := kX nq
      clear kX
      simp only [Tryz.stV] at k1
      go_wp2_with (first
        | (go_at_call 88; refine k1.mono ?_; clear k1; rintro e w1 ⟨rfl, hC⟩; obtain ⟨own1, hm1, ho1, hth1, d3⟩ := hC.open; have t0 := hth1 0 (by omega); have t1 := hth1 1 (by omega); have t3 := hth1 3 (by omega); obtain ⟨v0, e0⟩ := Option.isSome_iff_exists.1 t0.1; obtain ⟨v1, e1⟩ := Option.isSome_iff_exists.1 t1.1; have z0 := t0.2; have z1 := t1.2; have z3 := t3.2; have HC : Hid _ := hC.after; clear hC t0 t1 t3 hth1 hm1)
        | fail)
      go_end0
      exact ⟨⟨_, rfl⟩, Tryz.MChg.trans ((Wo.refl own w).drewN nq) (fun k e => .inl e) HC.out⟩
    | blankB =>
      rw [show Wb.takeDo .blankB m c = Wb.blankB m c from rfl]
      have hoa2 : (Wb.blankB m c).2.at_ ≤ 4611686018427387904 := hoa .blankB
      have kX := fun (n : Nat) => Tryz.blankB_any (hd n) c
      rw [htk] at c0
      simp only [Tryz.tkV] at c0
      clear htk hoa hG hlw hmo hfr hat hno hd
      have s1 := Tryz.stTk (Wb.blankB m c).1.1 Tryz.prog
      have s2 := Tryz.stTh (Wb.blankB m c).1.2 Tryz.prog
      generalize Wb.blankB m c = o at *
      go_enter Tryz.func46, Tryz.ntmps46
      go_wp2
      go_quiet (fail)
      have k1 := kX nq
      clear kX
      simp only [Tryz.stV] at k1
      go_wp2_with (first
        | (go_at_call 111; refine k1.mono ?_; clear k1; rintro e w1 ⟨rfl, hC⟩; obtain ⟨own1, hm1, ho1, hth1, d3⟩ := hC.open; have t0 := hth1 0 (by omega); have t1 := hth1 1 (by omega); have t3 := hth1 3 (by omega); obtain ⟨v0, e0⟩ := Option.isSome_iff_exists.1 t0.1; obtain ⟨v1, e1⟩ := Option.isSome_iff_exists.1 t1.1; have z0 := t0.2; have z1 := t1.2; have z3 := t3.2; have HC : Hid _ := hC.after; clear hC t0 t1 t3 hth1 hm1)
        | fail)
      go_end0
      exact ⟨⟨_, rfl⟩, Tryz.MChg.trans ((Wo.refl own w).drewN nq) (fun k e => .inl e) HC.out⟩
    | inReason =>
      rw [show Wb.takeDo .inReason m c = Wb.inReason m c from rfl]
      have hoa2 : (Wb.inReason m c).2.at_ ≤ 4611686018427387904 := hoa .inReason
      have kX := fun (n : Nat) => Tryz.inReason_any (hd n) c
      rw [htk] at c0
      simp only [Tryz.tkV] at c0
      clear htk hoa hG hlw hmo hfr hat hno hd
      have s1 := Tryz.stTk (Wb.inReason m c).1.1 Tryz.prog
      have s2 := Tryz.stTh (Wb.inReason m c).1.2 Tryz.prog
      generalize Wb.inReason m c = o at *
      go_enter Tryz.func46, Tryz.ntmps46
      go_wp2
      go_quiet (fail)
      have k1 := kX nq
      clear kX
      simp only [Tryz.stV] at k1
      go_wp2_with (first
        | (go_at_call 126; refine k1.mono ?_; clear k1; rintro e w1 ⟨rfl, hC⟩; obtain ⟨own1, hm1, ho1, hth1, d3⟩ := hC.open; have t0 := hth1 0 (by omega); have t1 := hth1 1 (by omega); have t3 := hth1 3 (by omega); obtain ⟨v0, e0⟩ := Option.isSome_iff_exists.1 t0.1; obtain ⟨v1, e1⟩ := Option.isSome_iff_exists.1 t1.1; have z0 := t0.2; have z1 := t1.2; have z3 := t3.2; have HC : Hid _ := hC.after; clear hC t0 t1 t3 hth1 hm1)
        | fail)
      go_end0
      exact ⟨⟨_, rfl⟩, Tryz.MChg.trans ((Wo.refl own w).drewN nq) (fun k e => .inl e) HC.out⟩
end Go.Proofs
