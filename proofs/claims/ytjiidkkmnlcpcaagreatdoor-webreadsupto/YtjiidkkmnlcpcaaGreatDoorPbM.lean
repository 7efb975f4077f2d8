/-
  Laid together by packg.py of WtA WuL WuM WuN.
-/
import Derived.Test.YtjiidkkmnlcpcaaGreatDoorPbC
import Derived.Test.YtjiidkkmnlcpcaaGreatDoorPaZ
import Derived.Test.YtjiidkkmnlcpcaaGreatDoorPaH
import Derived.Test.YtjiidkkmnlcpcaaGreatDoorPbH
import Derived.Test.YtjiidkkmnlcpcaaGreatDoorPWuG
namespace Go.Wb
open Go.RowKit Go.Proofs Go.Wi
theorem still_next (X : List UInt8) (i : Nat) (hi : i < X.length) : (List.replicate i 77 ++ X.drop i).set i 77 = List.replicate (i + 1) (77 : UInt8) ++ X.drop (i + 1) := by
  rw [List.set_append_right _ _ (by rw [List.length_replicate]; omega), List.length_replicate, Nat.sub_self, List.drop_eq_getElem_cons hi, List.set_cons_zero, List.replicate_succ', List.append_assoc]
  rfl
theorem still_at (X : List UInt8) (i : Nat) (hi : i < X.length) : (List.replicate i 77 ++ X.drop i)[i]? = some X[i] := by
  rw [List.getElem?_append_right (by rw [List.length_replicate]; omega), List.length_replicate, Nat.sub_self, List.getElem?_drop, Nat.add_zero, List.getElem?_eq_getElem hi]
theorem Rb.keepN {w : World} {g : Nat} {l : List UInt8} (h : Rb w g l) (n : Nat) : Rb (w.drewN n) g l := ⟨h.lt, h.cell, h.fz⟩
end Go.Wb
namespace Go.Proofs
open Go.RowKit Go.Wi Go.Wb
set_option maxRecDepth 20000 in
set_option maxHeartbeats 1000000 in
theorem Tryz.still_any {w : World} {g : Nat} (s : List UInt8) (hs : s.length ≤ 140737488355000) (h : Rb w g (s ++ List.replicate 8 201)) :
    Calls Tryz.prog 8 #[.slice (some ⟨g, 0, none⟩) (s.length + 8) (s.length + 8), .string ⟨s.toArray⟩] w fun e w' => e = .returned (.bool true) ∧ Rb w' g (List.replicate (s.length + 8) 77) ∧ Wo (fun k => k = g) w w' := by
  have hz := text_size s
  obtain ⟨N, hN⟩ : ∃ N : Nat, s.length + 8 = N := ⟨_, rfl⟩
  obtain ⟨X, hX⟩ : ∃ X, s ++ List.replicate 8 (201 : UInt8) = X := ⟨_, rfl⟩
  have hXl : X.length = N := by rw [← hX, List.length_append, List.length_replicate]; exact hN
  have HXL : Hid (X.length = N) := hXl
  have HXA : Hid (∀ i (_ : i < s.length), X[i]? = some s[i]) := fun i hi => (by rw [← hX, List.getElem?_append_left hi, List.getElem?_eq_getElem hi])
  have HXB : Hid (∀ i, s.length ≤ i → i < N → X[i]? = some 201) := fun i h1 h2 => (by rw [← hX, List.getElem?_append_right h1, List.getElem?_replicate, if_pos (by omega)])
  have HN : Hid (s.length + 8 = N) := hN
  have hN2 : N ≤ 140737488355328 := by omega
  rw [hX] at h
  have HR : Hid (Rb w g X) := h
  rw [hN]
  clear hN h hX hXl
  go_enter Tryz.func8, Tryz.ntmps8
  go_wp2
  go_loopw [5, 6] (fun kv iv wr => kv = .bool true ∧ ∃ i : Nat, iv = .int .i64 i ∧ i ≤ N ∧ Rb wr g (List.replicate i 77 ++ X.drop i) ∧ Wo (fun k => k = g) w wr) (fun _ iv _ => N - (intOf iv).toNat)
  case atStart => exact ⟨rfl, 0, rfl, Nat.zero_le _, HR.out, Wo.refl _ _⟩
  case round =>
    clear HR
    obtain ⟨rfl, i, rfl, hi, hr, hw⟩ := hrel
    have HW : Hid (Wo (fun k => k = g) w wr) := hw
    have HRR : Hid (Rb wr g (List.replicate i 77 ++ X.drop i)) := hr
    clear hw hr
    by_cases hlt : i < N
    · have q : (i : Int) < (N : Int) := by omega
      have HIX : Hid (i < X.length) := (by show _ < _; rw [HXL.out]; exact hlt)
      have HIL : Hid (i < (List.replicate i 77 ++ X.drop i).length) := (by show _ < _; rw [List.length_append, List.length_replicate, List.length_drop]; have := HIX.out; omega)
      obtain ⟨c, hc⟩ : ∃ c, X[i]? = some c := ⟨_, List.getElem?_eq_getElem HIX.out⟩
      have h0 : wr.cell? ⟨g, i, none⟩ = some (.int .u8 (c.toNat : Nat)) := by
        have h1 := still_at X i HIX.out
        rw [List.getElem?_eq_getElem HIL.out] at h1
        rw [List.getElem?_eq_getElem HIX.out] at hc
        rw [HRR.out.at HIL.out, Option.some.inj h1, Option.some.inj hc]
      have f0 := HRR.out.fz i HIL.out
      have HS : Hid (∀ n, Rb ((wr.drewN n).setCell ⟨g, i, none⟩ (.int .u8 77)) g (List.replicate (i + 1) 77 ++ X.drop (i + 1))) := fun n => (by
        have := (HRR.out.keepN n).set HIL.out 77
        rw [still_next X i HIX.out] at this
        exact this)
      have HWS : Hid (∀ n, Wo (fun k => k = g) w ((wr.drewN n).setCell ⟨g, i, none⟩ (.int .u8 77))) := fun n => (HW.out.drewN n).setCell g i _ (.inl rfl)
      clear HRR HW
      by_cases hil : i < s.length
      · have q2 : (i : Int) < (s.length : Int) := by omega
        have hc2 := HXA.out i hil
        rw [hc] at hc2
        obtain hde : s[i]'hil = c := (Option.some.inj hc2).symm
        have hix : ∀ h : i < (⟨s.toArray⟩ : ByteArray).size, (⟨s.toArray⟩ : ByteArray)[i]'h = c := fun h => (at_text hil h).trans hde
        have q3 : ¬ (s.length : Int) ≤ (i : Int) := by omega
        have q4 : decide (s.length ≤ i) = false := decide_eq_false (by omega)
        clear hc hc2 hde
        go_wp2
        go_quiet (fail)
        go_wp2
        go_roundw
        case rel => exact ⟨rfl, i + 1, by simp, by omega, HS.out _, HWS.out _⟩
        case measure => simp [intOf]; omega
      · have q2 : ¬ (i : Int) < (s.length : Int) := by omega
        have q3 : (s.length : Int) ≤ (i : Int) := by omega
        have q4 : decide (s.length ≤ i) = true := decide_eq_true (by omega)
        have hc2 := HXB.out i (by omega) hlt
        rw [hc] at hc2
        obtain rfl : c = 201 := Option.some.inj hc2
        change wr.cell? ⟨g, i, none⟩ = some (.int .u8 201) at h0
        clear hc hc2
        go_wp2
        go_quiet (fail)
        go_wp2
        go_roundw
        case rel => exact ⟨rfl, i + 1, by simp, by omega, HS.out _, HWS.out _⟩
        case measure => simp [intOf]; omega
    · have q : ¬ (i : Int) < (N : Int) := by omega
      have HRF : Hid (Rb wr g (List.replicate N 77)) := (by
        have e : i = N := by omega
        have := HRR.out
        rw [e, List.drop_of_length_le (by rw [HXL.out]; exact Nat.le_refl _), List.append_nil] at this
        exact this)
      clear HRR
      go_wp2
      go_ret
      exact ⟨rfl, HRF.out, HW.out⟩
end Go.Proofs
namespace Go.Wb
theorem fd_each {m : Msg} {N : Nat} (h : Fi m N) : ∀ (l : List UInt8), ∀ r ∈ (fd m l).1, r.headers.length ≤ 32 ∧ r.body.length ≤ N + l.length := by
  intro l
  induction l generalizing m N with
  | nil => intro r hr; cases hr
  | cons c q ih =>
    rw [fd_cons, List.length_cons]
    cases ho : over m with
    | true => rw [if_pos rfl]; intro r hr; cases hr
    | false =>
      rw [if_neg Bool.false_ne_true]
      have hb := h.bite ho c
      by_cases hw : whole (bite m c) = true
      · rw [if_pos hw]
        intro r hr
        rcases List.mem_cons.1 hr with e | hr
        · subst e
          have h1 := hb.good.hl.le
          have h2 := hb.good.fit.ok.ok.body
          have h3 := hb.at_
          exact ⟨h1, by show (bite m c).body.length ≤ _; omega⟩
        · have := ih hb.goOn r hr
          omega
      · rw [if_neg hw]
        intro r hr
        have := ih hb r hr
        omega
end Go.Wb
namespace Go.Proofs
open Go.RowKit Go.Wi Go.Wb
theorem Wb.sml_fd {m : Msg} {N : Nat} (h : Fi m N) {l : List UInt8} (hl : N + l.length ≤ 999999999999) : Wb.Sml (fd m l).1 := by
  refine ⟨by have := fd_len m l; omega, fun r hr => ?_⟩
  have := fd_each h l r hr
  omega
theorem Tryz.RlD.fit {w : World} {P : Nat → Prop} {V : Value} {rs : List Rq} (h : Tryz.RlD w P V rs) : Tryz.RlD w (fun k => P k ∧ k < w.heap.size) V rs := Tryz.RlD.keep h fun _k hk e => ⟨rfl, e, hk⟩
theorem Tryz.RlW.fit {w : World} {P : Nat → Prop} {V : Value} {rs : List Rq} (h : Tryz.RlW w P V rs) : Tryz.RlW w (fun k => P k ∧ k < w.heap.size) V rs := Tryz.RlW.keep h (Nat.le_refl _) fun _k hk e => ⟨rfl, e, hk⟩
set_option maxRecDepth 20000 in
set_option maxHeartbeats 2000000 in
theorem Tryz.refWaits_any {w : World} {q : Nat} {S : List UInt8} {f at_ e : Nat} {ov : Bool} (hd : Tryz.Dp w q S f at_ e ov) (hl : S.length ≤ 999999999999) (hf : f ≤ S.length) :
    Calls Tryz.prog 30 #[.pointer (some ⟨q, 0, none⟩)] w fun e' w' => e' = .returned (.int .i64 (if e ≠ 0 ∨ ov = true then 0 else (S.length : Int) - f)) ∧ ∃ n, w' = w.drewN n := by
  have c0 : w.cell? ⟨q, 0, none⟩ = some (.string ⟨S.toArray⟩) := cell_of_row _ _ 0 _ _ _ hd
  have c1 : w.cell? ⟨q, 1, none⟩ = some (.int .i64 f) := cell_of_row _ _ 1 _ _ _ hd
  have c3 : w.cell? ⟨q, 3, none⟩ = some (.int .i64 e) := cell_of_row _ _ 3 _ _ _ hd
  have c4 : w.cell? ⟨q, 4, none⟩ = some (.bool ov) := cell_of_row _ _ 4 _ _ _ hd
  have hz := text_size S
  obtain ⟨R, hR⟩ : ∃ R, (if e ≠ 0 ∨ ov = true then (0 : Int) else (S.length : Int) - f) = R := ⟨_, rfl⟩
  have HR : Hid ((if e ≠ 0 ∨ ov = true then (0 : Int) else (S.length : Int) - f) = R) := hR
  rw [hR]
  clear hd hR
  by_cases he : e = 0
  · subst he
    cases ov with
    | true =>
      go_enter Tryz.func30, Tryz.ntmps30
      go_wp2
      go_ret
      exact ⟨by rw [← HR.out]; simp, 0, rfl⟩
    | false =>
      go_enter Tryz.func30, Tryz.ntmps30
      go_upto_region 3 with (fail)
      go_quiet (fail)
      go_wp2
      go_ret
      exact ⟨by rw [← HR.out, if_neg (by simp)]; rfl, _, rfl⟩
  · have qe : ((e : Int) != 0) = true := by simp; omega
    have HI : Hid (R = 0) := (by show R = 0; rw [← HR.out, if_pos (.inl he)])
    clear he HR
    go_enter Tryz.func30, Tryz.ntmps30
    go_wp2
    go_ret
    exact ⟨by rw [HI.out]; rfl, 0, rfl⟩
/-- A connection: the program's parser and the document's, which have read the same. -/
structure Tryz.Cn (w : World) (bp : Nat) (own : Nat → Prop) (m : Msg) (q : Nat) (S : List UInt8) (f at_ e : Nat) (ov : Bool) (N : Nat) : Prop where
  ms : Tryz.Ms 77 w own bp m
  fi : Fi m N
  dp : Tryz.Dp w q S f at_ e ov
  inv : DInv m S f at_ e ov
  le : S.length ≤ N
/-- What is apart. -/
structure Wb.Sep (n : Nat) (own PA PB : Nat → Prop) (q d : Nat) : Prop where
  oa : ∀ k, own k → PA k → False
  ob : ∀ k, own k → PB k → False
  oq : ¬ own q
  od : ¬ own d
  aq : ¬ PA q
  bq : ¬ PB q
  qd : q ≠ d
  lt : ∀ k, own k ∨ PA k ∨ PB k ∨ k = q ∨ k = d → k < n
/-- What one Feed, and the document's, leave. -/
structure Tryz.FedAll (w w' : World) (bp q d : Nat) (own PA PB : Nat → Prop) (m : Msg) (N : Nat) (t : List UInt8) : Prop where
  ex : ∃ own' PA' PB' U V rs S f at_ e ov, Tryz.Cn w' bp own' (fd m t).2 q S f at_ e ov (N + t.length) ∧ Tryz.Dk w' d PA' PB' U V rs ∧ Wb.Sml rs ∧ Wb.Sep w'.heap.size own' PA' PB' q d ∧
    (∀ k, own' k ∨ PA' k → own k ∨ PA k ∨ w.heap.size ≤ k) ∧ (∀ k, PB' k → PB k ∨ w.heap.size ≤ k)
  wo : Wo (fun k => own k ∨ PA k ∨ k = q ∨ k = d) w w'
end Go.Proofs
namespace Go.Wb
open Go.RowKit Go.Proofs Go.Wi
theorem Rb.firstW {w : World} {g : Nat} {l : List UInt8} (h : Rb w g l) {m c : Nat} (hm : m ≤ l.length) (hc : m ≤ c) : Bs w (.slice (some ⟨g, 0, none⟩) m c) (l.take m) := by
  have hl : (l.take m).length = m := by rw [List.length_take]; omega
  refine ⟨some ⟨g, 0, none⟩, c, by rw [hl], by omega, (fun e => by cases e), .inr ⟨g, 0, rfl, h.lt, fun j u hu => ?_⟩⟩
  rw [Nat.zero_add]
  refine h.cell j u ?_
  have e2 : Lib.byteCells (l.take m) = (Lib.byteCells l).take m := by simp [Lib.byteCells]
  rw [e2, List.getElem?_take] at hu
  split at hu
  · exact hu
  · cases hu
theorem Rb.keepW {w w' : World} {g : Nat} {l : List UInt8} (h : Rb w g l) (e : w'.heap[g]? = w.heap[g]?) (hs : w.heap.size ≤ w'.heap.size) : Rb w' g l :=
  ⟨Nat.lt_of_lt_of_le h.lt hs, fun j u hu => (World.cell?_of_block (a := ⟨g, j, none⟩) e).trans (h.cell j u hu), fun j hj => (World.frozen?_of_block (a := ⟨g, j, none⟩) e).trans (h.fz j hj)⟩
end Go.Wb
namespace Go.Proofs
open Go.RowKit Go.Wi Go.Wb
theorem Tryz.msW_lt {T : TypeId} {w : World} {own : Nat → Prop} {b : Nat} {m : Msg} (h : Tryz.Ms T w own b m) : ∀ k, own k → k < w.heap.size := by
  obtain ⟨aw, cw, ah, ch, ab, cb, hmw⟩ := h.ex
  exact hmw.lt
theorem Tryz.msW_keep {T : TypeId} {w w' : World} {own : Nat → Prop} {b : Nat} {m : Msg} (h : Tryz.Ms T w own b m) (hk : ∀ k, own k → w'.heap[k]? = w.heap[k]?) (hs : w.heap.size ≤ w'.heap.size) : Tryz.Ms T w' own b m := by
  obtain ⟨aw, cw, ah, ch, ab, cb, hmw⟩ := h.ex
  exact ⟨aw, cw, ah, ch, ab, cb, hmw.keep hk hs⟩
theorem Tryz.Dk.keep {w w' : World} {d : Nat} {PA PB : Nat → Prop} {U V : Value} {rs : List Rq} (h : Tryz.Dk w d PA PB U V rs) (hs : w.heap.size ≤ w'.heap.size) (hk : ∀ k, k < w.heap.size → PA k ∨ PB k ∨ k = d → w'.heap[k]? = w.heap[k]?) : Tryz.Dk w' d PA PB U V rs :=
  ⟨(hk d (block_lt h.box) (.inr (.inr rfl))).trans h.box, Tryz.RlD.keep h.a fun k e1 e2 => ⟨hk k e1 (.inl e2), e2⟩, Tryz.RlW.keep h.b hs fun k e1 e2 => ⟨hk k e1 (.inr (.inl e2)), e2⟩, h.dis, h.da, h.db⟩
set_option maxRecDepth 20000 in
set_option maxHeartbeats 8000000 in
theorem Tryz.fed_law {w : World} {bp q d : Nat} {own PA PB : Nat → Prop} {m : Msg} {S : List UInt8} {f at_ e_ : Nat} {ov : Bool} {N : Nat} {U V : Value} {rs : List Rq} (hc : Tryz.Cn w bp own m q S f at_ e_ ov N) (hd : Tryz.Dk w d PA PB U V rs) (hsm : Wb.Sml rs) (hsp : Wb.Sep w.heap.size own PA PB q d) (t : List UInt8) (hN : N + t.length ≤ 99999999999) :
    Calls Tryz.prog 15 #[.pointer (some ⟨d, 0, none⟩), .pointer (some ⟨bp, 0, none⟩), .pointer (some ⟨q, 0, none⟩), .string ⟨t.toArray⟩] w fun e w' => e = .returned (.bool true) ∧ Tryz.FedAll w w' bp q d own PA PB m N t := by
  have hz := text_size t
  obtain ⟨M, hM⟩ : ∃ M : Nat, t.length + 8 = M := ⟨_, rfl⟩
  have hM1 : t.length ≤ M := by omega
  have hM2 : M ≤ 999999999999 := by omega
  obtain ⟨m', hm'⟩ : ∃ m', (fd m t).2 = m' := ⟨_, rfl⟩
  obtain ⟨rs', hrs'⟩ : ∃ r, (fd m t).1 = r := ⟨_, rfl⟩
  have HMM : Hid ((fd m t).2 = m' ∧ (fd m t).1 = rs') := ⟨hm', hrs'⟩
  have HSM' : Hid (Wb.Sml rs') := (by show Wb.Sml rs'; rw [← hrs']; exact Wb.sml_fd hc.fi (by omega))
  have HFI : Hid (Fi m' (N + t.length)) := (by show Fi _ _; rw [← hm']; exact hc.fi.fd t)
  have HSM : Hid (Wb.Sml rs) := hsm
  have HSP : Hid (Wb.Sep w.heap.size own PA PB q d) := hsp
  have HCN : Hid (Tryz.Cn w bp own m q S f at_ e_ ov N) := hc
  have HDK : Hid (Tryz.Dk w d PA PB U V rs) := hd
  -- the text is lent
  have k1 : Calls Tryz.prog 6 #[.string ⟨t.toArray⟩] w fun e w' => ∃ g, e = .returned (.slice (some ⟨g, 0, none⟩) M M) ∧ Hid (g = w.heap.size ∧ Rb w' g (t ++ List.replicate 8 201) ∧ Below w.heap.size w w') := by
    refine (Tryz.lent_any t (by omega) w).mono ?_
    rintro e w' ⟨rfl, h1, h2⟩
    exact ⟨_, by rw [hM], rfl, h1, h2⟩
  -- it is fed
  have KF : Hid (∀ w1 g, g = w.heap.size → Rb w1 g (t ++ List.replicate 8 201) → Below w.heap.size w w1 → Calls Tryz.prog 16 #[.pointer (some ⟨bp, 0, none⟩), .slice (some ⟨g, 0, none⟩) t.length M] w1 fun e w2 => ∃ ad n cap ev own', e = .returned (.tuple #[.slice ad n cap, ev]) ∧ Hid (Tryz.FedD own w1 w2 bp m' (.slice ad n cap) ev rs' own')) := fun w1 g hg hr hb => (by
    have h1 := hr.firstW (m := t.length) (c := M) (by rw [List.length_append]; omega) hM1
    rw [List.take_left] at h1
    have hlt := Tryz.msW_lt HCN.out.ms
    have := Tryz.feed_anyD (HCN.out.ms.below hb) HCN.out.fi.good h1 (fun k e => by cases e; exact ⟨fun e2 => by have h3 : g < w.heap.size := hlt g e2; omega, hr.lt⟩) (by have := HCN.out.fi.at_; omega) (by omega)
    rw [hm', hrs'] at this
    refine this.mono ?_
    rintro e w2 ⟨ad, n, cap, ev, own', h1, h2⟩
    exact ⟨ad, n, cap, ev, own', h1, h2⟩)
  have KS : Hid (∀ w2 g, Rb w2 g (t ++ List.replicate 8 201) → Calls Tryz.prog 8 #[.slice (some ⟨g, 0, none⟩) M M, .string ⟨t.toArray⟩] w2 fun e w3 => e = .returned (.bool true) ∧ Hid (Wo (fun k => k = g) w2 w3)) := fun w2 g hr => (by
    have := Tryz.still_any t (by omega) hr
    rw [hM] at this
    refine this.mono ?_
    rintro e w' ⟨rfl, h1, h2⟩
    exact ⟨rfl, h2⟩)
  have KR : Hid (∀ w3, Tryz.Dp w3 q S f at_ e_ ov → Calls Tryz.prog 29 #[.pointer (some ⟨q, 0, none⟩), .string ⟨t.toArray⟩] w3 fun e' w4 => ∃ ad n cap a er, e' = .returned (.tuple #[.slice ad n cap, .int .i64 (a : Nat), .int .i64 (er : Nat)]) ∧ Hid (Tryz.RFed w3 w4 q m t S.length (.slice ad n cap) a er)) := fun w3 hd3 => (by
    refine (Tryz.refFeed_any hd3 HCN.out.inv t (by have := HCN.out.le; omega)).mono ?_
    rintro e' w4 ⟨ad, n, cap, a, er, h1, h2⟩
    exact ⟨ad, n, cap, a, er, h1, h2⟩)
  clear hc hd hsm hsp hm' hrs' hM
  go_enter Tryz.func15, Tryz.ntmps15
  go_upto_region 5 with (first
    | (go_at_call 6; refine k1.mono ?_; clear k1; rintro e w1 ⟨g, rfl, HL1⟩; have k2 := KF.out w1 g HL1.out.1 HL1.out.2.1 HL1.out.2.2; clear KF)
    | (go_at_call 16; refine k2.mono ?_; clear k2; rintro e w2 ⟨ad, n, cap, ev, own', rfl, HF2⟩; have HRB2 : Hid (Rb w2 g (t ++ List.replicate 8 201)) := (HL1.out.2.1.keepW (HF2.out.wo.block g HL1.out.2.1.lt (fun e => by have h1 := Tryz.msW_lt HCN.out.ms g e; have h2 := HL1.out.1; omega)) HF2.out.wo.size); have k3 := KS.out w2 g HRB2.out; clear KS)
    | (go_at_call 8; refine k3.mono ?_; clear k3; rintro e w3 ⟨rfl, HW3⟩; have HDP3 : Hid (Tryz.Dp w3 q S f at_ e_ ov) := (by have hq := HSP.out.lt q (.inr (.inr (.inr (.inl rfl)))); have h1 := (HL1.out.2.2.block q hq).trans HCN.out.dp; have h2 := (HF2.out.wo.block q (block_lt h1) HSP.out.oq).trans h1; have hg := HL1.out.1; exact (HW3.out.block q (block_lt h2) (by omega)).trans h2); have k4 := KR.out w3 HDP3.out; clear KR)
    | (go_at_call 29; refine k4.mono ?_; clear k4; rintro e w4 ⟨ad4, n4, cap4, a4, er4, rfl, HF4⟩)
    | fail)
  have eV2 : n = rs'.length := (by obtain ⟨_, _, e, _⟩ := Tryz.RlD.is HF2.out.rl; injection e)
  have eV4 : n4 = (fd m t).1.length := (by obtain ⟨_, _, e, _⟩ := Tryz.RlW.cap HF4.out.rl; injection e)
  rw [HMM.out.2] at eV4
  obtain ⟨L, hL⟩ : ∃ L, rs'.length = L := ⟨_, rfl⟩
  rw [hL] at eV2 eV4
  subst eV2 eV4
  obtain ⟨S4, f4, ov4, hdp4, hin4, hle4⟩ := HF4.out.st
  rw [HMM.out.1] at hin4
  have HIN4 : Hid (DInv m' S4 f4 a4 er4 ov4) := hin4
  have HLE4 : Hid (S4.length ≤ N + t.length) := (by have := HCN.out.le; show _ ≤ _; omega)
  have told := hin4.told
  obtain ⟨Wn, hWn⟩ : ∃ x, (if er4 ≠ 0 ∨ ov4 = true then (0 : Int) else (S4.length : Int) - f4) = x := ⟨_, rfl⟩
  have hq0 := HSP.out.lt q (.inr (.inr (.inr (.inl rfl))))
  have hd0 := HSP.out.lt d (.inr (.inr (.inr (.inr rfl))))
  have hg := HL1.out.1
  have hs1 := HL1.out.2.2.size
  have hg1 := HL1.out.2.1.lt
  have hs2 := HF2.out.wo.size
  have hs3 := HW3.out.size
  have hs4 := HF4.out.wo.size
  have hlt := Tryz.msW_lt HCN.out.ms
  have ho' : ∀ k, own' k → own k ∨ w1.heap.size ≤ k := HF2.out.sub
  have ho'q : ¬ own' q := fun e => by
    rcases ho' q e with e1 | e1
    · exact HSP.out.oq e1
    · omega
  have ho'g : ¬ own' g := fun e => by
    rcases ho' g e with e1 | e1
    · have := hlt g e1; omega
    · omega
  have hms4 : Tryz.Ms 77 w4 own' bp m' := Tryz.msW_keep HF2.out.ms (fun k e => by
    have hk := Tryz.msW_lt HF2.out.ms k e
    rw [HF4.out.wo.block k (by omega) (fun e2 => ho'q (e2 ▸ e)), HW3.out.block k hk (fun e2 => ho'g (e2 ▸ e))]) (by omega)
  have hev4 : Tryz.Ev w4 m' ev := by
    rcases HF2.out.err with e | ⟨e, g', e1, e2, e3, e4⟩
    · exact .inl e
    · refine .inr ⟨e, g', e1, ?_⟩
      have hk := block_lt e2
      rw [HF4.out.wo.block g' (by omega) (by omega), HW3.out.block g' hk (by omega)]
      exact e2
  have HW4 : Hid (Wo (fun k => own k ∨ PA k ∨ k = q ∨ k = d) w w4) := ((((Wo.ofBelow HL1.out.2.2).trans (HF2.out.wo.mono fun k e => .inl e)).step (fun k e => .inr (by omega)) HW3.out).trans (HF4.out.wo.mono fun k e => .inr (.inr (.inl e))))
  have hdk4 : Tryz.Dk w4 d PA PB U V rs := Tryz.Dk.keep HDK.out (by omega) fun k hk e => by
    have hno : ¬ own k := fun e2 => by
      rcases e with e | e | e
      · exact HSP.out.oa k e2 e
      · exact HSP.out.ob k e2 e
      · exact HSP.out.od (e ▸ e2)
    have hnq : ¬ k = q := fun e2 => by
      rcases e with e | e | e
      · exact HSP.out.aq (e2 ▸ e)
      · exact HSP.out.bq (e2 ▸ e)
      · exact HSP.out.qd (e2 ▸ e)
    rw [HF4.out.wo.block k (by omega) hnq, HW3.out.block k (by omega) (by omega), HF2.out.wo.block k (by omega) hno, HL1.out.2.2.block k hk]
  have hrl4 : Tryz.RlD w4 (fun k => ((own k ∨ w1.heap.size ≤ k) ∧ ¬ own' k) ∧ k < w2.heap.size) (.slice ad n4 cap) rs' := Tryz.RlD.keep (Tryz.RlD.fit HF2.out.rl) fun k hk e => ⟨by
    have hkg : ¬ k = g := fun e2 => by
      rcases e.1.1 with e3 | e3
      · have := hlt k e3; omega
      · omega
    have hkq : ¬ k = q := fun e2 => by
      rcases e.1.1 with e3 | e3
      · exact HSP.out.oq (e2 ▸ e3)
      · omega
    rw [HF4.out.wo.block k (by omega) hkq, HW3.out.block k hk hkg], e⟩
  have hrw4 : Tryz.RlW w4 (fun k => w3.heap.size ≤ k ∧ k < w4.heap.size) (.slice ad4 n4 cap4) rs' := (by
    have := Tryz.RlW.fit HF4.out.rl
    rw [HMM.out.2] at this
    exact this)
  have KFA : Hid (∀ W, Below w4.heap.size w4 W → Calls Tryz.prog 24 #[ev] W fun e w' => e = .returned (.tuple #[.int .i64 (a4 : Nat), .int .i64 (er4 : Nat), .bool true]) ∧ Hid (Below W.heap.size W w')) := fun W hW => (by
    have h1 : Tryz.Ev W m' ev := by
      rcases hev4 with e | ⟨e, g', e1, e2⟩
      · exact .inl e
      · exact .inr ⟨e, g', e1, (hW.block g' (block_lt e2)).trans e2⟩
    refine (Tryz.fault_any h1).mono ?_
    rintro e w' ⟨rfl, k, rfl⟩
    refine ⟨?_, belowN (Below.refl _ W) k⟩
    have e1 : Wb.plc m' = a4 := told.2.1
    rw [e1, told.1])
  have KWP : Hid (∀ W, Below w4.heap.size w4 W → Calls Tryz.prog 12 #[.pointer (some ⟨bp, 0, none⟩)] W fun e w' => e = .returned (.int .i64 Wn) ∧ Hid (Below W.heap.size W w')) := fun W hW => (by
    have hfi := HFI.out
    refine (Tryz.waits_any (hms4.below hW) (by have := hfi.at_; omega) (by have := hfi.beg; omega)).mono ?_
    rintro e w' ⟨rfl, k, rfl⟩
    refine ⟨?_, belowN (Below.refl _ W) k⟩
    have e1 : Wb.waitsI m' = Wn := told.2.2.trans hWn
    rw [e1])
  have KWQ : Hid (∀ W, Below w4.heap.size w4 W → Calls Tryz.prog 30 #[.pointer (some ⟨q, 0, none⟩)] W fun e w' => e = .returned (.int .i64 Wn) ∧ Hid (Below W.heap.size W w')) := fun W hW => (by
    refine (Tryz.refWaits_any ((hW.block q (block_lt hdp4)).trans hdp4) (by have := HLE4.out; omega) HIN4.out.le).mono ?_
    rintro e w' ⟨rfl, k, rfl⟩
    exact ⟨by rw [hWn], belowN (Below.refl _ W) k⟩)
  have KCO : Hid (∀ W, Below w4.heap.size w4 W → Calls Tryz.prog 31 #[.pointer (some ⟨d, 0, none⟩), .slice ad n4 cap, .slice ad4 n4 cap4] W fun e w' => e = .returned (.bool true) ∧ Hid (Tryz.FedAll w w' bp q d own PA PB m N t)) := fun W hW => (by
    have hsW := hW.size
    refine (Tryz.comes_any (Tryz.Dk.keep hdk4 hsW fun k hk _ => hW.block k hk) (Tryz.RlD.keep hrl4 fun k hk e => ⟨hW.block k hk, e⟩) (Tryz.RlW.keep hrw4 hsW fun k hk e => ⟨hW.block k hk, e⟩) (fun k e1 e2 => ?_) (fun k e1 e2 => ?_) (fun k e1 e2 => ?_) (fun e1 => ?_) (fun e1 => ?_) HSM.out HSM'.out).mono ?_
    · have hk := HSP.out.lt k (.inr (.inl e1))
      rcases e2.1.1 with e3 | e3
      · exact HSP.out.oa k e3 e1
      · omega
    · have hk := HSP.out.lt k (.inr (.inl e1))
      omega
    · omega
    · rcases e1.1.1 with e3 | e3
      · exact HSP.out.od e3
      · omega
    · omega
    · rintro e w' ⟨rfl, hw, hdk⟩
      have hwW : Wo (fun k => own k ∨ PA k ∨ k = q ∨ k = d) w w' := (HW4.out.below hW HW4.out.size).trans (hw.mono fun k e => by rcases e with e | e; exact .inr (.inl e); exact .inr (.inr (.inr e)))
      have hsw' := hw.size
      have hnA : ∀ k, own' k → ¬ (PA k ∨ k = d) := fun k e e2 => by
        rcases ho' k e with e3 | e3
        · rcases e2 with e2 | e2
          · exact HSP.out.oa k e3 e2
          · exact HSP.out.od (e2 ▸ e3)
        · rcases e2 with e2 | e2
          · have := HSP.out.lt k (.inr (.inl e2)); omega
          · omega
      have hcn : Tryz.Cn w' bp own' m' q S4 f4 a4 er4 ov4 (N + t.length) := by
        refine ⟨Tryz.msW_keep hms4 (fun k e => ?_) (by omega), HFI.out, ?_, HIN4.out, HLE4.out⟩
        · have hk := Tryz.msW_lt hms4 k e
          rw [hw.block k (by omega) (hnA k e), hW.block k hk]
        · have hk := block_lt hdp4
          show _ = _
          rw [hw.block q (by omega) (fun e => by rcases e with e | e; exact HSP.out.aq e; exact HSP.out.qd e), hW.block q hk]
          exact hdp4
      have hml := Tryz.msW_lt hcn.ms
      refine ⟨rfl, ⟨?_, hwW⟩⟩
      rw [HMM.out.1]
      rcases hdk with hdk | hdk
      · refine ⟨own', PA, PB, U, V, rs, S4, f4, a4, er4, ov4, hcn, hdk, HSM.out, ⟨fun k e1 e2 => hnA k e1 (.inl e2), fun k e1 e2 => ?_, ho'q, fun e => hnA d e (.inr rfl), HSP.out.aq, HSP.out.bq, HSP.out.qd, fun k e => ?_⟩, fun k e => ?_, fun k e => .inl e⟩
        · rcases ho' k e1 with e3 | e3
          · exact HSP.out.ob k e3 e2
          · have := HSP.out.lt k (.inr (.inr (.inl e2))); omega
        · rcases e with e | e
          · exact hml k e
          · have := HSP.out.lt k (.inr e); omega
        · rcases e with e | e
          · rcases ho' k e with e3 | e3
            · exact .inl e3
            · exact .inr (.inr (by omega))
          · exact .inr (.inl e)
      · refine ⟨own', _, _, _, _, rs', S4, f4, a4, er4, ov4, hcn, hdk, HSM'.out, ⟨fun k e1 e2 => e2.1.2 e1, fun k e1 e2 => ?_, ho'q, fun e => hnA d e (.inr rfl), fun e => ?_, fun e => by omega, HSP.out.qd, fun k e => ?_⟩, fun k e => ?_, fun k e => .inr (by omega)⟩
        · have hk := Tryz.msW_lt HF2.out.ms k e1
          omega
        · rcases e.1.1 with e3 | e3
          · exact HSP.out.oq e3
          · omega
        · rcases e with e | e | e | e | e
          · exact hml k e
          · have := e.2; omega
          · have := e.2; omega
          · omega
          · omega
        · rcases e with e | e
          · rcases ho' k e with e3 | e3
            · exact .inl e3
            · exact .inr (.inr (by omega))
          · rcases e.1.1 with e3 | e3
            · exact .inl e3
            · exact .inr (.inr (by omega)))
  have k5 := KFA.out w4 (Below.refl _ _)
  clear KFA hms4 hev4 hdk4 hrl4 hrw4 hdp4 hin4 told hWn HF2 HF4 HL1 HW3 HRB2 HDP3 HIN4 HLE4 HW4 HCN HDK HFI HSM HSM' HMM HSP hle4 hq0 hd0 hg hs1 hg1 hs2 hs3 hs4 hlt ho' ho'q ho'g hL
  go_upto_region 6 with (first
    | (go_at_call 24; refine k5.mono ?_; clear k5; rintro e w5 ⟨rfl, HB5⟩; have k6 := KWP.out w5 HB5.out; clear KWP)
    | fail)
  have x1 : ((er4 : Int) != (er4 : Int)) = false := by simp
  have x2 : ((a4 : Int) != (a4 : Int)) = false := by simp
  have x3 : ((n4 : Int) != (n4 : Int)) = false := by simp
  have x4 : (Wn != Wn) = false := by simp
  go_upto_region 8 with (first
    | (go_at_call 12; refine k6.mono ?_; clear k6; rintro e w6 ⟨rfl, HB6⟩; have HB56 : Hid (Below w4.heap.size w4 w6) := HB5.out.trans (HB6.out.mono HB5.out.size); have k7 := KWQ.out w6 HB56.out; clear KWQ)
    | (go_at_call 30; refine k7.mono ?_; clear k7; rintro e w7 ⟨rfl, HB7⟩; have k8 := KCO.out w7 (HB56.out.trans (HB7.out.mono HB56.out.size)); clear KCO)
    | fail)
  go_wp2_with (first
    | (go_at_call 31; refine k8.mono ?_; clear k8; rintro e w8 ⟨rfl, HF8⟩)
    | fail)
  go_ret
  exact ⟨rfl, HF8.out⟩
end Go.Proofs
namespace Go.Proofs
open Go.RowKit Go.Wi Go.Wb
/-- Two connections, one desk, and blocks (K) that none of them has. -/
structure Tryz.WS (w0 w : World) (bp bo qp qo d : Nat) (K : Nat → Prop) (N1 N2 : Nat) : Prop where
  ex : ∃ own1 own2 PA PB m1 m2 U V rs S1 f1 a1 e1 v1 S2 f2 a2 e2 v2, Tryz.Cn w bp own1 m1 qp S1 f1 a1 e1 v1 N1 ∧ Tryz.Cn w bo own2 m2 qo S2 f2 a2 e2 v2 N2 ∧ Tryz.Dk w d PA PB U V rs ∧ Wb.Sml rs ∧
    Wb.Sep w.heap.size own1 PA PB qp d ∧ Wb.Sep w.heap.size own2 PA PB qo d ∧ (∀ k, own1 k → own2 k → False) ∧ ¬ own1 qo ∧ ¬ own2 qp ∧ qp ≠ qo ∧
    (∀ k, K k → k < w.heap.size ∧ ¬ own1 k ∧ ¬ own2 k ∧ ¬ PA k ∧ ¬ PB k ∧ k ≠ qp ∧ k ≠ qo ∧ k ≠ d) ∧ (∀ k, own1 k ∨ own2 k ∨ PA k ∨ PB k ∨ k = qp ∨ k = qo ∨ k = d → w0.heap.size ≤ k)
  bel : Below w0.heap.size w0 w
theorem Tryz.WS.swap {w0 w : World} {bp bo qp qo d : Nat} {K : Nat → Prop} {N1 N2 : Nat} (h : Tryz.WS w0 w bp bo qp qo d K N1 N2) : Tryz.WS w0 w bo bp qo qp d K N2 N1 := by
  obtain ⟨own1, own2, PA, PB, m1, m2, U, V, rs, S1, f1, a1, e1, v1, S2, f2, a2, e2, v2, h1, h2, h3, h4, h5, h6, h7, h8, h9, h10, h11, h12⟩ := h.ex
  exact ⟨⟨own2, own1, PA, PB, m2, m1, U, V, rs, S2, f2, a2, e2, v2, S1, f1, a1, e1, v1, h2, h1, h3, h4, h6, h5, fun k a b => h7 k b a, h9, h8, fun e => h10 e.symm, fun k e => by obtain ⟨g1, g2, g3, g4, g5, g6, g7, g8⟩ := h11 k e; exact ⟨g1, g3, g2, g4, g5, g7, g6, g8⟩, fun k e => h12 k (by rcases e with e | e | e | e | e | e | e; exact .inr (.inl e); exact .inl e; exact .inr (.inr (.inl e)); exact .inr (.inr (.inr (.inl e))); exact .inr (.inr (.inr (.inr (.inr (.inl e))))); exact .inr (.inr (.inr (.inr (.inl e)))); exact .inr (.inr (.inr (.inr (.inr (.inr e))))))⟩, h.bel⟩
theorem Tryz.WS.fed {w0 w : World} {bp bo qp qo d : Nat} {K : Nat → Prop} {N1 N2 : Nat} (h : Tryz.WS w0 w bp bo qp qo d K N1 N2) (t : List UInt8) (hN : N1 + t.length ≤ 99999999999) :
    Calls Tryz.prog 15 #[.pointer (some ⟨d, 0, none⟩), .pointer (some ⟨bp, 0, none⟩), .pointer (some ⟨qp, 0, none⟩), .string ⟨t.toArray⟩] w fun e w' => e = .returned (.bool true) ∧ Tryz.WS w0 w' bp bo qp qo d K (N1 + t.length) N2 ∧ ∀ k, K k → w'.heap[k]? = w.heap[k]? := by
  obtain ⟨own1, own2, PA, PB, m1, m2, U, V, rs, S1, f1, a1, e1, v1, S2, f2, a2, e2, v2, h1, h2, h3, h4, h5, h6, h7, h8, h9, h10, h11, h12⟩ := h.ex
  refine (Tryz.fed_law h1 h3 h4 h5 t hN).mono ?_
  rintro e w' ⟨rfl, hf⟩
  obtain ⟨own', PA', PB', U', V', rs', S, f, at_, er, ov, g1, g2, g3, g4, g5, g6⟩ := hf.ex
  have hw := hf.wo
  have hs := hw.size
  have hb0 := h.bel.size
  have hlt2 := Tryz.msW_lt h2.ms
  have hO2 : ∀ k, own2 k → ¬ (own1 k ∨ PA k ∨ k = qp ∨ k = d) := fun k e e2 => by
    rcases e2 with e2 | e2 | e2 | e2
    · exact h7 k e2 e
    · exact h6.oa k e e2
    · exact h9 (e2 ▸ e)
    · exact h6.od (e2 ▸ e)
  have hqo := block_lt h2.dp
  have hOq : ¬ (own1 qo ∨ PA qo ∨ qo = qp ∨ qo = d) := fun e2 => by
    rcases e2 with e2 | e2 | e2 | e2
    · exact h8 e2
    · exact h6.aq e2
    · exact h10 e2.symm
    · exact h6.qd e2
  have hcn2 : Tryz.Cn w' bo own2 m2 qo S2 f2 a2 e2 v2 N2 := ⟨Tryz.msW_keep h2.ms (fun k e => hw.block k (hlt2 k e) (hO2 k e)) hs, h2.fi, (hw.block qo hqo hOq).trans h2.dp, h2.inv, h2.le⟩
  have hnew : ∀ k, own' k ∨ PA' k → ¬ own2 k ∧ k ≠ qo := fun k e => by
    rcases g5 k e with e2 | e2 | e2
    · exact ⟨fun e3 => h7 k e2 e3, fun e3 => h8 (e3 ▸ e2)⟩
    · exact ⟨fun e3 => h6.oa k e3 e2, fun e3 => h6.aq (e3 ▸ e2)⟩
    · exact ⟨fun e3 => by have := hlt2 k e3; omega, fun e3 => by omega⟩
  have hnewB : ∀ k, PB' k → ¬ own2 k ∧ k ≠ qo := fun k e => by
    rcases g6 k e with e2 | e2
    · exact ⟨fun e3 => h6.ob k e3 e2, fun e3 => h6.bq (e3 ▸ e2)⟩
    · exact ⟨fun e3 => by have := hlt2 k e3; omega, fun e3 => by omega⟩
  have hKk : ∀ k, K k → w'.heap[k]? = w.heap[k]? := fun k e => by
    obtain ⟨q1, q2, q3, q4, q5, q6, q7, q8⟩ := h11 k e
    exact hw.block k q1 (fun e2 => by rcases e2 with e2 | e2 | e2 | e2; exact q2 e2; exact q4 e2; exact q6 e2; exact q8 e2)
  refine ⟨rfl, ⟨⟨own', own2, PA', PB', (fd m1 t).2, m2, U', V', rs', S, f, at_, er, ov, S2, f2, a2, e2, v2, g1, hcn2, g2, g3, g4, ⟨fun k a b => (hnew k (.inr b)).1 a, fun k a b => (hnewB k b).1 a, h6.oq, h6.od, fun e => (hnew qo (.inr e)).2 rfl, fun e => (hnewB qo e).2 rfl, h6.qd, fun k e => ?_⟩, fun k a b => (hnew k (.inl a)).1 b, fun e => (hnew qo (.inl e)).2 rfl, h9, h10, fun k e => ?_, fun k e => ?_⟩, ?_⟩, hKk⟩
  · rcases e with e | e | e | e | e
    · have := hlt2 k e; omega
    · exact g4.lt k (.inr (.inl e))
    · exact g4.lt k (.inr (.inr (.inl e)))
    · omega
    · exact g4.lt k (.inr (.inr (.inr (.inr e))))
  · obtain ⟨q1, q2, q3, q4, q5, q6, q7, q8⟩ := h11 k e
    have hn1 : ¬ (own' k ∨ PA' k) := fun e3 => by
      rcases g5 k e3 with e4 | e4 | e4
      · exact q2 e4
      · exact q4 e4
      · omega
    exact ⟨by omega, fun e3 => hn1 (.inl e3), q3, fun e3 => hn1 (.inr e3), fun e3 => by rcases g6 k e3 with e4 | e4; exact q5 e4; omega, q6, q7, q8⟩
  · have hold : ∀ x, own1 x ∨ PA x ∨ w.heap.size ≤ x → w0.heap.size ≤ x := fun x e3 => by
      rcases e3 with e4 | e4 | e4
      · exact h12 x (.inl e4)
      · exact h12 x (.inr (.inr (.inl e4)))
      · omega
    rcases e with e | e | e | e | e | e | e
    · exact hold k (g5 k (.inl e))
    · exact h12 k (.inr (.inl e))
    · exact hold k (g5 k (.inr e))
    · rcases g6 k e with e4 | e4
      · exact h12 k (.inr (.inr (.inr (.inl e4))))
      · omega
    · exact h12 k (.inr (.inr (.inr (.inr (.inl e)))))
    · exact h12 k (.inr (.inr (.inr (.inr (.inr (.inl e))))))
    · exact h12 k (.inr (.inr (.inr (.inr (.inr (.inr e))))))
  · exact Wo.toBelow h.bel hw (fun k e => h12 k (by rcases e with e | e | e | e; exact .inl e; exact .inr (.inr (.inl e)); exact .inr (.inr (.inr (.inr (.inl e)))); exact .inr (.inr (.inr (.inr (.inr (.inr e))))))) hb0
end Go.Proofs
