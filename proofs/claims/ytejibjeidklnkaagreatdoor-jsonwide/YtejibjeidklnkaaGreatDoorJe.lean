/-
  'whole'; 'Parse'.
-/
import Derived.Test.YtejibjeidklnkaaGreatDoorJd
import Derived.Defers
import Derived.Recover
import Derived.Laws.Pointers
namespace Go.Proofs
open Go.RowKit Go.Jv
set_option maxHeartbeats 2000000 in
theorem Tryz.whole_any (hV : Tryz.ValOk 10) {w : World} {b : Nat} {t : ByteArray} (h : Rd w b t 0 0) (hT : Tryz.Tb w) (hbg : 8 ≤ b) :
    Calls Tryz.prog 14 #[.pointer (some ⟨b, 0, none⟩)] w fun en w' =>
      (∃ v x, wholeText t = .ok v ∧ en = .returned (.pointer (some ⟨x, 0, none⟩)) ∧ Tryz.Tr w' (fun g => w.heap.size ≤ g) v x ∧ Wk b w w') ∨ (∃ p' e, wholeText t = .bad p' e ∧ Bad 40 p' e en w' ∧ Wk b w w') := by
  have hbl := Tryz.blanks_any h
  have hb := h.hb
  clear h
  go_enter Tryz.func14, Tryz.ntmps14
  go_wp2_with (first | (go_at_call 16; refine hbl.mono ?_; clear hbl; rintro e1 w1 ⟨rfl, hR1, hW1⟩) | fail)
  have hT1 := hT.wk hW1 hbg
  refine (hV w1 b t (blanks t 0) 0 hR1 hT1 hbg rfl).mono ?_
  rintro e2 w2 (⟨v, q, hq, x, rfl, h2, h3, h4⟩ | ⟨p1, e1, hq, ⟨y, hy, rfl, hy0, hy1⟩, hk3⟩)
  · have hw : wholeText t = (if blanks t q < t.size then .bad (blanks t q) eSyntax else .ok v) := by unfold wholeText; rw [hq]; rfl
    have HW : Hid (wholeText t = (if blanks t q < t.size then .bad (blanks t q) eSyntax else .ok v)) := hw
    have HTR : Hid (Tryz.Tr w2 (fun g => w1.heap.size ≤ g) v x) := h2
    have hle := Jv.blanks_le t q h3.hp
    clear hw hq h2
    have hbl := Tryz.blanks_any h3
    go_wp2_with (first | (go_at_call 16; refine hbl.mono ?_; clear hbl; rintro e3 w3 ⟨rfl, hR3, hW3⟩; have HR3 : Hid (Rd w3 b t (blanks t q) 0) := hR3; obtain ⟨c0, c1, c2, f0, f1, f2, hb3, -, -, -⟩ := hR3) | fail)
    by_cases hlt : blanks t q < t.size
    · go_quiet (fail)
      go_wp2_with (first | (go_at_call 12; refine (Tryz.fault_any _ _ _).mono ?_; rintro e9 w9 ⟨rfl, rfl⟩) | fail)
      have hq := Jv.bad_new (T := 40) (U := 48) (n := nq) (p := blanks t q) (e := 20) hb3
      exact ⟨rfl, Or.inr ⟨_, _, HW.out.trans (if_pos hlt), hq.1, ((hW1.trans h4).trans hW3).trans hq.2⟩⟩
    · have hs : blanks t q = t.size := by omega
      have hd : decide ((blanks t q : Int) < t.size) = false := decide_eq_false (by omega)
      go_quiet (fail)
      go_wp2
      go_ret
      refine Or.inl ⟨v, x, HW.out.trans (if_neg hlt), rfl, ?_, ?_⟩
      · have ho := HTR.out
        have hx : ∀ n, Tryz.Tr (w3.drewN n) (fun g => w.heap.size ≤ g) v x := fun n => by
          refine Tryz.Tr_mono (fun g hg _ => Nat.le_trans hW1.size hg) v x (Tryz.Tr_keep (w := w2) (w' := w3.drewN n) (fun g hg hlt => hW3.block g hlt (fun e => ?_)) hW3.size v x ho)
          subst e
          have := hW1.size
          have h9 : w1.heap.size ≤ g := hg
          omega
        exact hx _
      · exact ((hW1.trans h4).trans hW3).drewN _
  · have hw : wholeText t = .bad p1 e1 := by unfold wholeText; rw [hq]; rfl
    exact ⟨rfl, Or.inr ⟨_, _, hw, ⟨y, hy, rfl, hy0, hy1⟩, hW1.trans hk3⟩⟩
theorem Tryz.assertFault (v : Value) (w : World) : (Instr.typeAssert (.iface 40 v) 20 40 false).run Tryz.prog w = .ok v w := by kernel_rfl
theorem Tryz.catch_idle (p q : Addr) (w : World) :
    CallsD Tryz.prog 13 #[.pointer (some p), .pointer (some q)] .returning w fun e u' w' => e = .returned (.tuple #[]) ∧ u' = .returning ∧ w' = w := by
  refine callsD_of_wpS Tryz.func13 rfl fun c₀ cs hu => ?_
  apply wpS_seq
  apply wpS_region
  simp [wpOpsS, go_sem, recoverD, hu, Tryz.ntmps13, Exit.thenS]
  apply wpS_seq
  apply wpS_region
  simp [wpOpsS, go_sem, Exit.thenS]
  refine wpS_cond (t := false) (by simp [Act.eval, Array.replicate]) ?_
  simp only [Bool.false_eq_true, if_false]
  refine wpS_of_wp (wp_skip ?_)
  cases c₀
  simp_all [bodyPostS, results, Tryz.results13]
theorem Tryz.catch_panicking (p q : Addr) (pv : Value) (older : List PanicEntry) (w : World) (u1 u2 : Value) (hp : w.cell? p = some u1) (hq : w.cell? q = some u2) (hfp : w.frozen? p = false) (hfq : w.frozen? q = false) (hpq : p ≠ q) :
    CallsD Tryz.prog 13 #[.pointer (some p), .pointer (some q)] (.panicking ({ v := .iface 40 pv, recovered := false } :: older)) w fun e u' w' =>
      e = .returned (.tuple #[]) ∧ u' = .panicking ({ v := .iface 40 pv, recovered := true } :: older) ∧ w' = ((w.setCell p (.pointer none)).setCell q (.iface 40 pv)).drew := by
  refine callsD_of_wpS Tryz.func13 rfl fun c₀ cs hu => ?_
  apply wpS_seq
  apply wpS_region
  simp [wpOpsS, go_sem, recoverD, hu, Tryz.ntmps13, Exit.thenS]
  apply wpS_seq
  apply wpS_region
  simp [wpOpsS, go_sem, Exit.thenS]
  refine wpS_cond (t := true) (by simp [Act.eval, Array.replicate]) ?_
  simp only [if_true]
  refine wpS_of_wp ?_
  have et : (#[Value.pointer (some p), Value.pointer (some q)] ++ ((((Array.replicate 7 undef).setIfInBounds 1 (Value.iface 40 pv)).setIfInBounds 0 (Value.iface 40 pv)).setIfInBounds 2 (Value.iface 40 pv)).setIfInBounds 3 (Value.bool true)) = #[Value.pointer (some p), Value.pointer (some q), .iface 40 pv, .iface 40 pv, .iface 40 pv, .bool true, undef, undef, undef] := rfl
  rw [et]
  have hta : ∀ (v : Value) (w : World), (Instr.typeAssert (.iface 40 v) 20 40 false).run Tryz.prog w = .ok v w := fun v w => Tryz.assertFault v w
  go_region
  simp [bodyPostS, results, Tryz.results13]
/-- What 'Parse' answers. -/
def Tryz.ParseOk (t : ByteArray) (w : World) (en : Ending) (w' : World) : Prop :=
  (∃ v x, parse t = .ok v ∧ en = .returned (.tuple #[.pointer (some ⟨x, 0, none⟩), .nilIface]) ∧ Tryz.Tr w' (fun g => w.heap.size ≤ g) v x ∧ Below w.heap.size w w') ∨
  (∃ p e y, parse t = .bad p e ∧ en = .returned (.tuple #[.pointer none, .iface 40 (.pointer (some ⟨y, 0, none⟩))]) ∧ w'.cell? ⟨y, 0, none⟩ = some (.int .i64 p) ∧ w'.cell? ⟨y, 1, none⟩ = some (.int .i64 e) ∧ Below w.heap.size w w')
set_option maxHeartbeats 4000000 in
theorem Tryz.parse_long (t : ByteArray) (a : Option Addr) (c : Nat) (w : World) (h : 4096 < t.size) (hs : t.size ≤ 140737488355328) :
    Calls Tryz.prog 8 #[.slice a t.size c] w fun en w' => Tryz.ParseOk t w en w' := by
  have hp : parse t = .bad 4096 eSize := by unfold parse; rw [if_pos h]
  have HP : Hid (parse t = .bad 4096 eSize) := hp
  have h' : (4096 : Int) < t.size := by omega
  clear hp h
  go_enter_defers Tryz.func8, Tryz.ntmps8
  go_wp2_with (first | (go_at_call 12; refine (Tryz.fault_any _ _ _).mono ?_; rintro e9 w9 ⟨rfl, rfl⟩) | fail)
  have hB : Below w.heap.size w (((w.alloc (.cells #[.pointer none] 27)).alloc (.cells #[.iface 40 (.pointer (some ⟨w.heap.size + 1 + 1, 0, none⟩))] 29)).alloc (.cells #[.int .i64 4096, .int .i64 22] 48)) :=
    (((Below.refl _ w).alloc (Nat.le_refl _) _).alloc (by simp) _).alloc (by simp; omega) _
  refine ⟨.tuple #[.pointer none, .iface 40 (.pointer (some ⟨w.heap.size + 1 + 1, 0, none⟩))], by simp [results, Tryz.results8, go_sem], ?_⟩
  exact Or.inr ⟨4096, 22, w.heap.size + 1 + 1, HP.out, rfl, by simp [go_sem], by simp [go_sem], hB⟩
set_option maxHeartbeats 4000000 in
theorem Tryz.parse_short (hV : Tryz.ValOk 10) (t : ByteArray) (a : Option Addr) (c : Nat) (w : World) (h : t.size ≤ 4096) (hT : Tryz.Tb w)
    (hcv : ∀ W : World, Below w.heap.size w W → (convert 32 9 (.slice a t.size c)).run Tryz.prog W = .ok (.string t) W) :
    Calls Tryz.prog 8 #[.slice a t.size c] w fun en w' => Tryz.ParseOk t w en w' := by
  have hp : parse t = wholeText t := by unfold parse; rw [if_neg (by omega)]
  have HP : Hid (parse t = wholeText t) := hp
  have h' : ¬ (4096 : Int) < t.size := by omega
  have hmf : ∀ (fn : Fn) (first cap : Array Value) (w : World), (Instr.makeFunc fn first cap).run Tryz.prog w = .ok (.func fn first cap) w := fun _ _ _ _ => rfl
  have hcv' := hcv _ (((Below.refl w.heap.size w).alloc (Nat.le_refl _) (.cells #[.pointer none] 27)).alloc (by simp) (.cells #[.nilIface] 29))
  clear hp hcv
  go_enter_defers Tryz.func8, Tryz.ntmps8
  go_wp2_with (first | fail)
  have hB0 : Below w.heap.size w (((w.alloc (.cells #[.pointer none] 27)).alloc (.cells #[.nilIface] 29)).alloc (.cells #[.string t, .int .i64 0, .int .i64 0] 43)) :=
    (((Below.refl _ w).alloc (Nat.le_refl _) _).alloc (by simp) _).alloc (by simp; omega) _
  have hT0 := hT.below hB0 hT.size
  have hR0 : Rd (((w.alloc (.cells #[.pointer none] 27)).alloc (.cells #[.nilIface] 29)).alloc (.cells #[.string t, .int .i64 0, .int .i64 0] 43)) (w.heap.size + 1 + 1) t 0 0 := by
    refine ⟨?_, ?_, ?_, ?_, ?_, ?_, by simp, Nat.zero_le _, h, by omega⟩ <;> simp [go_sem]
  have hc1 : (((w.alloc (.cells #[.pointer none] 27)).alloc (.cells #[.nilIface] 29)).alloc (.cells #[.string t, .int .i64 0, .int .i64 0] 43)).cell? ⟨w.heap.size, 0, none⟩ = some (.pointer none) := by simp [go_sem]
  have hc2 : (((w.alloc (.cells #[.pointer none] 27)).alloc (.cells #[.nilIface] 29)).alloc (.cells #[.string t, .int .i64 0, .int .i64 0] 43)).cell? ⟨w.heap.size + 1, 0, none⟩ = some .nilIface := by simp [go_sem]
  have hf1 : (((w.alloc (.cells #[.pointer none] 27)).alloc (.cells #[.nilIface] 29)).alloc (.cells #[.string t, .int .i64 0, .int .i64 0] 43)).frozen? ⟨w.heap.size, 0, none⟩ = false := by simp [go_sem]
  have hf2 : (((w.alloc (.cells #[.pointer none] 27)).alloc (.cells #[.nilIface] 29)).alloc (.cells #[.string t, .int .i64 0, .int .i64 0] 43)).frozen? ⟨w.heap.size + 1, 0, none⟩ = false := by simp [go_sem]
  have hz0 : (((w.alloc (.cells #[.pointer none] 27)).alloc (.cells #[.nilIface] 29)).alloc (.cells #[.string t, .int .i64 0, .int .i64 0] 43)).heap.size = w.heap.size + 3 := by simp
  have hwh := Tryz.whole_any hV hR0 hT0 (by have := hT.size; omega)
  clear hcv' hR0 hT0
  refine hwh.mono ?_
  clear hwh
  generalize (((w.alloc (.cells #[.pointer none] 27)).alloc (.cells #[.nilIface] 29)).alloc (.cells #[.string t, .int .i64 0, .int .i64 0] 43)) = W at hB0 hc1 hc2 hf1 hf2 hz0
  rintro e3 w3 (⟨v, x, hq, rfl, htr, hk⟩ | ⟨p1, e1, hq, ⟨y, hy, rfl, hy0, hy1⟩, hk⟩)
  · have d1 := (hk.cell (p := ⟨w.heap.size, 0, none⟩) (by show w.heap.size < _; omega) (by show w.heap.size ≠ _; omega)).trans hc1
    have d2 := (hk.cell (p := ⟨w.heap.size + 1, 0, none⟩) (by show w.heap.size + 1 < _; omega) (by show w.heap.size + 1 ≠ _; omega)).trans hc2
    have g1 := (hk.frozen (p := ⟨w.heap.size, 0, none⟩) (by show w.heap.size < _; omega) (by show w.heap.size ≠ _; omega)).trans hf1
    have g2 := (hk.frozen (p := ⟨w.heap.size + 1, 0, none⟩) (by show w.heap.size + 1 < _; omega) (by show w.heap.size + 1 ≠ _; omega)).trans hf2
    have HQ : Hid (wholeText t = .ok v) := hq
    have HTR : Hid (Tryz.Tr w3 (fun g => W.heap.size ≤ g) v x) := htr
    clear hq htr hc1 hc2 hf1 hf2
    go_wp2
    have hB3 := Wk.toBelow hB0 hk (by omega)
    have hW4 : Below w.heap.size w ((w3.setCell ⟨w.heap.size, 0, none⟩ (.pointer (some ⟨x, 0, none⟩))).setCell ⟨w.heap.size + 1, 0, none⟩ .nilIface) := (hB3.setCell (Nat.le_refl _) _).setCell (by show w.heap.size ≤ w.heap.size + 1; omega) _
    have r1 : ((w3.setCell ⟨w.heap.size, 0, none⟩ (.pointer (some ⟨x, 0, none⟩))).setCell ⟨w.heap.size + 1, 0, none⟩ .nilIface).cell? ⟨w.heap.size, 0, none⟩ = some (.pointer (some ⟨x, 0, none⟩)) := by
      rw [World.cell?_setCell_other _ _ _ _ (by simp)]
      exact World.cell?_setCell_same' _ _ _ (by rw [d1]; rfl)
    have r2 : ((w3.setCell ⟨w.heap.size, 0, none⟩ (.pointer (some ⟨x, 0, none⟩))).setCell ⟨w.heap.size + 1, 0, none⟩ .nilIface).cell? ⟨w.heap.size + 1, 0, none⟩ = some .nilIface :=
      World.cell?_setCell_same' _ _ _ (by rw [World.cell?_setCell_other _ _ _ _ (by simp), d2]; rfl)
    have hTr : Tryz.Tr ((w3.setCell ⟨w.heap.size, 0, none⟩ (.pointer (some ⟨x, 0, none⟩))).setCell ⟨w.heap.size + 1, 0, none⟩ .nilIface) (fun g => w.heap.size ≤ g) v x := by
      refine Tryz.Tr_mono (ok := fun g => W.heap.size ≤ g) (fun g hg _ => by show w.heap.size ≤ g; have h9 : W.heap.size ≤ g := hg; omega) v x (Tryz.Tr_keep (w := w3) (fun g hg _ => ?_) (by simp) v x HTR.out)
      have h9 : W.heap.size ≤ g := hg
      rw [Below.heap_setCell _ _ _ g (by show g ≠ w.heap.size + 1; omega), Below.heap_setCell _ _ _ g (by show g ≠ w.heap.size; omega)]
    refine leaves_cons (f := 13) (args := #[.pointer (some ⟨w.heap.size, 0, none⟩), .pointer (some ⟨w.heap.size + 1, 0, none⟩)]) (by simp) (by simp [go_sem]) ?_
    refine (Tryz.catch_idle ⟨w.heap.size, 0, none⟩ ⟨w.heap.size + 1, 0, none⟩ _).mono ?_
    rintro e4 u' w4 ⟨rfl, rfl, rfl⟩
    refine ⟨.tuple #[.pointer (some ⟨x, 0, none⟩), .nilIface], by simp [results, Tryz.results8, go_sem, r1, r2], ?_⟩
    exact Or.inl ⟨v, x, HP.out.trans HQ.out, rfl, hTr, hW4⟩
  · have d1 := (hk.cell (p := ⟨w.heap.size, 0, none⟩) (by show w.heap.size < _; omega) (by show w.heap.size ≠ _; omega)).trans hc1
    have d2 := (hk.cell (p := ⟨w.heap.size + 1, 0, none⟩) (by show w.heap.size + 1 < _; omega) (by show w.heap.size + 1 ≠ _; omega)).trans hc2
    have g1 := (hk.frozen (p := ⟨w.heap.size, 0, none⟩) (by show w.heap.size < _; omega) (by show w.heap.size ≠ _; omega)).trans hf1
    have g2 := (hk.frozen (p := ⟨w.heap.size + 1, 0, none⟩) (by show w.heap.size + 1 < _; omega) (by show w.heap.size + 1 ≠ _; omega)).trans hf2
    have HQ : Hid (wholeText t = .bad p1 e1) := hq
    clear hq hc1 hc2 hf1 hf2
    refine leaves_cons (f := 13) (args := #[.pointer (some ⟨w.heap.size, 0, none⟩), .pointer (some ⟨w.heap.size + 1, 0, none⟩)]) (by simp) (by simp [go_sem]) ?_
    refine (Tryz.catch_panicking ⟨w.heap.size, 0, none⟩ ⟨w.heap.size + 1, 0, none⟩ _ [] _ _ _ d1 d2 g1 g2 (by simp)).mono ?_
    rintro e4 u' w4 ⟨rfl, rfl, rfl⟩
    have hB3 := Wk.toBelow hB0 hk (by omega)
    have hW4 : Below w.heap.size w (((w3.setCell ⟨w.heap.size, 0, none⟩ (.pointer none)).setCell ⟨w.heap.size + 1, 0, none⟩ (.iface 40 (.pointer (some ⟨y, 0, none⟩)))).drew) := ((hB3.setCell (Nat.le_refl _) _).setCell (by show w.heap.size ≤ w.heap.size + 1; omega) _).drew
    have ny1 : y ≠ w.heap.size := by rintro rfl; rw [d1] at hy0; cases hy0
    have ny2 : y ≠ w.heap.size + 1 := by rintro rfl; rw [d2] at hy0; cases hy0
    have q : ∀ k u1 u2, ((w3.setCell ⟨w.heap.size, 0, none⟩ u1).setCell ⟨w.heap.size + 1, 0, none⟩ u2).drew.cell? ⟨y, k, none⟩ = w3.cell? ⟨y, k, none⟩ := fun k u1 u2 => by
      show ((w3.setCell ⟨w.heap.size, 0, none⟩ u1).setCell ⟨w.heap.size + 1, 0, none⟩ u2).cell? ⟨y, k, none⟩ = _
      rw [World.cell?_setCell_other _ _ _ _ (by intro e; injection e with e; omega), World.cell?_setCell_other _ _ _ _ (by intro e; injection e with e; omega)]
    have r1 : ((w3.setCell ⟨w.heap.size, 0, none⟩ (.pointer none)).setCell ⟨w.heap.size + 1, 0, none⟩ (.iface 40 (.pointer (some ⟨y, 0, none⟩)))).cell? ⟨w.heap.size, 0, none⟩ = some (.pointer none) := by
      rw [World.cell?_setCell_other _ _ _ _ (by simp)]
      exact World.cell?_setCell_same' _ _ _ (by rw [d1]; rfl)
    have r2 : ((w3.setCell ⟨w.heap.size, 0, none⟩ (.pointer none)).setCell ⟨w.heap.size + 1, 0, none⟩ (.iface 40 (.pointer (some ⟨y, 0, none⟩)))).cell? ⟨w.heap.size + 1, 0, none⟩ = some (.iface 40 (.pointer (some ⟨y, 0, none⟩))) :=
      World.cell?_setCell_same' _ _ _ (by rw [World.cell?_setCell_other _ _ _ _ (by simp), d2]; rfl)
    refine ⟨.tuple #[.pointer none, .iface 40 (.pointer (some ⟨y, 0, none⟩))], by simp [results, Tryz.results8, go_sem, r1, r2], ?_⟩
    exact Or.inr ⟨p1, e1, y, HP.out.trans HQ.out, rfl, (q _ _ _).trans hy0, (q _ _ _).trans hy1, hW4⟩
end Go.Proofs
