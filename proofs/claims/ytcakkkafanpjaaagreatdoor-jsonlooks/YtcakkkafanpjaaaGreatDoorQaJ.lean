/-
  Laid together by packg.py of TmA TmB TmT TmC.
-/
import Derived.Test.YtcakkkafanpjaaaGreatDoorQaB
import Derived.Test.YtcakkkafanpjaaaGreatDoorQaD
import Derived.Deep.RegionHeld3
import Derived.Deep.QuietTactic
import Derived.Deep.Cut
import Derived.BigQuiet
namespace Go.Jv
open Go.RowKit
/-- The document's reader: a text, a place, open brackets, a fault and its place. -/
structure Dn where
  s : ByteArray
  i : Nat
  o : Nat
  e : Nat
  a : Nat
def Dn.cells (x : Dn) : Array Value := #[.string x.s, .int .i64 x.i, .int .i64 x.o, .int .i64 x.e, .int .i64 x.a]
def Dn.fail (x : Dn) (a e : Nat) : Dn := if x.e = 0 then { x with e := e, a := a } else x
structure Dn.good (x : Dn) (t : ByteArray) (o : Nat) : Prop where
  tx : x.s = t
  i : x.i ≤ t.size
  len : t.size ≤ 4096
  op : x.o = o
  ol : o ≤ 10
/-- The reader stands as a reading says. -/
def Dfit {α : Type} (x : Dn) : R (α × Nat) → Prop
  | .bad a e => x.e = e ∧ e ≠ 0 ∧ x.a = a
  | .ok y => x.e = 0 ∧ x.i = y.2
/-- The byte at hand, below nought where there is none. -/
def byteJ {α : Type} (t : ByteArray) : R (α × Nat) → Int
  | .ok y => if y.2 < t.size then (((t.get! y.2).toNat : Nat) : Int) else -1
  | .bad _ _ => -1
def Dn.next (x : Dn) : Int := if x.e ≠ 0 ∨ x.s.size ≤ x.i then -1 else (((x.s.get! x.i).toNat : Nat) : Int)
theorem dfit_next {α : Type} {x : Dn} {t : ByteArray} {o : Nat} {Q : R (α × Nat)} (g : x.good t o) (f : Dfit x Q) : x.next = byteJ t Q := by
  cases Q with
  | bad a e => exact if_pos (.inl (by rw [f.1]; exact f.2.1))
  | ok y =>
    have f1 : x.e = 0 := f.1
    have f2 : x.i = y.2 := f.2
    show (if _ then _ else _) = (if _ then _ else _)
    rw [g.tx, f2]
    by_cases h : y.2 < t.size
    · rw [if_neg (by rintro (e | e) <;> omega), if_pos h]
    · rw [if_pos (.inr (by omega)), if_neg h]
theorem dfit_fail {α β : Type} {x : Dn} {t : ByteArray} {o : Nat} {Q : R (α × Nat)} (g : x.good t o) (f : Dfit x Q) (a e : Nat) (he : e ≠ 0) : (x.fail a e).good t o ∧ Dfit (x.fail a e) (Q.bind fun _ => (.bad a e : R (β × Nat))) := by
  cases Q with
  | bad a2 e2 =>
    have hn : x.fail a e = x := if_neg fun h => f.2.1 (by rw [← f.1]; exact h)
    rw [hn]; exact ⟨g, f⟩
  | ok y =>
    have hn : x.fail a e = { x with e := e, a := a } := if_pos f.1
    rw [hn]
    exact ⟨⟨g.tx, g.i, g.len, g.op, g.ol⟩, rfl, he, rfl⟩
theorem Wk.same {b : Nat} {w wr W : World} (h : Wk b w wr) (e1 : W.heap = wr.heap) (e2 : W.os = wr.os) (e3 : W.tape = wr.tape) (e4 : W.output = wr.output) : Wk b w W :=
  ⟨e2.trans h.os, e3.trans h.tape, e4.trans h.output, by rw [e1]; exact h.size, fun k hk hb => by rw [e1]; exact h.block k hk hb⟩
theorem Rbind_ok {α β : Type} (a : α) (g : α → R β) : (R.ok a).bind g = g a := rfl
theorem Rbind_bad {α β : Type} (p e : Nat) (g : α → R β) : (R.bad p e : R α).bind g = .bad p e := rfl
theorem Rbind_bind {α β γ : Type} (Q : R α) (f : α → R β) (g : β → R γ) : (Q.bind f).bind g = Q.bind fun a => (f a).bind g := by cases Q <;> rfl
theorem byteJ_cases {α : Type} (t : ByteArray) (Q : R (α × Nat)) : byteJ t Q = -1 ∨ ∃ y, Q = .ok y ∧ y.2 < t.size ∧ byteJ t Q = (((t.get! y.2).toNat : Nat) : Int) := by
  cases Q with
  | bad a e => exact .inl rfl
  | ok y =>
    by_cases h : y.2 < t.size
    · exact .inr ⟨y, rfl, h, if_pos h⟩
    · exact .inl (if_neg h)
end Go.Jv
namespace Go.Proofs
open Go.RowKit Go.Jv
def Tryz.Dc (w : World) (p : Nat) (x : Dn) : Prop := w.heap[p]? = some (.cells x.cells 95 (0, 0))
theorem Tryz.Dc.c {w : World} {p : Nat} {x : Dn} (h : Tryz.Dc w p x) : w.cell? ⟨p, 0, none⟩ = some (.string x.s) ∧ w.cell? ⟨p, 1, none⟩ = some (.int .i64 x.i) ∧ w.cell? ⟨p, 2, none⟩ = some (.int .i64 x.o) ∧ w.cell? ⟨p, 3, none⟩ = some (.int .i64 x.e) ∧ w.cell? ⟨p, 4, none⟩ = some (.int .i64 x.a) :=
  ⟨cell_of_row _ _ 0 _ _ _ h, cell_of_row _ _ 1 _ _ _ h, cell_of_row _ _ 2 _ _ _ h, cell_of_row _ _ 3 _ _ _ h, cell_of_row _ _ 4 _ _ _ h⟩
theorem Tryz.Dc.fz {w : World} {p : Nat} {x : Dn} (h : Tryz.Dc w p x) (j : Nat) : w.frozen? ⟨p, j, none⟩ = false := frozen_of_row _ _ j _ _ h
theorem Tryz.Dc.lt {w : World} {p : Nat} {x : Dn} (h : Tryz.Dc w p x) : p < w.heap.size := (Array.getElem?_eq_some_iff.1 h).1
/-- The document's reader in memory stands as a reading says. -/
structure Tryz.DS (w : World) (p : Nat) (t : ByteArray) (o : Nat) {α : Type} (Q : R (α × Nat)) : Prop where
  ex : ∃ x, Tryz.Dc w p x ∧ x.good t o ∧ Dfit x Q
theorem Tryz.DS.heap {α : Type} {w w' : World} {p : Nat} {t : ByteArray} {o : Nat} {Q : R (α × Nat)} (h : Tryz.DS w p t o Q) (e : w'.heap[p]? = w.heap[p]?) : Tryz.DS w' p t o Q := by
  obtain ⟨x, h1, h2⟩ := h.ex
  exact ⟨x, e.trans h1, h2⟩
theorem Tryz.DS.drewN {α : Type} {w : World} {p : Nat} {t : ByteArray} {o : Nat} {Q : R (α × Nat)} (h : Tryz.DS w p t o Q) (n : Nat) : Tryz.DS (w.drewN n) p t o Q := ⟨h.ex⟩
theorem Tryz.DS.lt {α : Type} {w : World} {p : Nat} {t : ByteArray} {o : Nat} {Q : R (α × Nat)} (h : Tryz.DS w p t o Q) : p < w.heap.size := by obtain ⟨x, h1, _⟩ := h.ex; exact h1.lt
theorem Tryz.DS.below {α : Type} {w w' : World} {p : Nat} {t : ByteArray} {o : Nat} {Q : R (α × Nat)} (h : Tryz.DS w p t o Q) {B : Nat} (hb : Below B w w') (hp : p < B) : Tryz.DS w' p t o Q := h.heap (hb.block p hp)
/-- The text and the place, whatever is so. -/
theorem Tryz.DS.place {α : Type} {w : World} {p : Nat} {t : ByteArray} {o : Nat} {Q : R (α × Nat)} (h : Tryz.DS w p t o Q) : ∃ i e : Nat, w.cell? ⟨p, 0, none⟩ = some (.string t) ∧ w.cell? ⟨p, 1, none⟩ = some (.int .i64 i) ∧ w.cell? ⟨p, 2, none⟩ = some (.int .i64 o) ∧ w.cell? ⟨p, 3, none⟩ = some (.int .i64 e) ∧ (∀ j, w.frozen? ⟨p, j, none⟩ = false) ∧ i ≤ t.size ∧ t.size ≤ 4096 ∧ o ≤ 10 ∧ (∀ y, Q = .ok y → y.2 = i ∧ e = 0) ∧ (∀ a k, Q = .bad a k → e = k ∧ e ≠ 0) := by
  obtain ⟨x, h1, h2, h3⟩ := h.ex
  obtain ⟨c0, c1, c2, c3, c4⟩ := Tryz.Dc.c h1
  rw [h2.tx] at c0
  rw [h2.op] at c2
  exact ⟨x.i, x.e, c0, c1, c2, c3, fun j => Tryz.Dc.fz h1 j, h2.i, h2.len, h2.ol, fun y e => by rw [e] at h3; exact ⟨h3.2.symm, h3.1⟩, fun a k e => by rw [e] at h3; exact ⟨h3.1, by rw [h3.1]; exact h3.2.1⟩⟩
theorem Tryz.DS.to {α β : Type} {w : World} {p : Nat} {t : ByteArray} {o : Nat} {Q : R (α × Nat)} (h : Tryz.DS w p t o Q) (f : R (β × Nat)) (hf : ∀ x, Dfit x Q → Dfit x f) : Tryz.DS w p t o f := by
  obtain ⟨x, h1, h2, h3⟩ := h.ex
  exact ⟨x, h1, h2, hf x h3⟩
/-- Another value at the same place. -/
theorem Tryz.DS.val {α β : Type} {w : World} {p : Nat} {t : ByteArray} {o : Nat} {y : α × Nat} (h : Tryz.DS w p t o (.ok y : R (α × Nat))) (v : β) : Tryz.DS w p t o (.ok (v, y.2) : R (β × Nat)) := h.to _ fun _ e => e
theorem Tryz.DS.dead {α β : Type} {w : World} {p : Nat} {t : ByteArray} {o a e : Nat} (h : Tryz.DS w p t o (.bad a e : R (α × Nat))) : Tryz.DS w p t o (.bad a e : R (β × Nat)) := h.to _ fun _ e => e
/-- The place is set. -/
theorem Tryz.DS.move {α β : Type} {w : World} {p : Nat} {t : ByteArray} {o : Nat} {y : α × Nat} (h : Tryz.DS w p t o (.ok y : R (α × Nat))) (n : Nat) (z : Int) (q : Nat) (hz : z = (q : Int)) (hq : q ≤ t.size) (v : β) : Tryz.DS ((w.drewN n).setCell ⟨p, 1, none⟩ (.int .i64 z)) p t o (.ok (v, q) : R (β × Nat)) := by
  obtain ⟨x, h1, h2, h3⟩ := h.ex
  subst hz
  exact ⟨{ x with i := q }, heap_setCell_same (w.drewN n) p 1 _ _ (.int .i64 q) h1, ⟨h2.tx, hq, h2.len, h2.op, h2.ol⟩, h3.1, rfl⟩
theorem Tryz.DS.move0 {α β : Type} {w : World} {p : Nat} {t : ByteArray} {o : Nat} {y : α × Nat} (h : Tryz.DS w p t o (.ok y : R (α × Nat))) (z : Int) (q : Nat) (hz : z = (q : Int)) (hq : q ≤ t.size) (v : β) : Tryz.DS (w.setCell ⟨p, 1, none⟩ (.int .i64 z)) p t o (.ok (v, q) : R (β × Nat)) := h.move 0 z q hz hq v
/-- The brackets are set. -/
theorem Tryz.DS.brackets {α : Type} {w : World} {p : Nat} {t : ByteArray} {o : Nat} {Q : R (α × Nat)} (h : Tryz.DS w p t o Q) (n : Nat) (z : Int) (q : Nat) (hz : z = (q : Int)) (hq : q ≤ 10) : Tryz.DS ((w.drewN n).setCell ⟨p, 2, none⟩ (.int .i64 z)) p t q Q := by
  obtain ⟨x, h1, h2, h3⟩ := h.ex
  subst hz
  refine ⟨{ x with o := q }, heap_setCell_same (w.drewN n) p 2 _ _ (.int .i64 q) h1, ⟨h2.tx, h2.i, h2.len, rfl, hq⟩, ?_⟩
  cases Q with
  | bad a e => exact h3
  | ok y => exact h3
set_option maxRecDepth 20000 in
set_option maxHeartbeats 1000000 in
theorem Tryz.dsFail {α : Type} (β : Type) {w : World} {p : Nat} {t : ByteArray} {o : Nat} {Q : R (α × Nat)} (h : Tryz.DS w p t o Q) (a er : Nat) (he : er ≠ 0) :
    Calls Tryz.prog 59 #[.pointer (some ⟨p, 0, none⟩), .int .i64 a, .int .i64 er] w fun e w' => (∃ v, e = .returned v) ∧ Tryz.DS w' p t o (Q.bind fun _ => (.bad a er : R (β × Nat))) ∧ Wk p w w' ∧ w'.heap.size = w.heap.size := by
  obtain ⟨x, h1, h2, h3⟩ := h.ex
  obtain ⟨g2, g3⟩ := dfit_fail (β := β) h2 h3 a er he
  obtain ⟨c0, c1, c2, c3, c4⟩ := Tryz.Dc.c h1
  have f3 := Tryz.Dc.fz h1 3
  have f4 := Tryz.Dc.fz h1 4
  by_cases hx : x.e = 0
  · have q : ((x.e : Int) == 0) = true := by rw [hx]; rfl
    have e1 := heap_setCell_same w p 3 _ _ (.int .i64 er) h1
    have e2 := heap_setCell_same _ p 4 _ _ (.int .i64 a) e1
    have HE : Hid (Tryz.DS ((w.setCell ⟨p, 3, none⟩ (.int .i64 er)).setCell ⟨p, 4, none⟩ (.int .i64 a)) p t o (Q.bind fun _ => (.bad a er : R (β × Nat)))) := (by
      have ef : x.fail a er = { x with e := er, a := a } := if_pos hx
      rw [ef] at g2 g3
      exact ⟨{ x with e := er, a := a }, e2, g2, g3⟩)
    have HW : Hid (Wk p w ((w.setCell ⟨p, 3, none⟩ (.int .i64 er)).setCell ⟨p, 4, none⟩ (.int .i64 a))) := ((Wk.refl p w).setCell 3 _ _).setCell 4 _ _
    clear e1 e2 h h1 h2 h3 g2 g3 hx
    go_enter Tryz.func59, Tryz.ntmps59
    go_wp2
    exact bodyPost_end (results_none rfl _ _ _) rfl ⟨⟨_, rfl⟩, HE.out, HW.out, by simp⟩
  · have q : ((x.e : Int) == 0) = false := by simp; omega
    have HE : Hid (Tryz.DS w p t o (Q.bind fun _ => (.bad a er : R (β × Nat)))) := (by
      have ef : x.fail a er = x := if_neg hx
      rw [ef] at g2 g3
      exact ⟨_, h1, g2, g3⟩)
    clear h h1 h2 h3 g2 g3 hx
    go_enter Tryz.func59, Tryz.ntmps59
    go_wp2
    exact bodyPost_end (results_none rfl _ _ _) rfl ⟨⟨_, rfl⟩, HE.out, Wk.refl _ _, rfl⟩
set_option maxRecDepth 20000 in
set_option maxHeartbeats 1000000 in
theorem Tryz.dsNext {α : Type} {w : World} {p : Nat} {t : ByteArray} {o : Nat} {Q : R (α × Nat)} (h : Tryz.DS w p t o Q) :
    Calls Tryz.prog 58 #[.pointer (some ⟨p, 0, none⟩)] w fun e w' => e = .returned (.int .i64 (byteJ t Q)) ∧ ∃ n, w' = w.drewN n := by
  obtain ⟨x, h1, h2, h3⟩ := h.ex
  have HN : Hid (x.next = byteJ t Q) := dfit_next h2 h3
  obtain ⟨c0, c1, c2, c3, c4⟩ := Tryz.Dc.c h1
  have hi := h2.i
  have hl := h2.len
  rw [h2.tx] at c0
  have ht := h2.tx
  by_cases he : x.e = 0
  · have q : ((x.e : Int) != 0) = false := by rw [he]; rfl
    by_cases hlt : x.i < t.size
    · have q1 : ¬ (t.size : Int) ≤ (x.i : Int) := by omega
      have q1d : decide ((t.size : Int) ≤ (x.i : Int)) = false := decide_eq_false q1
      have q1e : decide ((x.i : Int) ≥ (t.size : Int)) = false := q1d
      have q0 : (0 : Int) ≤ (x.i : Int) := by omega
      have q5 : (x.i : Int) < (t.size : Int) := by omega
      have HV : Hid (x.next = (((t.get! x.i).toNat : Nat) : Int)) := (by show x.next = _; unfold Dn.next; rw [ht, if_neg (by rintro (e | e) <;> omega)])
      obtain ⟨c, hc⟩ : ∃ c, t.get! x.i = c := ⟨_, rfl⟩
      have hix : ∀ hh : x.i < t.size, t[x.i]'hh = c := fun hh => (Jv.get_eq t x.i hh).trans hc
      rw [hc] at HV
      have hwc : wrap64 ((c.toNat : Nat) : Int) = ((c.toNat : Nat) : Int) := by
        have := c.toNat_lt
        unfold wrap64
        omega
      generalize x.next = nx at *
      generalize x.i = xi at *
      generalize x.e = xe at *
      clear h h1 h2 h3 he hc ht
      go_enter Tryz.func58, Tryz.ntmps58
      go_upto_region 3 with (fail)
      go_quiet (fail)
      go_upto_region 20 with (fail)
      go_quiet (fail)
      go_wp2
      go_ret
      exact ⟨by rw [← HN.out, HV.out]; exact congrArg (fun z => Ending.returned (.int .i64 z)) hwc, _, Jv.drewN2 _ _ _⟩
    · have q1 : (t.size : Int) ≤ (x.i : Int) := by omega
      have q1d : decide ((t.size : Int) ≤ (x.i : Int)) = true := decide_eq_true q1
      have q1e : decide ((x.i : Int) ≥ (t.size : Int)) = true := q1d
      have HV : Hid (x.next = -1) := (by show x.next = _; unfold Dn.next; rw [if_pos (.inr (by rw [ht]; omega))])
      generalize x.next = nx at *
      generalize x.i = xi at *
      generalize x.e = xe at *
      clear h h1 h2 h3 he ht
      go_enter Tryz.func58, Tryz.ntmps58
      go_upto_region 3 with (fail)
      go_quiet (fail)
      go_wp2
      go_ret
      exact ⟨by rw [← HN.out, HV.out]; rfl, _, rfl⟩
  · have q : ((x.e : Int) != 0) = true := by simp; omega
    have HV : Hid (x.next = -1) := (by show x.next = _; unfold Dn.next; rw [if_pos (.inl he)])
    generalize x.next = nx at *
    generalize x.i = xi at *
    generalize x.e = xe at *
    clear h h1 h2 h3 he ht
    go_enter Tryz.func58, Tryz.ntmps58
    go_upto_region 3 with (fail)
    go_quiet (fail)
    go_wp2
    go_ret
    exact ⟨by rw [← HN.out, HV.out]; rfl, _, rfl⟩
end Go.Proofs
namespace Go.Jv
open Go.RowKit
def ltI (z : Int) : Bool := decide ((97 ≤ z ∧ z ≤ 122) ∨ (65 ≤ z ∧ z ≤ 90))
def dgI (z : Int) : Bool := decide (48 ≤ z ∧ z ≤ 57)
theorem ltI_byte (c : UInt8) : ltI ((c.toNat : Nat) : Int) = isLetter c := by
  rw [Bool.eq_iff_iff]; simp only [ltI, isLetter, decide_eq_true_eq]; omega
theorem dgI_byte (c : UInt8) : dgI ((c.toNat : Nat) : Int) = isDigit c := by
  rw [Bool.eq_iff_iff]; simp only [dgI, isDigit, decide_eq_true_eq]; omega
theorem blank_byte (c : UInt8) : isBlank c = true ↔ ((c.toNat : Int) = 32 ∨ (c.toNat : Int) = 9 ∨ (c.toNat : Int) = 10 ∨ (c.toNat : Int) = 13) := by
  simp only [isBlank, decide_eq_true_eq]; omega
end Go.Jv
namespace Go.Proofs
open Go.RowKit Go.Jv
theorem Tryz.letterI_any (z : Int) (w : World) : Calls Tryz.prog 78 #[.int .i64 z] w fun en w' => en = .returned (.bool (ltI z)) ∧ w' = w := by
  go_enter Tryz.func78, Tryz.ntmps78
  go_wp2
  all_goals
    go_ret
    refine ⟨Jv.ret_bool ?_, rfl⟩
    rw [Bool.eq_iff_iff]
    simp [ltI]
    try omega
theorem Tryz.digitI_any (z : Int) (w : World) : Calls Tryz.prog 79 #[.int .i64 z] w fun en w' => en = .returned (.bool (dgI z)) ∧ w' = w := by
  go_enter Tryz.func79, Tryz.ntmps79
  go_wp2
  all_goals
    go_ret
    refine ⟨Jv.ret_bool ?_, rfl⟩
    rw [Bool.eq_iff_iff]
    simp [dgI]
    try omega
/-- How much is left to be read; nought, where reading is over. -/
def Jv.leftN {α : Type} (t : ByteArray) : R (α × Nat) → Nat
  | .ok y => t.size - y.2 + 1
  | .bad _ _ => 0
theorem Tryz.DS.le {α : Type} {w : World} {p : Nat} {t : ByteArray} {o : Nat} {y : α × Nat} (h : Tryz.DS w p t o (.ok y : R (α × Nat))) : y.2 ≤ t.size := by
  obtain ⟨i, e, _, _, _, _, _, hi, _, _, hy, _⟩ := h.place
  rw [(hy y rfl).1]; exact hi
def Jv.blQ {α : Type} (t : ByteArray) (Q : R (α × Nat)) : R (α × Nat) := Q.bind fun y => .ok (y.1, blanks t y.2)
theorem Jv.blQ_dead {α : Type} {t : ByteArray} {Q : R (α × Nat)} (h : byteJ t Q = -1) : Jv.blQ t Q = Q := by
  cases Q with
  | bad a e => rfl
  | ok y =>
    have hn : ¬ y.2 < t.size := fun e => by
      have h2 : byteJ t (.ok y : R (α × Nat)) = (((t.get! y.2).toNat : Nat) : Int) := if_pos e
      rw [h2] at h; omega
    show R.ok (y.1, blanks t y.2) = _
    rw [blanks, Jv.run_stop isBlank t y.2 (fun e => absurd e hn)]
theorem Jv.blQ_stop {α : Type} {t : ByteArray} {y : α × Nat} (h : isBlank (t.get! y.2) = false) : Jv.blQ t (.ok y) = .ok y := by
  show R.ok (y.1, blanks t y.2) = _
  rw [blanks, Jv.run_stop isBlank t y.2 (fun _ => h)]
theorem Jv.blQ_step {α : Type} {t : ByteArray} {y : α × Nat} (hl : y.2 < t.size) (h : isBlank (t.get! y.2) = true) : Jv.blQ t (.ok (y.1, y.2 + 1)) = Jv.blQ t (.ok y) := by
  show R.ok (y.1, blanks t (y.2 + 1)) = R.ok (y.1, blanks t y.2)
  rw [blanks, blanks, Jv.run_step isBlank t y.2 hl h]
set_option maxRecDepth 20000 in
set_option maxHeartbeats 2000000 in
theorem Tryz.dsBlanks {α : Type} {w : World} {p : Nat} {t : ByteArray} {o : Nat} {Q : R (α × Nat)} (h : Tryz.DS w p t o Q) :
    Calls Tryz.prog 56 #[.pointer (some ⟨p, 0, none⟩)] w fun e w' => (∃ v, e = .returned v) ∧ Tryz.DS w' p t o (Jv.blQ t Q) ∧ Wk p w w' ∧ w'.heap.size = w.heap.size := by
  have H0 : Hid (Tryz.DS w p t o Q) := h
  clear h
  go_enter Tryz.func56, Tryz.ntmps56
  go_wp2
  go_loopg [] (Jv.leftN t Q) (fun k wr => ∃ S : R (α × Nat), k = Jv.leftN t S ∧ Hid (Jv.blQ t S = Jv.blQ t Q) ∧ Hid (Tryz.DS wr p t o S) ∧ Hid (Wk p w wr) ∧ Hid (wr.heap.size = w.heap.size))
  case atStart => exact ⟨Q, rfl, rfl, H0.out, Wk.refl _ _, rfl⟩
  case round =>
    clear H0
    obtain ⟨S, hk, hE, hS, hW, hz⟩ := hrel
    have k1 : Hid (∀ W : World, W.heap = wr.heap → Calls Tryz.prog 58 #[.pointer (some ⟨p, 0, none⟩)] W fun e w' => e = .returned (.int .i64 (byteJ t S)) ∧ ∃ n, w' = W.drewN n) := fun W h => Tryz.dsNext (hS.out.heap (by rw [h]))
    have HK : Hid (gk = Jv.leftN t S) := hk
    clear hk
    rcases byteJ_cases t S with hb | ⟨y, rfl, hlt, hb⟩
    · have HB : Hid (Jv.blQ t S = S) := Jv.blQ_dead hb
      rw [hb] at k1
      clear hb
      go_wp2_with (first | (go_at_call 58; refine (k1.out _ (by rfl)).mono ?_; rintro e w1 ⟨rfl, n1, rfl⟩) | fail)
      exact bodyPost_end (results_none rfl _ _ _) rfl ⟨⟨_, rfl⟩, by rw [← hE.out, HB.out]; exact hS.out.heap rfl, Wk.same hW.out rfl rfl rfl rfl, hz.out⟩
    · have hc0 := Tryz.DS.place hS.out
      obtain ⟨i, er, -, c1, -, -, fz, hi, hs, -, hy, -⟩ := hc0
      obtain ⟨e1, -⟩ := hy y rfl
      have f1 := fz 1
      rw [← e1] at c1
      have HS2 : Hid (∀ (W : World) (z : Int), W.heap = wr.heap → z = (y.2 : Int) + 1 → Tryz.DS (W.setCell ⟨p, 1, none⟩ (.int .i64 z)) p t o (.ok (y.1, y.2 + 1) : R (α × Nat))) := fun W z e hz => (hS.out.heap (w' := W) (by rw [e])).move0 z (y.2 + 1) (by omega) hlt y.1
      have HL : Hid (∀ q, Jv.leftN t (.ok (y.1, q) : R (α × Nat)) = t.size - q + 1) := fun q => rfl
      have HB1 : Hid (isBlank (t.get! y.2) = true → Jv.blQ t (.ok (y.1, y.2 + 1)) = Jv.blQ t (.ok y)) := fun h => Jv.blQ_step hlt h
      have HB2 : Hid (isBlank (t.get! y.2) = false → Jv.blQ t (.ok y) = .ok y) := fun h => Jv.blQ_stop h
      have HD : Hid (isBlank (t.get! y.2) = true ↔ (((t.get! y.2).toNat : Int) = 32 ∨ ((t.get! y.2).toNat : Int) = 9 ∨ ((t.get! y.2).toNat : Int) = 10 ∨ ((t.get! y.2).toNat : Int) = 13)) := blank_byte _
      rw [hb] at k1
      generalize t.get! y.2 = c at *
      generalize hq : y.2 = q at *
      have hl2 : q ≤ 4096 := by omega
      clear hb hy fz e1
      go_wp2_with (first | (go_at_call 58; refine (k1.out _ (by rfl)).mono ?_; rintro e w1 ⟨rfl, n1, rfl⟩) | fail)
      all_goals first
        | exact bodyPost_end (results_none rfl _ _ _) rfl ⟨⟨_, rfl⟩, by rw [← hE.out, HB2.out (Bool.eq_false_iff.2 fun e => by have h3 := HD.out.1 e; clear e; rename_i hh; simp only [beq_eq_false_iff_ne, ne_eq] at hh; omega)]; exact hS.out.heap rfl, Wk.same hW.out rfl rfl rfl rfl, hz.out⟩
        | (go_roundg (t.size - (q + 1) + 1)
           case measure => have h1 : gk = t.size - y.2 + 1 := HK.out; omega
           case rel => exact ⟨.ok (y.1, q + 1), rfl, by show Jv.blQ _ _ = _; rw [HB1.out (HD.out.2 (by first | omega | (rename_i hh; simp only [beq_iff_eq] at hh; omega)))]; exact hE.out, HS2.out _ _ rfl rfl, (by refine Wk.setCell ?_ _ _ _; exact Wk.same hW.out rfl rfl rfl rfl), by have h1 := hz.out; show _ = _; simpa using h1⟩)
/-- What 'must' leaves. -/
def Jv.muQ {α : Type} (t : ByteArray) (c : UInt8) (Q : R (α × Nat)) : R (α × Nat) := Q.bind fun y => (Jv.take t y.2 c).bind fun q => .ok (y.1, q)
set_option maxRecDepth 20000 in
set_option maxHeartbeats 1000000 in
theorem Tryz.dsMust {α : Type} {w : World} {p : Nat} {t : ByteArray} {o : Nat} {Q : R (α × Nat)} (h : Tryz.DS w p t o Q) (c : UInt8) :
    Calls Tryz.prog 111 #[.pointer (some ⟨p, 0, none⟩), .int .u8 c.toNat] w fun e w' => (∃ v, e = .returned v) ∧ Tryz.DS w' p t o (Jv.muQ t c Q) ∧ Wk p w w' ∧ w'.heap.size = w.heap.size := by
  have k1 := Tryz.dsNext h
  have hcl := c.toNat_lt
  obtain ⟨i, er, -, c1, -, -, fz, hi, hs, -, hy, hbd⟩ := h.place
  have f1 := fz 1
  have HDS : Hid (Tryz.DS w p t o Q) := h
  rcases byteJ_cases t Q with hb | ⟨y, rfl, hlt, hb⟩
  · have hM : Jv.muQ t c Q = Q.bind fun _ => .bad i eSyntax := by
      cases Q with
      | bad a e => rfl
      | ok y =>
        have e1 := (hy y rfl).1
        have hn : ¬ y.2 < t.size := fun e => by
          have h2 : byteJ t (.ok y : R (α × Nat)) = (((t.get! y.2).toNat : Nat) : Int) := if_pos e
          rw [h2] at hb; omega
        show (Jv.take t y.2 c).bind _ = _
        unfold Jv.take
        rw [if_neg (fun e => hn e.1), ← e1]; rfl
    have HM : Hid (Jv.muQ t c Q = Q.bind fun _ => .bad i eSyntax) := hM
    have kf : ∀ n, Calls Tryz.prog 59 #[.pointer (some ⟨p, 0, none⟩), .int .i64 i, .int .i64 20] (w.drewN n) _ := fun n => Tryz.dsFail α (h.drewN n) i 20 (by decide)
    have q1 : ((-1 : Int) != (c.toNat : Int)) = true := by simp only [bne_iff_ne, ne_eq]; omega
    have hwc : wrap64 (c.toNat : Int) = (c.toNat : Int) := by unfold wrap64; omega
    rw [hb] at k1
    clear hb hM h hy hbd fz
    go_enter Tryz.func111, Tryz.ntmps111
    go_wp2_with (first | (go_at_call 58; refine k1.mono ?_; clear k1; rintro e w1 ⟨rfl, n1, rfl⟩) | (go_at_call 59; refine (kf _).mono ?_; clear kf; rintro e w2 ⟨⟨v, rfl⟩, G1, G2, G3⟩) | fail)
    exact bodyPost_ret (results_none rfl _ _ _) rfl ⟨⟨_, rfl⟩, by rw [HM.out]; exact G1, (by have h1 := G2; exact ((Wk.refl p w).drewN n1).trans h1), G3⟩
  · obtain ⟨e1, -⟩ := hy y rfl
    rw [hb] at k1
    by_cases hc : t.get! y.2 = c
    · have HM : Hid (Jv.muQ t c (.ok y) = .ok (y.1, y.2 + 1)) := (by
        show (Jv.take t y.2 c).bind _ = _
        unfold Jv.take
        rw [if_pos ⟨hlt, hc⟩]; rfl)
      have HS2 : Hid (∀ (W : World) (z : Int), W.heap = w.heap → z = (y.2 : Int) + 1 → Tryz.DS (W.setCell ⟨p, 1, none⟩ (.int .i64 z)) p t o (.ok (y.1, y.2 + 1) : R (α × Nat))) := fun W z e hz => (h.heap (w' := W) (by rw [e])).move0 z (y.2 + 1) (by omega) hlt y.1
      rw [hc] at k1
      rw [← e1] at c1
      have hwc : wrap64 (c.toNat : Int) = (c.toNat : Int) := by unfold wrap64; omega
      have hl2 : y.2 ≤ 4096 := by omega
      generalize y.2 = q at *
      clear hb h hy hbd fz e1 hc HDS
      go_enter Tryz.func111, Tryz.ntmps111
      go_wp2_with (first | (go_at_call 58; refine k1.mono ?_; clear k1; rintro e w1 ⟨rfl, n1, rfl⟩) | fail)
      exact bodyPost_end (results_none rfl _ _ _) rfl ⟨⟨_, rfl⟩, by rw [HM.out]; exact HS2.out _ _ rfl rfl, (by refine Wk.setCell ?_ _ _ _; exact Wk.same (Wk.refl p w) rfl rfl rfl rfl), by simp⟩
    · have HM : Hid (Jv.muQ t c (.ok y) = (.ok y : R (α × Nat)).bind fun _ => .bad i eSyntax) := (by
        show (Jv.take t y.2 c).bind _ = _
        unfold Jv.take
        rw [if_neg (fun e => hc e.2), ← e1]; rfl)
      have kf : ∀ n, Calls Tryz.prog 59 #[.pointer (some ⟨p, 0, none⟩), .int .i64 i, .int .i64 20] (w.drewN n) _ := fun n => Tryz.dsFail α (h.drewN n) i 20 (by decide)
      have hwc : wrap64 (c.toNat : Int) = (c.toNat : Int) := by unfold wrap64; omega
      have q1 : (((t.get! y.2).toNat : Int) != (c.toNat : Int)) = true := by
        simp only [bne_iff_ne, ne_eq]
        exact fun e => hc (UInt8.toNat_inj.1 (by omega))
      generalize t.get! y.2 = d at *
      clear hb h hy hbd fz e1 hc HDS
      go_enter Tryz.func111, Tryz.ntmps111
      go_wp2_with (first | (go_at_call 58; refine k1.mono ?_; clear k1; rintro e w1 ⟨rfl, n1, rfl⟩) | (go_at_call 59; refine (kf _).mono ?_; clear kf; rintro e w2 ⟨⟨v, rfl⟩, G1, G2, G3⟩) | fail)
      exact bodyPost_ret (results_none rfl _ _ _) rfl ⟨⟨_, rfl⟩, by rw [HM.out]; exact G1, (by have h1 := G2; exact ((Wk.refl p w).drewN n1).trans h1), G3⟩
end Go.Proofs
namespace Go.Proofs
open Go.RowKit Go.Jv
mutual
/-- The block x holds the document's value v, all of it in blocks that may be. -/
def Tryz.Td (w : World) (ok : Nat → Prop) : V → Nat → Prop
  | .null, x => ok x ∧ Jv.Vb w x 0 false 0 emp Jv.nilS Jv.nilS
  | .bool b, x => ok x ∧ Jv.Vb w x 1 b 0 emp Jv.nilS Jv.nilS
  | .int n, x => (ok x ∧ -maxInt ≤ n ∧ n ≤ maxInt) ∧ Jv.Vb w x 2 false n emp Jv.nilS Jv.nilS
  | .text s, x => ok x ∧ Jv.Vb w x 3 false 0 s Jv.nilS Jv.nilS
  | .list l, x => ok x ∧ ∃ (sv : Value) (xs : List Nat), Jv.Vb w x 4 false 0 emp sv Jv.nilS ∧ Jv.Rw w ok 25 sv (Jv.ptrs xs) ∧ Tryz.Tds w ok l xs
  | .obj ks l, x => ok x ∧ ∃ (kv sv : Value) (xs : List Nat), Jv.Vb w x 5 false 0 emp sv kv ∧ Jv.Rw w ok 9 kv (ks.map Value.string) ∧ Jv.Rw w ok 25 sv (Jv.ptrs xs) ∧ Tryz.Tds w ok l xs ∧ ks.length = xs.length
def Tryz.Tds (w : World) (ok : Nat → Prop) : List V → List Nat → Prop
  | [], xs => xs = []
  | v :: l, xs => ∃ x r, xs = x :: r ∧ Tryz.Td w ok v x ∧ Tryz.Tds w ok l r
end
mutual
theorem Tryz.Td_keep {w w' : World} {ok : Nat → Prop} (hk : ∀ g, ok g → g < w.heap.size → w'.heap[g]? = w.heap[g]?) (hs : w.heap.size ≤ w'.heap.size) : ∀ (v : V) (x : Nat), Tryz.Td w ok v x → Tryz.Td w' ok v x
  | .null, x, h => by unfold Tryz.Td at h ⊢; exact ⟨h.1, h.2.keep (hk x h.1 h.2.lt) hs⟩
  | .bool b, x, h => by unfold Tryz.Td at h ⊢; exact ⟨h.1, h.2.keep (hk x h.1 h.2.lt) hs⟩
  | .int n, x, h => by unfold Tryz.Td at h ⊢; exact ⟨h.1, h.2.keep (hk x h.1.1 h.2.lt) hs⟩
  | .text s, x, h => by unfold Tryz.Td at h ⊢; exact ⟨h.1, h.2.keep (hk x h.1 h.2.lt) hs⟩
  | .list l, x, h => by
    unfold Tryz.Td at h ⊢
    obtain ⟨h1, sv, xs, h2, h3, h4⟩ := h
    exact ⟨h1, sv, xs, h2.keep (hk x h1 h2.lt) hs, h3.keep hk, Tryz.Tds_keep hk hs l xs h4⟩
  | .obj ks l, x, h => by
    unfold Tryz.Td at h ⊢
    obtain ⟨h1, kv, sv, xs, h2, h3, h4, h5, h6⟩ := h
    exact ⟨h1, kv, sv, xs, h2.keep (hk x h1 h2.lt) hs, h3.keep hk, h4.keep hk, Tryz.Tds_keep hk hs l xs h5, h6⟩
theorem Tryz.Tds_keep {w w' : World} {ok : Nat → Prop} (hk : ∀ g, ok g → g < w.heap.size → w'.heap[g]? = w.heap[g]?) (hs : w.heap.size ≤ w'.heap.size) : ∀ (l : List V) (xs : List Nat), Tryz.Tds w ok l xs → Tryz.Tds w' ok l xs
  | [], xs, h => by unfold Tryz.Tds at h ⊢; exact h
  | v :: l, xs, h => by
    unfold Tryz.Tds at h ⊢
    obtain ⟨x, r, h1, h2, h3⟩ := h
    exact ⟨x, r, h1, Tryz.Td_keep hk hs v x h2, Tryz.Tds_keep hk hs l r h3⟩
end
mutual
theorem Tryz.Td_mono {w : World} {ok ok' : Nat → Prop} (hm : ∀ g, ok g → g < w.heap.size → ok' g) : ∀ (v : V) (x : Nat), Tryz.Td w ok v x → Tryz.Td w ok' v x
  | .null, x, h => by unfold Tryz.Td at h ⊢; exact ⟨hm x h.1 h.2.lt, h.2⟩
  | .bool b, x, h => by unfold Tryz.Td at h ⊢; exact ⟨hm x h.1 h.2.lt, h.2⟩
  | .int n, x, h => by unfold Tryz.Td at h ⊢; exact ⟨⟨hm x h.1.1 h.2.lt, h.1.2⟩, h.2⟩
  | .text s, x, h => by unfold Tryz.Td at h ⊢; exact ⟨hm x h.1 h.2.lt, h.2⟩
  | .list l, x, h => by
    unfold Tryz.Td at h ⊢
    obtain ⟨h1, sv, xs, h2, h3, h4⟩ := h
    exact ⟨hm x h1 h2.lt, sv, xs, h2, h3.mono hm, Tryz.Tds_mono hm l xs h4⟩
  | .obj ks l, x, h => by
    unfold Tryz.Td at h ⊢
    obtain ⟨h1, kv, sv, xs, h2, h3, h4, h5, h6⟩ := h
    exact ⟨hm x h1 h2.lt, kv, sv, xs, h2, h3.mono hm, h4.mono hm, Tryz.Tds_mono hm l xs h5, h6⟩
theorem Tryz.Tds_mono {w : World} {ok ok' : Nat → Prop} (hm : ∀ g, ok g → g < w.heap.size → ok' g) : ∀ (l : List V) (xs : List Nat), Tryz.Tds w ok l xs → Tryz.Tds w ok' l xs
  | [], xs, h => by unfold Tryz.Tds at h ⊢; exact h
  | v :: l, xs, h => by
    unfold Tryz.Tds at h ⊢
    obtain ⟨x, r, h1, h2, h3⟩ := h
    exact ⟨x, r, h1, Tryz.Td_mono hm v x h2, Tryz.Tds_mono hm l r h3⟩
end
theorem Tryz.Tds_len {w : World} {ok : Nat → Prop} : ∀ (l : List V) (xs : List Nat), Tryz.Tds w ok l xs → xs.length = l.length
  | [], xs, h => by unfold Tryz.Tds at h; subst h; rfl
  | v :: l, xs, h => by
    unfold Tryz.Tds at h
    obtain ⟨x, r, rfl, h2, h3⟩ := h
    simp [Tryz.Tds_len l r h3]
theorem Tryz.Tds_snoc {w : World} {ok : Nat → Prop} {v : V} {x : Nat} (hv : Tryz.Td w ok v x) : ∀ (l : List V) (xs : List Nat), Tryz.Tds w ok l xs → Tryz.Tds w ok (l ++ [v]) (xs ++ [x])
  | [], xs, h => by
    unfold Tryz.Tds at h; subst h
    exact ⟨x, [], rfl, hv, rfl⟩
  | u :: l, xs, h => by
    unfold Tryz.Tds at h
    obtain ⟨y, r, rfl, h2, h3⟩ := h
    exact ⟨y, r ++ [x], rfl, h2, Tryz.Tds_snoc hv l r h3⟩
end Go.Proofs
namespace Go.Proofs
open Go.RowKit Go.Jv
/-- A value's pointer as an answer, where there is one; the reader stands as the reading says. -/
structure Tryz.Vd (w : World) (p : Nat) (t : ByteArray) (o : Nat) (Q : R (V × Nat)) (en : Ending) (w' : World) : Prop where
  val : ∃ a : Option Addr, en = .returned (.pointer a) ∧ ∀ v q, Q = .ok (v, q) → ∃ x, a = some ⟨x, 0, none⟩ ∧ Tryz.Td w' (fun g => w.heap.size ≤ g) v x
  rd : Tryz.DS w' p t o Q
  wk : Wk p w w'
theorem Tryz.vd_none {w w' : World} {p : Nat} {t : ByteArray} {o : Nat} {Q : R (V × Nat)} {a e : Nat} (hQ : Q = .bad a e) (hR : Tryz.DS w' p t o (.bad a e : R (V × Nat))) (hW : Wk p w w') (x : Option Addr) : Tryz.Vd w p t o Q (.returned (.pointer x)) w' := by
  subst hQ
  exact ⟨⟨_, rfl, fun v q e => by cases e⟩, hR, hW⟩
theorem Tryz.vd_new {w w1 : World} {p : Nat} {t : ByteArray} {o q : Nat} {Q : R (V × Nat)} {ob : Obj} {v : V} (hQ : Q = .ok (v, q)) (hR : Tryz.DS w1 p t o (.ok (v, q) : R (V × Nat))) (hW : Wk p w w1) (hv : w.heap.size ≤ w1.heap.size → Tryz.Td (w1.alloc ob) (fun g => w.heap.size ≤ g) v w1.heap.size) :
    Tryz.Vd w p t o Q (.returned (.pointer (some ⟨w1.heap.size, 0, none⟩))) (w1.alloc ob) := by
  subst hQ
  refine ⟨⟨_, rfl, fun v' q' e => ?_⟩, hR.heap (Below.heap_alloc w1 ob p hR.lt), hW.below ((Below.refl w1.heap.size _).alloc (Nat.le_refl _) _) hW.size⟩
  injection e with e
  injection e with e1 e2
  subst e1
  exact ⟨_, rfl, hv hW.size⟩
set_option maxRecDepth 20000 in
set_option maxHeartbeats 4000000 in
theorem Tryz.dsWord {α : Type} {w : World} {p : Nat} {t : ByteArray} {o : Nat} {y : α × Nat} (h : Tryz.DS w p t o (.ok y : R (α × Nat))) :
    Calls Tryz.prog 80 #[.pointer (some ⟨p, 0, none⟩)] w fun e w' => Tryz.Vd w p t o (word t y.2) e w' := by
  obtain ⟨i, er, c0, c1, -, -, fz, hi, hs, -, hy, -⟩ := h.place
  obtain ⟨e1, -⟩ := hy y rfl
  rw [← e1] at c1 hi
  have f1 := fz 1
  have hw : word t y.2 = (if (sub t y.2 (run isLetter t y.2)).data.toList = [110, 117, 108, 108] then .ok (.null, run isLetter t y.2) else if (sub t y.2 (run isLetter t y.2)).data.toList = [116, 114, 117, 101] then .ok (.bool true, run isLetter t y.2) else if (sub t y.2 (run isLetter t y.2)).data.toList = [102, 97, 108, 115, 101] then .ok (.bool false, run isLetter t y.2) else .bad y.2 eSyntax) := rfl
  have HW : Hid (word t y.2 = _) := hw
  have hrl := Jv.run_le isLetter t y.2 hi
  obtain ⟨yv, p0⟩ := y
  have H0 : Hid (Tryz.DS w p t o (.ok (yv, p0) : R (α × Nat))) := h
  obtain ⟨E, hE⟩ : ∃ E, run isLetter t p0 = E := ⟨_, rfl⟩
  simp only [hE] at hw HW hrl
  have HE : Hid (run isLetter t p0 = E) := hE
  clear hw hy fz e1 h hE
  go_enter Tryz.func80, Tryz.ntmps80
  go_wp2
  go_loopg [] (t.size - p0) (fun k wr => ∃ q : Nat, k = t.size - q ∧ p0 ≤ q ∧ q ≤ t.size ∧ Hid (run isLetter t q = E) ∧ Hid (Tryz.DS wr p t o (.ok (yv, q) : R (α × Nat))) ∧ Hid (Wk p w wr) ∧ Hid (wr.heap.size = w.heap.size))
  case atStart => exact ⟨p0, rfl, Nat.le_refl _, hi, HE.out, H0.out, Wk.refl _ _, rfl⟩
  case round =>
    obtain ⟨q, hk, hpq, hq, hR, hS, hW, hz⟩ := hrel
    clear H0 c0 c1 f1
    have HK : Hid (gk = t.size - q) := hk
    clear hk
    have k1 : Hid (∀ W : World, W.heap = wr.heap → Calls Tryz.prog 58 #[.pointer (some ⟨p, 0, none⟩)] W fun e w' => e = .returned (.int .i64 (byteJ t (.ok (yv, q) : R (α × Nat)))) ∧ ∃ n, w' = W.drewN n) := fun W h => Tryz.dsNext (hS.out.heap (by rw [h]))
    obtain ⟨i2, er2, c0, c1, -, -, fz, -, -, -, hy, -⟩ := hS.out.place
    obtain ⟨e1, -⟩ := hy _ rfl
    have e1 : q = i2 := e1
    subst e1
    have f1 := fz 1
    clear hy fz
    by_cases hlt : q < t.size ∧ isLetter (t.get! q) = true
    · have hb : byteJ t (.ok (yv, q) : R (α × Nat)) = (((t.get! q).toNat : Nat) : Int) := if_pos hlt.1
      have kl : Calls Tryz.prog 78 #[.int .i64 (((t.get! q).toNat : Nat) : Int)] = _ := rfl
      clear kl
      have hlet : ltI (((t.get! q).toNat : Nat) : Int) = true := by rw [ltI_byte]; exact hlt.2
      have kl : ∀ W, Calls Tryz.prog 78 #[.int .i64 (((t.get! q).toNat : Nat) : Int)] W fun en w' => en = .returned (.bool true) ∧ w' = W := fun W => (by have h1 := Tryz.letterI_any (((t.get! q).toNat : Nat) : Int) W; rw [hlet] at h1; exact h1)
      have HS : Hid (run isLetter t (q + 1) = E) := (Jv.run_step isLetter t q hlt.1 hlt.2).symm.trans hR.out
      have HS2 : Hid (∀ (W : World) (z : Int), W.heap = wr.heap → z = (q : Int) + 1 → Tryz.DS (W.setCell ⟨p, 1, none⟩ (.int .i64 z)) p t o (.ok (yv, q + 1) : R (α × Nat))) := fun W z e hz => (hS.out.heap (w' := W) (by rw [e])).move0 z (q + 1) (by omega) hlt.1 yv
      have hl1 := hlt.1
      rw [hb] at k1
      clear hlet hlt hb
      go_wp2_with (first | (go_at_call 58; refine (k1.out _ (by rfl)).mono ?_; rintro e w1 ⟨rfl, n1, rfl⟩) | (go_at_call 78; refine (kl _).mono ?_; rintro e w2 ⟨rfl, rfl⟩) | fail)
      go_roundg (t.size - (q + 1))
      case measure => have h1 : gk = t.size - q := HK.out; omega
      case rel => exact ⟨q + 1, rfl, by omega, hl1, HS.out, HS2.out _ _ rfl rfl, (by refine Wk.setCell ?_ _ _ _; exact Wk.same hW.out rfl rfl rfl rfl), by have h1 := hz.out; show _ = _; simpa using h1⟩
    · have hst : run isLetter t q = q := Jv.run_stop isLetter t q fun e => by
        cases hx : isLetter (t.get! q) with
        | true => exact absurd ⟨e, hx⟩ hlt
        | false => rfl
      have hqE : q = E := hst.symm.trans hR.out
      have hlet : ltI (byteJ t (.ok (yv, q) : R (α × Nat))) = false := by
        by_cases hl : q < t.size
        · have hb : byteJ t (.ok (yv, q) : R (α × Nat)) = (((t.get! q).toNat : Nat) : Int) := if_pos hl
          rw [hb, ltI_byte]
          cases hx : isLetter (t.get! q) with
          | true => exact absurd ⟨hl, hx⟩ hlt
          | false => rfl
        · have hb : byteJ t (.ok (yv, q) : R (α × Nat)) = -1 := if_neg hl
          rw [hb]; rfl
      generalize byteJ t (.ok (yv, q) : R (α × Nat)) = z at k1 hlet
      have kl : ∀ W, Calls Tryz.prog 78 #[.int .i64 z] W fun en w' => en = .returned (.bool false) ∧ w' = W := fun W => (by have h1 := Tryz.letterI_any z W; rw [hlet] at h1; exact h1)
      subst hqE
      clear hlet hlt hst HE
      have kf : ∀ W : World, W.heap = wr.heap → Calls Tryz.prog 59 #[.pointer (some ⟨p, 0, none⟩), .int .i64 p0, .int .i64 20] W _ := fun W e => Tryz.dsFail V (hS.out.heap (w' := W) (by rw [e])) p0 20 (by decide)
      have q0 : (0 : Int) ≤ (p0 : Int) := by omega
      have q1 : (p0 : Int) ≤ (q : Int) := by omega
      have q2 : (q : Int) ≤ (t.size : Int) := by omega
      go_wp2_with (first | (go_at_call 58; refine (k1.out _ (by rfl)).mono ?_; clear k1; rintro e w1 ⟨rfl, n1, rfl⟩) | (go_at_call 78; refine (kl _).mono ?_; clear kl; rintro e w2 ⟨rfl, rfl⟩) | fail)
      go_quiet (fail)
      have HX : Hid (sub t p0 q = t.extract p0 q) := rfl
      rw [HX.out] at HW
      clear HX
      have HA : Hid (∀ (W : World) (v : V), W.heap = wr.heap → Tryz.DS W p t o (.ok (v, q) : R (V × Nat))) := fun W v e => (hS.out.heap (w' := W) (by rw [e])).val v
      have HB : Hid (∀ (W : World), W.heap = wr.heap → W.os = wr.os → W.tape = wr.tape → W.output = wr.output → Wk p w W) := fun W e1 e2 e3 e4 => Wk.same hW.out e1 e2 e3 e4
      have HV : Hid (∀ (W : World) (v : V) (ob : Obj), W.heap = wr.heap → W.os = wr.os → W.tape = wr.tape → W.output = wr.output → word t p0 = .ok (v, q) → (w.heap.size ≤ W.heap.size → Tryz.Td (W.alloc ob) (fun g => w.heap.size ≤ g) v W.heap.size) → Tryz.Vd w p t o (word t p0) (.returned (.pointer (some ⟨wr.heap.size, 0, none⟩))) (W.alloc ob)) := fun W v ob e1 e2 e3 e4 h5 h6 => by
        have h7 := Tryz.vd_new (ob := ob) h5 (HA.out W v e1) (HB.out W e1 e2 e3 e4) h6
        rw [e1] at h7
        exact h7
      generalize t.extract p0 q = s at *
      by_cases h1 : s = ⟨#[110, 117, 108, 108]⟩
      · subst h1
        go_wp2
        go_ret
        exact HV.out _ (.null) _ rfl rfl rfl rfl (HW.out.trans (by simp)) fun h => ⟨h, Jv.Vb.new _ 0 false 0 emp Jv.nilS Jv.nilS _⟩
      · have n1 : (s.toList == [110, 117, 108, 108]) = false := Jv.bytes_ne h1
        have m1 : Hid (¬ s.data.toList = [110, 117, 108, 108]) := fun h => h1 ((Jv.bytes_eq s _).2 h)
        clear h1
        by_cases h2 : s = ⟨#[116, 114, 117, 101]⟩
        · subst h2
          go_wp2
          go_ret
          exact HV.out _ (.bool true) _ rfl rfl rfl rfl (HW.out.trans (by simp)) fun h => ⟨h, Jv.Vb.new _ 1 true 0 emp Jv.nilS Jv.nilS _⟩
        · have n2 : (s.toList == [116, 114, 117, 101]) = false := Jv.bytes_ne h2
          have m2 : Hid (¬ s.data.toList = [116, 114, 117, 101]) := fun h => h2 ((Jv.bytes_eq s _).2 h)
          clear h2
          by_cases h3 : s = ⟨#[102, 97, 108, 115, 101]⟩
          · subst h3
            go_wp2
            go_ret
            exact HV.out _ (.bool false) _ rfl rfl rfl rfl (HW.out.trans (by simp)) fun h => ⟨h, Jv.Vb.new _ 1 false 0 emp Jv.nilS Jv.nilS _⟩
          · have n3 : (s.toList == [102, 97, 108, 115, 101]) = false := Jv.bytes_ne h3
            have m3 : Hid (¬ s.data.toList = [102, 97, 108, 115, 101]) := fun h => h3 ((Jv.bytes_eq s _).2 h)
            clear h3
            go_wp2_with (first | (go_at_call 59; refine (kf _ (by rfl)).mono ?_; clear kf; rintro e w2 ⟨⟨v, rfl⟩, G1, G2, G3⟩) | fail)
            go_ret
            exact Tryz.vd_none (HW.out.trans ((if_neg m1.out).trans ((if_neg m2.out).trans (if_neg m3.out)))) G1 ((HB.out _ (by rfl) (by rfl) (by rfl) (by rfl)).trans G2) none
end Go.Proofs
