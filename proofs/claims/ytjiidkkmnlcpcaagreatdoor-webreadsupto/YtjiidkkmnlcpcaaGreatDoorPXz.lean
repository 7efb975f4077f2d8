/-
  Laid together by packg.py of Xz.
-/
import Derived.Test.YtjiidkkmnlcpcaaGreatDoorPXy
namespace Go.Wb
theorem rd_over {m : Msg} (h : over m = true) (l : List UInt8) : rd m l = (m, 0) := by
  cases l with
  | nil => rfl
  | cons c r => show (if over m then _ else _) = _; rw [if_pos h]
theorem rd_cons {m : Msg} (h : over m = false) (c : UInt8) (r : List UInt8) : rd m (c :: r) = ((rd (bite m c) r).1, (rd (bite m c) r).2 + 1) := by
  show (if over m then _ else _) = _; rw [if_neg (by rw [h]; exact Bool.false_ne_true)]
theorem over_left {m : Msg} (h : 0 < m.left) : over m = false := by
  unfold over
  have : (m.left == 0) = false := by simpa using Nat.ne_of_gt h
  rw [this, Bool.and_false]
theorem rd_fill : ∀ (a b : List UInt8) (m : Msg), 0 < m.left → a.length ≤ m.left → a ≠ [] → rd m (a ++ b) = ((rd { m with body := m.body ++ a, left := m.left - a.length, at_ := m.at_ + a.length } b).1, a.length + (rd { m with body := m.body ++ a, left := m.left - a.length, at_ := m.at_ + a.length } b).2)
  | [], _, _, _, _, h => absurd rfl h
  | [c], b, m, hp, _, _ => by
    have e : bite m c = { m with body := m.body ++ [c], left := m.left - 1, at_ := m.at_ + 1 } := by unfold bite; rw [if_pos hp]
    rw [List.singleton_append, rd_cons (over_left hp), e]
    simp only [List.length_singleton]
    rw [Nat.add_comm 1]
  | c :: d :: r, b, m, hp, hl, _ => by
    have e : bite m c = { m with body := m.body ++ [c], left := m.left - 1, at_ := m.at_ + 1 } := by unfold bite; rw [if_pos hp]
    rw [List.length_cons] at hl
    rw [List.cons_append, rd_cons (over_left hp), e, rd_fill (d :: r) b _ (by show 0 < m.left - 1; rw [List.length_cons] at hl; omega) (by show (d :: r).length ≤ m.left - 1; omega) (by simp)]
    simp only [List.append_assoc, List.singleton_append, List.length_cons]
    rw [show m.left - 1 - (r.length + 1) = m.left - (r.length + 1 + 1) by omega, show m.at_ + 1 + (r.length + 1) = m.at_ + (r.length + 1 + 1) by omega, show ∀ x, r.length + 1 + x + 1 = r.length + 1 + 1 + x by intro x; omega]
theorem fd_rd {m : Msg} (h : over m = false) : ∀ (l : List UInt8), l ≠ [] → fd m l = if whole (rd m l).1 then (req (rd m l).1 :: (fd (goOn (rd m l).1) (l.drop (rd m l).2)).1, (fd (goOn (rd m l).1) (l.drop (rd m l).2)).2) else fd (rd m l).1 (l.drop (rd m l).2) := by
  intro l hl
  induction l generalizing m with
  | nil => exact absurd rfl hl
  | cons c r ih =>
    rw [fd_cons, if_neg (by rw [h]; exact Bool.false_ne_true), rd_cons h]
    show _ = if whole (rd (bite m c) r).1 then _ else _
    cases ho : over (bite m c) with
    | true =>
      rw [rd_over ho]
      rfl
    | false =>
      have hw : whole (bite m c) = false := by unfold whole; rw [ho]; rfl
      rw [if_neg (by rw [hw]; exact Bool.false_ne_true)]
      cases hr : r with
      | nil => exact (if_neg (show ¬ whole (bite m c) = true by rw [hw]; exact Bool.false_ne_true)).symm
      | cons d q =>
        rw [hr] at ih
        rw [ih ho (by simp)]
        rfl
end Go.Wb
namespace Go.Proofs
open Go.RowKit Go.Wi Go.Wb
theorem Tryz.nilYes (w : World) : (binOp .eql 58 .nilFunc .nilFunc).run Tryz.prog w = .ok (.bool true) w := by kernel_rfl
theorem Tryz.nilNo (f : FuncId) (w : World) : (binOp .eql 58 (.func (.func f) #[] #[]) .nilFunc).run Tryz.prog w = .ok (.bool false) w := by kernel_rfl
theorem Tryz.tkV_func {t : Tk} (h : t ≠ .no) : ∃ f, Tryz.tkV t = .func (.func f) #[] #[] := by
  cases t <;> first | exact absurd rfl h | exact ⟨_, rfl⟩
set_option maxHeartbeats 1000000 in
theorem Tryz.over_any {T : TypeId} {w : World} {own : Nat → Prop} {b : Nat} {m : Msg} (h : Tryz.Ms T w own b m) :
    Calls Tryz.prog 27 #[.pointer (some ⟨b, 0, none⟩)] w fun e w' => e = .returned (.bool (Wb.over m)) ∧ w' = w := by
  obtain ⟨c0, c18⟩ : w.cell? ⟨b, 0, none⟩ = some (Tryz.tkV m.tk) ∧ w.cell? ⟨b, 18, none⟩ = some (.int .i64 m.left) := by
    obtain ⟨aw, cw, ah, ch, ab, cb, hmw⟩ := h.ex
    exact ⟨(cell_of_row _ _ 0 _ _ _ hmw.blk).trans rfl, (cell_of_row _ _ 18 _ _ _ hmw.blk).trans rfl⟩
  clear h
  have hd : Wb.over m = (m.tk == .no && m.left == 0) := rfl
  rw [hd]
  clear hd
  by_cases ht : m.tk = .no
  · have e : (m.left == 0) = ((m.left : Int) == 0) := by
      by_cases h0 : m.left = 0
      · rw [h0]; rfl
      · have a1 : (m.left == 0) = false := by simpa using h0
        have a2 : ((m.left : Int) == 0) = false := by simp; omega
        rw [a1, a2]
    rw [ht] at c0 ⊢
    rw [e, show ((Tk.no == Tk.no) = true) from rfl, Bool.true_and]
    simp only [Tryz.tkV] at c0
    have hn := Tryz.nilYes
    clear ht e
    go_enter Tryz.func27, Tryz.ntmps27
    go_wp2
    go_ret
    exact ⟨rfl, rfl⟩
  · obtain ⟨f, hf⟩ := Tryz.tkV_func ht
    rw [hf] at c0
    have hn := Tryz.nilNo f
    rw [show (m.tk == Tk.no) = false by simpa using ht, Bool.false_and]
    clear ht hf
    go_enter Tryz.func27, Tryz.ntmps27
    go_wp2
    go_ret
    exact ⟨rfl, rfl⟩
set_option maxHeartbeats 1000000 in
theorem Tryz.whole_any {T : TypeId} {w : World} {own : Nat → Prop} {b : Nat} {m : Msg} (h : Tryz.Ms T w own b m) :
    Calls Tryz.prog 20 #[.pointer (some ⟨b, 0, none⟩)] w fun e w' => e = .returned (.bool (Wb.whole m)) ∧ w' = w := by
  have ko := Tryz.over_any h
  have c21 : w.cell? ⟨b, 21, none⟩ = some (.int .i64 m.fErr) := by
    obtain ⟨aw, cw, ah, ch, ab, cb, hmw⟩ := h.ex
    exact (cell_of_row _ _ 21 _ _ _ hmw.blk).trans rfl
  clear h
  have hd : Wb.whole m = (Wb.over m && m.fErr == 0) := rfl
  rw [hd]
  clear hd
  cases ht : Wb.over m with
  | true =>
    rw [ht] at ko
    rw [Bool.true_and]
    have e : (m.fErr == 0) = ((m.fErr : Int) == 0) := by
      by_cases h0 : m.fErr = 0
      · rw [h0]; rfl
      · have a1 : (m.fErr == 0) = false := by simpa using h0
        have a2 : ((m.fErr : Int) == 0) = false := by simp; omega
        rw [a1, a2]
    rw [e]
    clear ht e
    go_enter Tryz.func20, Tryz.ntmps20
    go_wp2_with (first | (go_at_call 27; refine ko.mono ?_; clear ko; rintro e w1 ⟨rfl, rfl⟩) | fail)
    go_ret
    exact ⟨rfl, rfl⟩
  | false =>
    rw [ht] at ko
    rw [Bool.false_and]
    clear ht
    go_enter Tryz.func20, Tryz.ntmps20
    go_wp2_with (first | (go_at_call 27; refine ko.mono ?_; clear ko; rintro e w1 ⟨rfl, rfl⟩) | fail)
    go_ret
    exact ⟨rfl, rfl⟩
end Go.Proofs
