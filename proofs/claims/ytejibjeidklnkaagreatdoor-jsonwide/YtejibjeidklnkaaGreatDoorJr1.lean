/-
  THE READER's SMALL FUNCTIONS.
-/
import Derived.Test.YtejibjeidklnkaaGreatDoorProg
import Derived.Test.YtejibjeidklnkaaGreatDoorJv
import Derived.Test.YtejibjeidklnkaaGreatDoorJw
import Derived.WalkKit
import Derived.WalkLawsBesides
import Derived.WalkSpells
import Derived.Deep.QuietTactic
import Derived.BigQuiet
import Derived.Outline
import Derived.Test.YtejibjeidklnkaaGreatDoorShelf
namespace Go.Proofs
open Go.RowKit Go.Jv
theorem Jv.get_eq (t : ByteArray) (p : Nat) (h : p < t.size) : t[p] = t.get! p := by
  obtain ⟨a⟩ := t; exact (getElem!_pos a p h).symm
theorem Jv.drewN2 (w : World) (a b : Nat) : (w.drewN a).drewN b = w.drewN (a + b) := by simp [World.drewN, Nat.add_assoc]
theorem Jv.ret_u8 {a b : UInt8} (h : a = b) : Ending.returned (.int .u8 a.toNat) = .returned (.int .u8 b.toNat) := by rw [h]
theorem Tryz.fault_any (p e : Int) (w : World) :
    Calls Tryz.prog 12 #[.int .i64 p, .int .i64 e] w fun en w' => en = .returned (.pointer (some ⟨w.heap.size, 0, none⟩)) ∧ w' = w.alloc (.cells #[.int .i64 p, .int .i64 e] 48) := by
  go_enter Tryz.func12, Tryz.ntmps12
  go_wp2
  go_ret
  exact ⟨rfl, rfl⟩
theorem Tryz.next_ok {w : World} {b : Nat} {t : ByteArray} {p o : Nat} (h : Rd w b t p o) (hlt : p < t.size) :
    Calls Tryz.prog 25 #[.pointer (some ⟨b, 0, none⟩)] w fun en w' => en = .returned (.int .u8 (t.get! p).toNat) ∧ ∃ n, w' = w.drewN n := by
  obtain ⟨c0, c1, c2, f0, f1, f2, hb, hp, ht, ho⟩ := h
  go_enter Tryz.func25, Tryz.ntmps25
  go_wp2
  go_quiet (fail)
  go_wp2
  go_quiet (fail)
  go_wp2
  go_ret
  exact ⟨Jv.ret_u8 (Jv.get_eq t p hlt), _, Jv.drewN2 _ _ _⟩
theorem Jv.cell0 (w : World) (x y : Value) (U : TypeId) : (w.alloc (.cells #[x, y] U)).cell? ⟨w.heap.size, 0, none⟩ = some x := by simp [go_sem]
theorem Jv.cell1 (w : World) (x y : Value) (U : TypeId) : (w.alloc (.cells #[x, y] U)).cell? ⟨w.heap.size, 1, none⟩ = some y := by simp [go_sem]
theorem Jv.bad_new {w : World} {b n : Nat} {T U : TypeId} {p e : Nat} (_hb : b < w.heap.size) :
    Bad T p e (.panicked [{ v := .iface T (.pointer (some ⟨w.heap.size, 0, none⟩)), recovered := false }]) ((w.drewN n).alloc (.cells #[.int .i64 p, .int .i64 e] U)) ∧ Wk b w ((w.drewN n).alloc (.cells #[.int .i64 p, .int .i64 e] U)) := by
  refine ⟨⟨w.heap.size, ?_, rfl, ?_, ?_⟩, ((Wk.refl b w).drewN n).below (Below.refl _ _ |>.alloc (Nat.le_refl _) _) (Nat.le_refl _)⟩
  · simp
  · exact Jv.cell0 (w.drewN n) _ _ _
  · exact Jv.cell1 (w.drewN n) _ _ _
theorem Tryz.next_bad {w : World} {b : Nat} {t : ByteArray} {o : Nat} (h : Rd w b t t.size o) :
    Calls Tryz.prog 25 #[.pointer (some ⟨b, 0, none⟩)] w fun en w' => Bad 40 t.size eSyntax en w' ∧ Wk b w w' := by
  obtain ⟨c0, c1, c2, f0, f1, f2, hb, hp, ht, ho⟩ := h
  go_enter Tryz.func25, Tryz.ntmps25
  go_wp2
  go_quiet (fail)
  go_wp2_with (go_at_call 12; refine (Tryz.fault_any _ _ _).mono ?_; rintro e w' ⟨rfl, rfl⟩)
  refine ⟨rfl, ?_⟩
  exact Jv.bad_new hb
theorem Jv.ret_bool {a b : Bool} (h : a = b) : Ending.returned (.bool a) = .returned (.bool b) := by rw [h]
theorem Tryz.isBlank_any (c : UInt8) (w : World) : Calls Tryz.prog 24 #[.int .u8 c.toNat] w fun en w' => en = .returned (.bool (isBlank c)) ∧ w' = w := by
  go_enter Tryz.func24, Tryz.ntmps24
  go_wp2
  all_goals
    go_ret
    refine ⟨Jv.ret_bool ?_, rfl⟩
    rw [Bool.eq_iff_iff]
    simp [isBlank]
    try omega
theorem Tryz.isDigit_any (c : UInt8) (w : World) : Calls Tryz.prog 28 #[.int .u8 c.toNat] w fun en w' => en = .returned (.bool (isDigit c)) ∧ w' = w := by
  go_enter Tryz.func28, Tryz.ntmps28
  go_wp2
  all_goals
    go_ret
    refine ⟨Jv.ret_bool ?_, rfl⟩
    rw [Bool.eq_iff_iff]
    simp [isDigit]
    try omega
theorem Tryz.isLetter_any (c : UInt8) (w : World) : Calls Tryz.prog 26 #[.int .u8 c.toNat] w fun en w' => en = .returned (.bool (isLetter c)) ∧ w' = w := by
  go_enter Tryz.func26, Tryz.ntmps26
  go_wp2
  all_goals
    go_ret
    refine ⟨Jv.ret_bool ?_, rfl⟩
    rw [Bool.eq_iff_iff]
    simp [isLetter]
    try omega
theorem Tryz.take_ok {w : World} {b : Nat} {t : ByteArray} {p o : Nat} {c : UInt8} (h : Rd w b t p o) (hlt : p < t.size) (hc : t.get! p = c) :
    Calls Tryz.prog 41 #[.pointer (some ⟨b, 0, none⟩), .int .u8 c.toNat] w fun en w' => en = .returned (.tuple #[]) ∧ Rd w' b t (p + 1) o ∧ Wk b w w' := by
  have hn := Tryz.next_ok h hlt
  rw [hc] at hn
  have H : Hid (Rd w b t p o) := h
  obtain ⟨c0, c1, c2, f0, f1, f2, hb, hp, ht, ho⟩ := h
  go_enter Tryz.func41, Tryz.ntmps41
  go_wp2_with (go_at_call 25; refine hn.mono ?_; rintro e w' ⟨rfl, n, rfl⟩)
  go_end0
  exact ⟨rfl, H.out.atN _ _ _ (by omega) hlt, ((Wk.refl b w).drewN n).setCell _ _ _⟩
theorem Tryz.take_other {w : World} {b : Nat} {t : ByteArray} {p o : Nat} {c : UInt8} (h : Rd w b t p o) (hlt : p < t.size) (hc : t.get! p ≠ c) :
    Calls Tryz.prog 41 #[.pointer (some ⟨b, 0, none⟩), .int .u8 c.toNat] w fun en w' => Bad 40 p eSyntax en w' ∧ Wk b w w' := by
  have hn := Tryz.next_ok h hlt
  have hc' : ¬ ((t.get! p).toNat : Int) = c.toNat := fun e => hc (UInt8.toNat_inj.1 (by omega))
  obtain ⟨c0, c1, c2, f0, f1, f2, hb, hp, ht, ho⟩ := h
  go_enter Tryz.func41, Tryz.ntmps41
  go_wp2_with (first | (go_at_call 25; refine hn.mono ?_; rintro e w' ⟨rfl, n, rfl⟩) | (go_at_call 12; refine (Tryz.fault_any _ _ _).mono ?_; rintro e w' ⟨rfl, rfl⟩))
  refine ⟨rfl, ?_⟩
  exact Jv.bad_new hb
theorem Tryz.take_end {w : World} {b : Nat} {t : ByteArray} {o : Nat} {c : UInt8} (h : Rd w b t t.size o) :
    Calls Tryz.prog 41 #[.pointer (some ⟨b, 0, none⟩), .int .u8 c.toNat] w fun en w' => Bad 40 t.size eSyntax en w' ∧ Wk b w w' := by
  have hn := Tryz.next_bad h
  go_enter Tryz.func41, Tryz.ntmps41
  go_wp2_with (go_at_call 25; refine hn.mono ?_; rintro e w' ⟨⟨x, hx, rfl, hx0, hx1⟩, hk⟩)
  exact ⟨rfl, ⟨x, hx, rfl, hx0, hx1⟩, hk⟩
end Go.Proofs
