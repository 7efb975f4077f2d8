/-
  GLOB: 'begin', 'pass'.
-/
import Derived.Test.YtjfhpgafglmhdabDoorGt
namespace Go.Proofs
open Go.RowKit Go.Gl
theorem Gl.grown_set (W : World) (r k : Nat) (x : Value) : W.grownBy (W.setCell ⟨r, k, none⟩ x) (some r) := ⟨rfl, rfl, rfl, by simp [World.setCell], fun j _ hj => Below.heap_setCell W _ x j (by simpa using hj)⟩
theorem Gl.grown_drew {w w' : World} {row : Option Nat} (h : w.grownBy w' row) : w.grownBy w'.drew row := ⟨h.os, h.tape, h.output, h.size, h.block⟩
set_option maxHeartbeats 1000000 in
theorem Tryd.begin_any (ps : List P) (v : Value) (t r : Nat) (f : Nat → Bool) (w : World) (h : Tryd.Tk w t r v ps) (hr : w.rowIs r 4 (ps.length + 1) (fun i => .bool (f i))) (hl : ps.length ≤ 1000) :
    Calls Tryd.prog 28 #[.pointer (some ⟨t, 0, none⟩)] w fun e w' => e = .returned (.tuple #[]) ∧ w.grownBy w' (some r) ∧ w'.rowIs r 4 (ps.length + 1) (fun i => .bool (bg ps f i)) := by
  have c1 := h.c1
  have c2 := hr.cell (i := 0) (by omega)
  have f2 := hr.frozen 0
  have hg := Gl.grown_set w r 0 (.bool true)
  have hset : (w.setCell ⟨r, 0, none⟩ (.bool true)).rowIs r 4 (ps.length + 1) (fun i => .bool ((fun n => n == 0 || f n) i)) := (hr.set 0 (.bool true)).congr fun i _ => by
    by_cases hi : i = 0
    · subst hi; rfl
    · rw [if_neg hi]; simp [hi]
  have hsp := Tryd.spread_any ps v t r _ _ (h.keep hg) hset hl
  have b1 : (0 : Int) < (ps.length : Int) + 1 := by omega
  have HG : Hid _ := hg
  clear hset hg h hr
  go_enter Tryd.func28, Tryd.ntmps28
  go_wp2_with (first | (go_at_call 43; refine hsp.mono ?_; clear hsp; rintro e1 w1 ⟨rfl, hg1, hr1⟩) | fail)
  go_end0
  exact ⟨rfl, HG.out.trans hg1, hr1⟩
set_option maxHeartbeats 4000000 in
set_option maxRecDepth 100000 in
theorem Tryd.pass_any (ps : List P) (v : Value) (t r c : Nat) (f : Nat → Bool) (w : World) (h : Tryd.Tk w t r v ps) (hr : w.rowIs r 4 (ps.length + 1) (fun i => .bool (f i))) (hl : ps.length ≤ 1000) (_hc : c ≤ 1114111) :
    Calls Tryd.prog 30 #[.pointer (some ⟨t, 0, none⟩), .int .i32 c] w fun e w' => e = .returned (.tuple #[]) ∧ w.grownBy w' (some r) ∧ w'.rowIs r 4 (ps.length + 1) (fun i => .bool (pass ps f c i)) := by
  have c0 := h.c0
  have HT : Hid (Tryd.Tk w t r v ps) := h
  have HR : Hid (w.rowIs r 4 (ps.length + 1) (fun i => .bool (f i))) := hr
  have hlen : ∃ a n cap, v = .slice a n cap ∧ n = ps.length := by
    rcases h.row.2 with ⟨rfl, h0⟩ | ⟨g, cap, cur, rfl, _⟩
    · exact ⟨none, 0, 0, rfl, h0.symm⟩
    · exact ⟨_, _, _, rfl, rfl⟩
  obtain ⟨a, n, cap, rfl, rfl⟩ := hlen
  clear h hr
  have hw0 : wrap64 ((ps.length : Int) - 1) = (ps.length : Int) - 1 := by unfold wrap64; omega
  go_enter Tryd.func30, Tryd.ntmps30
  go_wp2
  go_loopw [4] (fun i wr => ∃ k : Nat, k ≤ ps.length ∧ i = .int .i64 ((k : Int) - 1) ∧ w.grownBy wr (some r) ∧ wr.rowIs r 4 (ps.length + 1) (fun j => .bool (if j ≤ k then f j else paF ps f c j))) (fun i _ => (intOf i + 1).toNat)
  case atStart => exact ⟨ps.length, Nat.le_refl _, rfl, World.grownBy.refl _ _, HR.out.congr fun i hi => by rw [if_pos (by omega)]⟩
  case round =>
    obtain ⟨k, hk, rfl, hg, hrow⟩ := hrel
    have hT := HT.out.keep hg
    have d1 := hT.c1
    cases k with
    | zero =>
      have b0 : ¬ (0 : Int) ≤ ((0 : Nat) : Int) - 1 := by omega
      have c2 := hrow.cell (i := 0) (by omega)
      have f2 := hrow.frozen 0
      have hg2 := Gl.grown_set wr r 0 (.bool false)
      have hset : (wr.setCell ⟨r, 0, none⟩ (.bool false)).rowIs r 4 (ps.length + 1) (fun i => .bool (paF ps f c i)) := (hrow.set 0 (.bool false)).congr fun i _ => by
        by_cases hi : i = 0
        · subst hi; rfl
        · rw [if_neg hi, if_neg (by omega)]
      have hsp := Tryd.spread_any ps _ t r _ _ (hT.keep hg2) hset hl
      have b1 : (0 : Int) < (ps.length : Int) + 1 := by omega
      have HG : Hid _ := hg2
      clear hset hg2 hT hrow
      go_wp2_with (first | (go_at_call 43; refine hsp.mono ?_; clear hsp; rintro e1 w1 ⟨rfl, hg1, hr1⟩) | fail)
      go_end0
      exact ⟨rfl, hg.trans (HG.out.trans hg1), hr1⟩
    | succ k =>
      have hlt' : k < ps.length := by omega
      have hi : ((k + 1 : Nat) : Int) - 1 = (k : Int) := by omega
      rw [hi]
      obtain ⟨g, cap', hv, _, hgl⟩ := hT.row.form (by omega)
      cases hv
      obtain ⟨p, hpk⟩ : ∃ p, ps[k]? = some p := ⟨_, List.getElem?_eq_getElem hlt'⟩
      have hpk' : ps[k]'hlt' = p := by rw [List.getElem?_eq_getElem hlt'] at hpk; exact Option.some.inj hpk
      have d0 := hT.c0
      have ck : wr.cell? ⟨g, k * 2, none⟩ = some (.int .i64 p.kind) := by rw [hT.row.cellAt (k * 2) (by omega), Nat.mul_comm k 2, cells_kind ps k hlt', hpk']
      have cs : wr.cell? ⟨g, k * 2 + 1, none⟩ = some (.int .i32 p.sign) := by rw [hT.row.cellAt (k * 2 + 1) (by omega), Nat.mul_comm k 2, cells_sign ps k hlt', hpk']
      clear hpk'
      have cr := hrow.cell (i := k) (by omega)
      have cn := hrow.cell (i := k + 1) (by omega)
      rw [if_pos (by omega)] at cr
      rw [if_pos (by omega)] at cn
      have hrl := hT.hr
      have htl := (Array.getElem?_eq_some_iff.1 hT.blk).1
      have al : ∀ (o : Obj) (p : Addr), p.block < wr.heap.size → (wr.alloc o).cell? p = wr.cell? p := fun o p hp => ((Below.refl wr.heap.size wr).alloc (Nat.le_refl _) o).cell hp
      have a1 := fun o => (al o ⟨t, 1, none⟩ htl).trans d1
      have a2 := fun o => (al o ⟨r, k, none⟩ hrl).trans cr
      have a3 := fun o => (al o ⟨r, k + 1, none⟩ hrl).trans cn
      have a4 : ∀ o, (wr.alloc o).frozen? ⟨r, k + 1, none⟩ = false := fun o => (((Below.refl wr.heap.size wr).alloc (Nat.le_refl _) o).frozen (p := ⟨r, k + 1, none⟩) hrl).trans (hrow.frozen (k + 1))
      have turn : ∀ (x : Bool), x = paF ps f c (k + 1) → ∀ o, ((wr.setCell ⟨r, k + 1, none⟩ (.bool x)).alloc o).rowIs r 4 (ps.length + 1) (fun j => .bool (if j ≤ k then f j else paF ps f c j)) := fun x hx o => ((hrow.set (k + 1) (.bool x)).of_block (Below.heap_alloc _ o r (by simp [World.setCell]; omega))).congr fun i _ => by
        by_cases h1 : i ≤ k
        · rw [if_neg (by omega), if_pos (by omega), if_pos h1]
        · by_cases h2 : i = k + 1
          · subst h2; rw [if_pos rfl, if_neg (by omega), hx]
          · rw [if_neg h2, if_neg (by omega), if_neg h1]
      have stay : f (k + 1) = paF ps f c (k + 1) → ∀ o, (wr.alloc o).rowIs r 4 (ps.length + 1) (fun j => .bool (if j ≤ k then f j else paF ps f c j)) := fun hx o => (hrow.of_block (Below.heap_alloc wr o r hrl)).congr fun i _ => by
        by_cases h1 : i ≤ k
        · rw [if_pos (by omega), if_pos h1]
        · by_cases h2 : i = k + 1
          · subst h2; rw [if_pos (by omega), if_neg (by omega), hx]
          · rw [if_neg (by omega), if_neg h1]
      have fin1 : ∀ W : World, wr.grownBy W (some r) → W.rowIs r 4 (ps.length + 1) (fun j => .bool (if j ≤ k then f j else paF ps f c j)) →
          ∃ k_1 : Nat, k_1 ≤ ps.length ∧ Value.int .i64 ((k : Int) - 1) = .int .i64 ((k_1 : Int) - 1) ∧ w.grownBy W (some r) ∧ W.rowIs r 4 (ps.length + 1) (fun j => .bool (if j ≤ k_1 then f j else paF ps f c j)) :=
        fun W h1 h2 => ⟨k, by omega, rfl, hg.trans h1, h2⟩
      have hgs : ∀ x o, wr.grownBy ((wr.setCell ⟨r, k + 1, none⟩ x).alloc o) (some r) := fun x o => (Gl.grown_set wr r (k + 1) x).trans (World.grownBy_alloc _ o _)
      have FIN : Hid _ := fin1
      have STAY : Hid _ := stay
      have TURN : Hid _ := turn
      have HGS : Hid _ := hgs
      have HPK : Hid _ := hpk
      have b1 : (k : Int) < (ps.length : Int) := by omega
      have b2 : (k : Int) < (ps.length : Int) + 1 := by omega
      have b3 : (k : Int) + 1 < (ps.length : Int) + 1 := by omega
      have b4 : (0 : Int) ≤ (k : Int) := by omega
      clear fin1 stay turn hgs al hrow hT hg cr cn hpk
      cases p with
      | any =>
        simp only [P.kind, P.sign] at ck cs
        go_wp2
        go_roundw
        case rel => exact FIN.out _ (World.grownBy_alloc _ _ _) (STAY.out (by rw [paF, HPK.out]) _)
        case measure => simp [intOf]
      | one =>
        simp only [P.kind, P.sign] at ck cs
        go_wp2
        go_region
        all_goals
          go_wp2
          go_roundw
          case rel => exact FIN.out _ (Gl.grown_drew (HGS.out _ _)) (TURN.out _ (by rw [paF, HPK.out]) _)
          case measure => simp [intOf]
      | fix q =>
        simp only [P.kind, P.sign] at ck cs
        have hpa : paF ps f c (k + 1) = (f k && c == q) := by rw [paF, HPK.out]
        have hbq : ((c : Int) == (q : Int)) = (c == q) := by rw [Bool.eq_iff_iff, beq_iff_eq, beq_iff_eq]; omega
        have HPA : Hid _ := hpa
        clear hpa HPK
        generalize f k = x at *
        generalize (c == q) = y at *
        cases x with
        | true =>
          go_wp2
          go_region
          all_goals
            go_wp2
            go_roundw
            case rel => exact FIN.out _ (Gl.grown_drew (HGS.out _ _)) (TURN.out _ (by rw [HPA.out, Bool.true_and]) _)
            case measure => simp [intOf]
        | false =>
          go_wp2
          go_region
          all_goals
            go_wp2
            go_roundw
            case rel => exact FIN.out _ (Gl.grown_drew (HGS.out _ _)) (TURN.out _ (by rw [HPA.out, Bool.false_and]) _)
            case measure => simp [intOf]
end Go.Proofs
