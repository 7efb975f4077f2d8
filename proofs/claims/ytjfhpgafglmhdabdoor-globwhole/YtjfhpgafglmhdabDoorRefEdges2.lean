import Derived.Test.YtjfhpgafglmhdabDoorRefSign
import Derived.Test.YtjfhpgafglmhdabDoorRefWord
import Derived.Test.YtjfhpgafglmhdabDoorMath3
import Derived.Deep.RegionWith
import Derived.Deep.OwnRows
namespace Go.Proofs
open Go.RowKit
theorem Tryd.info_bool : (Tryd.prog.info? 4).map (fun i => (i.zero, i.size, i.bytes)) = some (some (.bool false), 1, 1) := by kernel_rfl
def Sg.markOf (s : ByteArray) (n j : Nat) : Value := .bool (Sg.mk s n j)
def Sg.markEnd (s : ByteArray) (j : Nat) : Value := .bool (Sg.edgeN s j)
theorem Sg.markOf_step (s : ByteArray) (n j : Nat) : (if j = Sg.posn s n then Value.bool (Sg.mkE s n) else Sg.markOf s n j) = Sg.markOf s (n + 1) j := by
  unfold Sg.markOf
  by_cases h : j = Sg.posn s n
  · rw [if_pos h]
    show _ = Value.bool (if j = Sg.posn s n then Sg.mkE s n else Sg.mk s n j)
    rw [if_pos h]
  · rw [if_neg h]
    show _ = Value.bool (if j = Sg.posn s n then Sg.mkE s n else Sg.mk s n j)
    rw [if_neg h]
theorem Sg.isW_wrong (s : ByteArray) (p : Nat) (h : Sg.wrongAt s p = true) : Sg.isW s p = false := by
  have := of_decide_eq_true h
  unfold Sg.isW
  rw [this]
  decide
theorem Sg.mkE_eq (s : ByteArray) (n : Nat) (z b1 b2 : Bool) (hz : decide (Sg.posn s n = 0) = z) (h1 : Sg.wasW s n = b1) (h2 : Sg.isW s (Sg.posn s n) = b2) : Sg.mkE s n = (z || !b1 || !b2) := by
  unfold Sg.mkE
  rw [hz, h1, h2]
set_option maxHeartbeats 8000000 in
set_option maxRecDepth 100000 in
theorem Tryd.refEdges_any (s : ByteArray) (w : World) (hs : s.size ≤ 140737488355327) :
    Calls Tryd.prog 36 #[.string s] w fun e w' => e = .returned (.slice (some ⟨w.heap.size, 0, none⟩) (s.size + 1) (s.size + 1)) ∧ Below w.heap.size w w' ∧ w'.rowIs w.heap.size 4 (s.size + 1) (Sg.markEnd s) := by
  have hmk := run_make_row' (P := Tryd.prog) 68 4 (.bool false) 1 Tryd.underlying68 Tryd.info_bool rfl .i64 .i64 (s.size + 1) (by omega) (by omega)
  have hb1 := (Below.refl w.heap.size w).alloc (Nat.le_refl _) (.cells (madeCells #[.bool false] (s.size + 1)) 4)
  have hr1 := World.rowIs_made w (.bool false) (s.size + 1) 4
  generalize hw1 : w.alloc (.cells (madeCells #[.bool false] (s.size + 1)) 4) = w1 at hb1 hr1
  have hmk' : (Instr.makeSlice 68 (.int .i64 ((s.size : Int) + 1)) (.int .i64 ((s.size : Int) + 1))).run Tryd.prog w = .ok (.slice (some ⟨w.heap.size, 0, none⟩) (s.size + 1) (s.size + 1)) w1 := by
    rw [← hw1]
    exact hmk w
  clear hmk hw1
  go_enter Tryd.func36, Tryd.ntmps36
  go_wp2
  go_loopw [4, 5] (fun v i wr => ∃ n : Nat, i = .int .i64 (Sg.posn s n) ∧ v = .bool (Sg.wasW s n) ∧ Below w.heap.size w wr ∧ wr.rowIs w.heap.size 4 (s.size + 1) (Sg.markOf s n) ∧ (∀ m, m < n → Sg.posn s m < s.size)) (fun _ i _ => s.size - (intOf i).toNat)
  case atStart => exact ⟨0, rfl, rfl, hb1, hr1.congr (fun i _ => rfl), fun m hm => by omega⟩
  case round =>
    obtain ⟨n, rfl, rfl, hb, hr, hn⟩ := hrel
    clear hmk' hb1 hr1
    by_cases hlt : Sg.posn s n < s.size
    · have hst := Sg.posn_step s n hlt
      have hle := Sg.posn_le s (n + 1)
      have hsg := fun w => Tryd.refSign_any s (Sg.posn s n) hlt (by omega) w
      have hrl := Lib.rune_le s (Sg.posn s n)
      have hwp := Lib.width_pos s (Sg.posn s n)
      have hwrd := fun w => Tryd.refWord_any ((Utf8.decode s (Sg.posn s n)).1 : Int) w (by omega) (by omega)
      have c2 : ∃ v, wr.cell? ⟨w.heap.size, Sg.posn s n, none⟩ = some v := ⟨_, hr.cell (by omega)⟩
      obtain ⟨v, c2⟩ := c2
      have c3 := hr.frozen (Sg.posn s n)
      have hmw : Sg.wasW s (n + 1) = Sg.isW s (Sg.posn s n) := rfl
      have hcases := Sg.mkE_eq s n
      have hiw := Sg.isW_wrong s (Sg.posn s n)
      have hset := fun v => hr.set (Sg.posn s n) v
      have hstep := Sg.markOf_step s n
      unfold Sg.wd at hst
      rw [hst] at hle
      have Hst : Hid _ := hst
      clear hst
      generalize hp : Sg.posn s n = p at *
      generalize hd : Utf8.decode s p = d at *
      generalize hwr : Sg.wrongAt s p = wrb at *
      generalize hwb : Sg.isW s p = iw at *
      generalize hww : Sg.wasW s n = ww at *
      have hwb' : Sg.wordB (d.1 : Int) = iw := by rw [← hwb, ← hd]; rfl
      rw [hwb'] at hwrd
      have Hp : Hid _ := hp
      have Hd : Hid _ := hd
      have Hmw : Hid _ := hmw
      have Hset : Hid _ := hset
      have Hstep : Hid _ := hstep
      have Hsg : Hid _ := hsg
      have Hwrd : Hid _ := hwrd
      have Hca : Hid _ := hcases
      have Hn : Hid _ := hn
      have Hiw : Hid _ := hiw
      have Hb : Hid _ := hb
      have p0 : (0 : Int) ≤ (p : Int) := by omega
      have p1 : (p : Int) < (s.size : Int) := by omega
      have p2 : (p : Int) < (s.size : Int) + 1 := by omega
      clear hp hd hwr hwb hww hwb' hmw hset hstep hsg hwrd hcases hn hiw hb hr
      have fin : ∀ (V : Value), V = .bool (Sg.mkE s n) → ∃ n_1 : Nat, Value.int .i64 ((p : Int) + (d.2 : Int)) = .int .i64 (Sg.posn s n_1) ∧ Value.bool iw = .bool (Sg.wasW s n_1) ∧ Below w.heap.size w (wr.setCell ⟨w.heap.size, p, none⟩ V) ∧
          (wr.setCell ⟨w.heap.size, p, none⟩ V).rowIs w.heap.size 4 (s.size + 1) (Sg.markOf s n_1) ∧ (∀ m, m < n_1 → Sg.posn s m < s.size) := by
        intro V hV
        refine ⟨n + 1, by rw [Hst.out, Int.natCast_add], by rw [Hmw.out], Hb.out.setCell (p := ⟨w.heap.size, p, none⟩) (Nat.le_refl _) _, ?_, ?_⟩
        · refine (Hset.out V).congr (fun i _ => ?_)
          rw [← Hstep.out i, hV]
        · intro m hm
          by_cases e : m = n
          · subst e; rw [Hp.out]; exact hlt
          · exact Hn.out m (by omega)
      have Fin : Hid _ := fin
      clear fin
      cases wrb with
      | true =>
        obtain rfl : iw = false := Hiw.out rfl
        cases hz : decide (p = 0) with
        | true =>
          have z1 : ((p : Int) == 0) = true := by rw [beq_iff_eq]; have := of_decide_eq_true hz; omega
          have Hz : Hid _ := hz
          clear hz
          go_wp2_with (first | (go_at_call 38; refine (Hsg.out _).mono ?_; rintro e w' ⟨rfl, rfl⟩) | (go_at_call 53; refine (Hwrd.out _).mono ?_; rintro e w' ⟨rfl, rfl⟩))
          go_roundw
          case rel => exact Fin.out _ (by rw [Hca.out true ww false Hz.out rfl rfl]; rfl)
          case measure => simp [intOf]; omega
        | false =>
          have z1 : ((p : Int) == 0) = false := by rw [beq_eq_false_iff_ne]; have := of_decide_eq_false hz; omega
          have Hz : Hid _ := hz
          clear hz
          cases ww
          all_goals
            go_wp2_with (first | (go_at_call 38; refine (Hsg.out _).mono ?_; rintro e w' ⟨rfl, rfl⟩) | (go_at_call 53; refine (Hwrd.out _).mono ?_; rintro e w' ⟨rfl, rfl⟩))
            go_roundw
            case rel => exact Fin.out _ (by rw [Hca.out false _ false Hz.out rfl rfl]; rfl)
            case measure => simp [intOf]; omega
      | false =>
        cases hz : decide (p = 0) with
        | true =>
          have z1 : ((p : Int) == 0) = true := by rw [beq_iff_eq]; have := of_decide_eq_true hz; omega
          have Hz : Hid _ := hz
          clear hz
          go_wp2_with (first | (go_at_call 38; refine (Hsg.out _).mono ?_; rintro e w' ⟨rfl, rfl⟩) | (go_at_call 53; refine (Hwrd.out _).mono ?_; rintro e w' ⟨rfl, rfl⟩))
          go_roundw
          case rel => exact Fin.out _ (by rw [Hca.out true ww iw Hz.out rfl rfl]; rfl)
          case measure => simp [intOf]; omega
        | false =>
          have z1 : ((p : Int) == 0) = false := by rw [beq_eq_false_iff_ne]; have := of_decide_eq_false hz; omega
          have Hz : Hid _ := hz
          clear hz
          cases ww
          all_goals cases iw
          all_goals
            go_wp2_with (first | (go_at_call 38; refine (Hsg.out _).mono ?_; rintro e w' ⟨rfl, rfl⟩) | (go_at_call 53; refine (Hwrd.out _).mono ?_; rintro e w' ⟨rfl, rfl⟩))
            go_roundw
            case rel => exact Fin.out _ (by rw [Hca.out false _ _ Hz.out rfl rfl]; rfl)
            case measure => simp [intOf]; omega
    · have hle := Sg.posn_le s n
      have hpe : Sg.posn s n = s.size := by omega
      have hfin := fun j (hj : j < s.size + 1) => Sg.edge_eq s n j hpe hn (by omega)
      have c2 : ∃ v, wr.cell? ⟨w.heap.size, s.size, none⟩ = some v := ⟨_, hr.cell (by omega)⟩
      obtain ⟨v, c2⟩ := c2
      have c3 := hr.frozen s.size
      have q0 : (0 : Int) ≤ (s.size : Int) := by omega
      have q1 : (s.size : Int) < (s.size : Int) + 1 := by omega
      have Hfin : Hid _ := hfin
      clear hfin hn
      generalize Sg.posn s n = p at *
      generalize Sg.wasW s n = ww at *
      subst hpe
      go_wp2
      go_ret
      refine ⟨rfl, hb.setCell (p := ⟨w.heap.size, s.size, none⟩) (Nat.le_refl _) _, (hr.set s.size _).congr (fun i hi => ?_)⟩
      unfold Sg.markEnd
      rw [Hfin.out i hi]
      by_cases e : i = s.size
      · rw [if_pos e, if_pos e]
      · rw [if_neg e, if_neg e]
        rfl
end Go.Proofs
