import Derived.Test.YtaigcmlalnegpaaDoorHas
namespace Go.Proofs
open Go.RowKit
theorem Sg.rowIs_below {w w' : World} {b : Nat} {t : TypeId} {n : Nat} {f : Nat → Value} (h : w.rowIs b t n f) (hb : Below w.heap.size w w') : w'.rowIs b t n f := h.of_block (hb.block b h.lt)
theorem Sg.edgeB_nat (s : ByteArray) (a : Nat) (h : a ≤ s.size) : Sg.edgeB s (a : Int) = Sg.edgeN s a := by
  unfold Sg.edgeB
  rw [if_neg (by omega)]
  rfl
set_option maxHeartbeats 4000000 in
set_option maxRecDepth 100000 in
theorem Tryd.has_any (text part : ByteArray) (w : World) (hT : Tryd.Tabs w) (h1 : text.size ≤ 140737488355324) (h2 : 8 * part.size ≤ 281474976710656) :
    Calls Tryd.prog 16 #[.string text, .string part] w fun e w' => e = .returned (.bool (Sg.hasB text part)) ∧ Below w.heap.size w w' := by
  by_cases h0 : part.size = 0
  · have hne : part.toList.isEmpty = true := by
      rw [Lib.toList_data]
      have : part.data.toList = [] := List.eq_nil_of_length_eq_zero (by rw [← Lib.size_eq]; exact h0)
      rw [this]; rfl
    have e : Sg.hasB text part = false := by unfold Sg.hasB; rw [if_pos h0]
    rw [e]
    clear e
    go_enter Tryd.func16, Tryd.ntmps16
    go_wp2_with fail
    go_ret
    exact ⟨rfl, Below.refl _ _⟩
  · have hne : part.toList.isEmpty = false := by
      rw [Lib.toList_data]
      cases h : part.data.toList with
      | nil => exact absurd (by rw [Lib.size_eq, h]; rfl) h0
      | cons _ _ => rfl
    have hfp := Sg.fold_size part
    have hft := Sg.fold_size text
    have hsp : 1 ≤ (Sg.fold part).size := by omega
    have Hgoal : Hid (Sg.hasB text part = Sg.hasGo text (Sg.fold part).data.toList (Sg.fold text).data.toList (text.size - 0) 0) := by unfold Hid Sg.hasB; rw [if_neg h0]; rfl
    have c1 := fun w hT => Tryd.fold_any part w (by omega) hT
    have c2 := fun w => Tryd.borders_any (Sg.fold part) w hsp (by omega)
    have c3 := fun w hT => Tryd.fold_any text w (by omega) hT
    have c4 := fun a w hT => Tryd.edge_any text a (by unfold maxLen; omega) w hT
    have c5 := fun (b h : Nat) (c : UInt8) (w : World) => Tryd.extend_any (Sg.fold part) b (Sg.fold part).size h (Sg.sh (Sg.fold part).data.toList) c w hsp (by unfold maxLen; omega)
    have hlp : (Sg.fold part).data.toList.length = (Sg.fold part).size := (Lib.size_eq _).symm
    generalize Sg.hasB text part = res at Hgoal ⊢
    have hgt := fun k (hk : k < (Sg.fold text).size) => Sg.getD_at (Sg.fold text) k hk
    generalize Sg.fold part = p at *
    generalize Sg.fold text = t at *
    have C1 : Hid _ := c1
    have C2 : Hid _ := c2
    have C3 : Hid _ := c3
    have C4 : Hid _ := c4
    have C5 : Hid _ := c5
    have Hlp : Hid _ := hlp
    have Hgt : Hid _ := hgt
    have hts : t.size ≤ text.size := by omega
    have hts' : text.size ≤ t.size := by omega
    have hps : p.size ≤ part.size := by omega
    clear c1 c2 c3 c4 c5 hlp hgt hfp hft
    go_enter Tryd.func16, Tryd.ntmps16
    go_wp2_with fail
    refine (C1.out _ hT).mono ?_
    rintro e w1 ⟨rfl, b1⟩
    go_wp2_with fail
    refine (C2.out _).mono ?_
    rintro e w2 ⟨rfl, b2, r2⟩
    have hT2 := (hT.below b1).below b2
    go_wp2_with fail
    refine (C3.out _ hT2).mono ?_
    rintro e w3 ⟨rfl, b3⟩
    have r3 := Sg.rowIs_below r2 b3
    have b03 : Below w.heap.size w w3 := (b1.trans (b2.mono b1.size)).trans (b3.mono (Nat.le_trans b1.size b2.size))
    clear b2 b3 r2 hT2
    go_wp2_with fail
    go_loopw [8, 20] (fun v i wr => ∃ k : Nat, k ≤ t.size ∧ i = .int .i64 k ∧ v = .int .i64 (Sg.haveAt p.data.toList t.data.toList k) ∧ Below w.heap.size w wr ∧ wr.rowIs w1.heap.size 3 p.size (Sg.cellOf p.data.toList p.size) ∧ Sg.hasGo text p.data.toList t.data.toList (text.size - k) k = res) (fun _ i _ => t.size - (intOf i).toNat)
    case atStart => exact ⟨0, Nat.zero_le _, rfl, rfl, b03, r3, Hgoal.out.symm⟩
    case round =>
      obtain ⟨k, hk, rfl, rfl, hb, hr, hx⟩ := hrel
      clear b03 r3 Hgoal
      have hle := Sg.haveAt_le p.data.toList t.data.toList (by rw [Hlp.out]; omega)
      by_cases hlt : k < t.size
      · rw [Sg.hasGo_at text _ _ text.size k (by omega), Hlp.out] at hx
        have hle1 := hle k
        have hle2 := hle (k + 1)
        rw [Hlp.out] at hle1 hle2
        have hc := fun w' (hw' : w'.rowIs w1.heap.size 3 p.size (Sg.cellOf p.data.toList p.size)) => C5.out w1.heap.size (Sg.haveAt p.data.toList t.data.toList k) (t[k]'hlt) w' hle1.1
          (fun i hi => by rw [hw'.cell (by omega)]; unfold Sg.cellOf; rw [if_pos (by omega)]) (fun i _ => Sg.sh_le _ i)
        have he : Sg.ext p.data.toList (Sg.sh p.data.toList) (t[k]'hlt) (Sg.haveAt p.data.toList t.data.toList k) = Sg.haveAt p.data.toList t.data.toList (k + 1) := by
          rw [Sg.haveAt, Hgt.out k hlt]
        simp only [he] at hc
        generalize hq1 : Sg.haveAt p.data.toList t.data.toList (k + 1) = q1 at *
        generalize hq0 : Sg.haveAt p.data.toList t.data.toList k = q0 at *
        have Hq0 : Hid _ := hq0
        have Hq1 : Hid _ := hq1
        have Hc : Hid _ := hc
        have Hx : Hid _ := hx
        clear hq0 hq1 hc hx he hle
        by_cases hm : q1 = p.size
        · have m1 : ((q1 : Int) == (p.size : Int)) = true := beq_iff_eq.2 (by omega)
          have ce1 := fun w' hT' => C4.out ((k : Int) + 1 - (q1 : Int)) w' hT'
          have ce2 := fun w' hT' => C4.out ((k : Int) + 1) w' hT'
          have q1' : (k : Int) + 1 - (q1 : Int) = ((k + 1 - p.size : Nat) : Int) := by omega
          have q2' : (k : Int) + 1 = ((k + 1 : Nat) : Int) := by omega
          have d1 : Sg.edgeB text ((k : Int) + 1 - (q1 : Int)) = Sg.edgeN text (k + 1 - p.size) := by rw [q1']; exact Sg.edgeB_nat _ _ (by omega)
          have d2 : Sg.edgeB text ((k : Int) + 1) = Sg.edgeN text (k + 1) := by rw [q2']; exact Sg.edgeB_nat _ _ (by omega)
          simp only [d1] at ce1
          simp only [d2] at ce2
          have Hm : Hid _ := hm
          clear hm q1' q2' d1 d2
          cases f1 : Sg.edgeN text (k + 1 - p.size) with
          | false =>
            simp only [f1] at ce1
            have Hf1 : Hid _ := f1
            have E1 : Hid _ := ce1
            clear ce1 ce2 f1
            go_wp2_with fail
            refine (Hc.out _ hr).mono ?_
            rintro e w' ⟨rfl, rfl⟩
            go_wp2_with fail
            refine (E1.out _ (hT.below hb)).mono ?_
            rintro e w4 ⟨rfl, b4⟩
            go_wp2_with fail
            go_roundw
            case rel => exact ⟨k + 1, by omega, by go_num, by rw [Hq1.out], hb.trans (b4.mono hb.size), Sg.rowIs_below hr b4, by rw [← Hx.out, if_neg (by rw [Hf1.out]; simp)]⟩
            case measure => simp [intOf]; omega
          | true =>
            simp only [f1] at ce1
            cases f2 : Sg.edgeN text (k + 1) with
            | false =>
              simp only [f2] at ce2
              have Hf1 : Hid _ := f2
              have E1 : Hid _ := ce1
              have E2 : Hid _ := ce2
              clear ce1 ce2 f1 f2
              go_wp2_with fail
              refine (Hc.out _ hr).mono ?_
              rintro e w' ⟨rfl, rfl⟩
              go_wp2_with fail
              refine (E1.out _ (hT.below hb)).mono ?_
              rintro e w4 ⟨rfl, b4⟩
              go_wp2_with fail
              refine (E2.out _ ((hT.below hb).below b4)).mono ?_
              rintro e w5 ⟨rfl, b5⟩
              go_wp2_with fail
              go_roundw
              case rel => exact ⟨k + 1, by omega, by go_num, by rw [Hq1.out], (hb.trans (b4.mono hb.size)).trans (b5.mono (Nat.le_trans hb.size b4.size)), Sg.rowIs_below (Sg.rowIs_below hr b4) b5, by rw [← Hx.out, if_neg (by rw [Hf1.out]; simp)]⟩
              case measure => simp [intOf]; omega
            | true =>
              simp only [f2] at ce2
              have Hf1 : Hid _ := f1
              have Hf2 : Hid _ := f2
              have E1 : Hid _ := ce1
              have E2 : Hid _ := ce2
              clear ce1 ce2 f1 f2
              go_wp2_with fail
              refine (Hc.out _ hr).mono ?_
              rintro e w' ⟨rfl, rfl⟩
              go_wp2_with fail
              refine (E1.out _ (hT.below hb)).mono ?_
              rintro e w4 ⟨rfl, b4⟩
              go_wp2_with fail
              refine (E2.out _ ((hT.below hb).below b4)).mono ?_
              rintro e w5 ⟨rfl, b5⟩
              go_wp2_with fail
              go_ret
              exact ⟨Sg.ret_bool (by rw [← Hx.out, if_pos ⟨Hm.out, Hf1.out, Hf2.out⟩]), (hb.trans (b4.mono hb.size)).trans (b5.mono (Nat.le_trans hb.size b4.size))⟩
        · have m1 : ((q1 : Int) == (p.size : Int)) = false := beq_eq_false_iff_ne.2 (by omega)
          go_wp2_with fail
          refine (Hc.out _ hr).mono ?_
          rintro e w' ⟨rfl, rfl⟩
          go_wp2_with fail
          go_roundw
          case rel => exact ⟨k + 1, by omega, by go_num, by rw [Hq1.out], hb, hr, by rw [← Hx.out, if_neg (fun h => hm h.1)]⟩
          case measure => simp [intOf]; omega
      · obtain rfl : k = t.size := by omega
        have Hx : Hid _ := hx
        clear hx hle
        go_wp2_with fail
        go_ret
        exact ⟨Sg.ret_bool (by rw [← Hx.out, show text.size - t.size = 0 from by omega]; rfl), hb⟩
end Go.Proofs
