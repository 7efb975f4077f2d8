import Derived.Test.YtjfhpgafglmhdabDoorRefSign
import Derived.Test.YtjfhpgafglmhdabDoorRefSmallW
import Derived.Test.YtjfhpgafglmhdabDoorRefBytes
import Derived.Test.YtjfhpgafglmhdabDoorMath4
import Derived.Laws.BytesArg
namespace Go.Proofs
open Go.RowKit
set_option maxRecDepth 100000 in
set_option maxHeartbeats 4000000 in
theorem Tryd.refValid_any (s : ByteArray) (w : World) (hs : s.size ≤ 140737488355328) :
    Calls Tryd.prog 32 #[.string s] w fun e w' => e = .returned (.bool (Sg.valid s)) ∧ w' = w := by
  go_enter Tryd.func32, Tryd.ntmps32
  go_wp2
  go_loopw [3] (fun i wr => ∃ (p fuel : Nat), wr = w ∧ p ≤ s.size ∧ i = .int .i64 p ∧ Sg.validFrom s fuel p = Sg.valid s ∧ s.size ≤ p + fuel) (fun i _ => s.size - (intOf i).toNat)
  case atStart => exact ⟨0, s.size, rfl, by omega, rfl, rfl, by omega⟩
  case round =>
    obtain ⟨p, fuel, rfl, hp, rfl, hv, hfu⟩ := hrel
    by_cases hlt : p < s.size
    · obtain ⟨f, rfl⟩ : ∃ f, fuel = f + 1 := ⟨fuel - 1, by omega⟩
      have hc := fun w => Tryd.refSign_any s p hlt hs w
      have hwp := Lib.width_pos s p
      have hin := Sg.decode_in s p hlt
      rw [Sg.validFrom, if_pos hlt] at hv
      have Hv : Hid _ := hv
      clear hv
      cases hw : Sg.wrongAt s p with
      | true =>
        rw [hw] at hc
        have Hw : Hid _ := hw
        have Hc : Hid _ := hc
        clear hc hw
        go_wp2_with (go_at_call 38; refine (Hc.out _).mono ?_; rintro e w' ⟨rfl, rfl⟩)
        go_ret
        exact ⟨Sg.ret_bool (by rw [← Hv.out, if_pos Hw.out]), rfl⟩
      | false =>
        rw [hw] at hc
        have Hw : Hid _ := hw
        have Hc : Hid _ := hc
        clear hc hw
        go_wp2_with (go_at_call 38; refine (Hc.out _).mono ?_; rintro e w' ⟨rfl, rfl⟩)
        go_roundw
        case rel => exact ⟨p + (Utf8.decode s p).2, f, by trivial, hin, by go_num, by rw [← Hv.out, if_neg (by rw [Hw.out]; decide)], by omega⟩
        case measure => simp [intOf]; omega
    · rw [Sg.validFrom_end s fuel p hlt] at hv
      have Hv : Hid _ := hv
      clear hv
      go_wp2
      go_ret
      exact ⟨Sg.ret_bool Hv.out, rfl⟩
theorem Sg.own_below {B : Nat} {e : TypeId} {v : Value} {n : Nat} {xs : List Value} {W0 W W' : World} (h : Lib.OwnBuf B e v n xs W0 W) (hb : Below W.heap.size W W') : Lib.OwnBuf B e v n xs W0 W' := by
  obtain ⟨⟨hl, hrow⟩, h2, h3⟩ := h
  refine ⟨⟨hl, ?_⟩, h2.trans (hb.mono h3), Nat.le_trans h3 hb.size⟩
  rcases hrow with h1 | ⟨g, cap, cur, fz, h1, h2, h3, h4⟩
  · exact .inl h1
  · exact .inr ⟨g, cap, cur, fz, h1, h2, by rw [hb.block g (Array.getElem?_eq_some_iff.1 h3).1]; exact h3, h4⟩
theorem Tryd.info_u8 : (Tryd.prog.info? 5).map (fun i => (i.zero, i.size, i.bytes)) = some (some (.int .u8 0), 1, 1) := by kernel_rfl
/-- The bytes that were gathered, as a text. -/
theorem Tryd.gathered {B : Nat} {v : Value} {l : List UInt8} {W0 W : World} (h : Lib.OwnBuf B 5 v l.length (Lib.byteCells l) W0 W) :
    (convert 55 9 v).run Tryd.prog W = .ok (.string ⟨l.toArray⟩) W := by
  obtain ⟨⟨_, hrow⟩, _, _⟩ := h
  rcases hrow with ⟨rfl, h0⟩ | ⟨g, cap, cur, fz, rfl, _, hg, _, _, _, _, ht⟩
  · have : l = [] := List.eq_nil_of_length_eq_zero h0
    subst this
    exact run_convert_bytes_nil (P := Tryd.prog) (w := W) 55 5 Tryd.underlying55 Tryd.underlying5 _ _ 9 Tryd.underlying9
  · refine run_convert_bytes_back (P := Tryd.prog) W 55 9 5 ⟨g, 0, none⟩ cap l Tryd.underlying55 Tryd.underlying5 Tryd.underlying9 (fun j hj => ?_)
    have hadd : (⟨g, 0, none⟩ : Addr).add j = ⟨g, j, none⟩ := by unfold Addr.add; split <;> simp_all
    rw [hadd, cell_of_row _ _ j _ _ _ hg]
    have e := congrArg (·[j]?) ht
    simp only [List.getElem?_take, Nat.mul_one, if_pos hj, Lib.byteCells, List.getElem?_map, List.getElem?_eq_getElem hj, Option.map_some] at e
    rw [← Array.getElem?_toList, e]
set_option maxRecDepth 100000 in
set_option maxHeartbeats 8000000 in
theorem Tryd.refFold_any (s : ByteArray) (w : World) (hs : s.size ≤ 140737488355324) :
    Calls Tryd.prog 34 #[.string s] w fun e w' => e = .returned (.string (Sg.fold s)) ∧ Below w.heap.size w w' := by
  obtain ⟨i0, hi, hz0, hz1, hz2⟩ := info_parts Tryd.info_u8
  go_enter Tryd.func34, Tryd.ntmps34
  go_wp2
  go_loopw [3, 4] (fun v i wr => ∃ (p : Nat) (acc : List UInt8), p ≤ s.size ∧ i = .int .i64 p ∧ Lib.OwnBuf w.heap.size 5 v acc.length (Lib.byteCells acc) w wr ∧ acc.length = p ∧ acc ++ Sg.fl s p = Sg.fl s 0) (fun _ i _ => s.size - (intOf i).toNat)
  case atStart => exact ⟨0, [], by omega, rfl, ⟨⟨rfl, .inl ⟨rfl, rfl⟩⟩, Below.refl _ _, Nat.le_refl _⟩, rfl, rfl⟩
  case round =>
    obtain ⟨p, acc, hp, rfl, hown, hal, hacc⟩ := hrel
    by_cases hlt : p < s.size
    · have hc := fun w => Tryd.refSign_any s p hlt (by omega) w
      have hwp := Lib.width_pos s p
      have hin := Sg.decode_in s p hlt
      have hrl := Lib.rune_le s p
      have hpl := Sg.piece_length s p
      rw [Sg.fl_step s p hlt] at hacc
      unfold Sg.wd at hacc hpl
      have Ha : Hid _ := hacc
      clear hacc
      cases hw : Sg.wrongAt s p with
      | true =>
        have hpc : Sg.piece s p = [s[p]'hlt] := by unfold Sg.piece; rw [if_pos hw, Utf8W.get!_of_lt s p hlt]
        rw [hw] at hc
        have Hpc : Hid _ := hpc
        have Hpl : Hid _ := hpl
        have Hc : Hid _ := hc
        clear hc hw hpc hpl
        go_wp2_with (first | (go_at_call 38; refine (Hc.out _).mono ?_; rintro e w' ⟨rfl, rfl⟩) | (at_builtin; refine Lib.wpList_append_byte rfl (.tmp 25) (.tmp 29) 55 rfl w.heap.size 5 i0 Tryd.underlying55 hi hz0 hz1 hz2 _ acc.length (Lib.byteCells acc) rfl w _ _ hown rfl (by omega) ?_; intro v' w1 hown1))
        go_wp2
        go_roundw
        case rel =>
          have h2 := Hpl.out
          rw [Hpc.out] at h2
          refine ⟨p + (Utf8.decode s p).2, acc ++ [s[p]'hlt], hin, by go_num, ?_, by simp at h2 ⊢; omega, ?_⟩
          · rw [List.length_append, Lib.byteCells_append]
            exact hown1
          · have h3 := Ha.out
            rw [Hpc.out] at h3
            rw [← h3, List.append_assoc]
        case measure => simp [intOf]; omega
      | false =>
        have hcls := Sg.small_cls (Sg.decode_cls s p hw)
        have hpc : Sg.piece s p = Lib.encodeRune (Sg.small (Utf8.decode s p).1) := by unfold Sg.piece; rw [if_neg (by rw [hw]; decide)]
        have hcs := fun w => Tryd.refSmall_any ((Utf8.decode s p).1 : Int) (by omega) (by omega) w
        have hcb := fun w => Tryd.bytes_any _ _ hcls w
        rw [hw] at hc
        have Hpc : Hid _ := hpc
        have Hc : Hid _ := hc
        have Hcs : Hid _ := hcs
        have Hcb : Hid _ := hcb
        have hsz : (⟨(Lib.encodeRune (Sg.small (Utf8.decode s p).1)).toArray⟩ : ByteArray).size = (Utf8.decode s p).2 := by rw [Lib.size_eq, ← hpc]; simpa using hpl
        have hsz1 : (⟨(Lib.encodeRune (Sg.small (Utf8.decode s p).1)).toArray⟩ : ByteArray).size ≤ 4 := by rw [hsz]; have := Sg.enc_len hcls; have h4 := (Lib.runeCells_le (Sg.small (Utf8.decode s p).1)).2; rw [Lib.runeCells_length] at h4; omega
        have Hsz : Hid _ := hsz
        have Hpl : Hid _ := hpl
        clear hc hw hpc hpl hcs hcb hsz
        go_wp2_with (first | (go_at_call 38; refine (Hc.out _).mono ?_; rintro e w' ⟨rfl, rfl⟩) | (go_at_call 48; refine (Hcs.out _).mono ?_; rintro e w' ⟨rfl, rfl⟩))
        refine (Hcb.out _).mono ?_
        rintro e w1 ⟨rfl, b1⟩
        have hown1 := Sg.own_below hown b1
        go_wp2_with (at_builtin; refine Lib.wpList_append_text rfl (.tmp 20) (.tmp 23) 55 9 rfl w.heap.size 5 i0 Tryd.underlying55 Tryd.underlying9 hi hz0 hz1 hz2 _ acc.length (Lib.byteCells acc) rfl w hown1 _ rfl (by omega) ?_; intro v' w2 hown2)
        go_wp2
        go_roundw
        case rel =>
          refine ⟨p + (Utf8.decode s p).2, acc ++ Lib.encodeRune (Sg.small (Utf8.decode s p).1), hin, by go_num, ?_, ?_, ?_⟩
          · rw [List.length_append, Lib.byteCells_append]
            rw [Lib.size_eq] at hown2
            exact hown2
          · have := Hsz.out
            rw [Lib.size_eq] at this
            rw [List.length_append, hal]
            simpa using this
          · have h3 := Ha.out
            rw [Hpc.out] at h3
            rw [← h3, List.append_assoc]
        case measure => simp [intOf]; omega
    · rw [Sg.fl_end s p hlt, List.append_nil] at hacc
      have hcv := Tryd.gathered hown
      have Ha : Hid _ := hacc
      clear hacc
      go_wp2
      go_ret
      exact ⟨Sg.ret_str (by unfold Sg.fold; rw [Ha.out]; rfl), hown.2.1⟩
end Go.Proofs
