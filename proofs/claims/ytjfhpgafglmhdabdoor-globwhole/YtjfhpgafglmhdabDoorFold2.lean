import Derived.Test.YtjfhpgafglmhdabDoorFold
namespace Go.Proofs
open Go.RowKit
set_option maxHeartbeats 4000000 in
set_option maxRecDepth 1000000 in
theorem Tryd.fold_any (s : ByteArray) (w : World) (hs : s.size ≤ 140737488355324) (hT : Tryd.Tabs w) :
    Calls Tryd.prog 29 #[.string s] w fun e w' => e = .returned (.string (Sg.fold s)) ∧ Below w.heap.size w w' := by
  have hsm : s.size ≤ maxLen := by unfold maxLen; omega
  go_enter Tryd.func29, Tryd.ntmps29
  go_wp2_with (go_at_call 44; refine (Tryd.Builder_Grow_fresh w.heap.size w.heap.size s.size _ (Nat.le_refl _) ?hbk ?hBw (by omega)).mono ?_)
  case hbk => exact heap_alloc_new _ _
  case hBw => simp
  rintro e w1 ⟨rfl, hI1, hb1⟩
  have hb0 : Below w.heap.size w w1 := ((Below.refl _ w).alloc (Nat.le_refl _) _).trans hb1
  have hs1 : w.heap.size < w1.heap.size := by have := hb1.size; simp at this; omega
  have hIF : Lib.IsBuilderF 57 5 w.heap.size w.heap.size (Lib.byteCells []) w1 := Lib.IsBuilderF.of (.inr hI1)
  clear hI1 hb1
  go_wp2
  go_loopw [] (fun wr => ∃ (pos fuel : Nat) (acc : List UInt8), Lib.IsBuilderF 57 5 w.heap.size w.heap.size (Lib.byteCells acc) wr ∧ wr.heap[w1.heap.size]? = some (.stringIter s pos) ∧ Below w.heap.size w wr ∧ acc ++ Sg.foldFrom s fuel pos = Sg.foldFrom s s.size 0 ∧ s.size ≤ pos + fuel ∧ acc.length = pos ∧ pos ≤ s.size) (fun wr => s.size - wr.iterPos w1.heap.size)
  case atStart =>
    refine ⟨0, s.size, [], hIF.alloc _, ?_, hb0.alloc (by omega) _, rfl, by omega, rfl, by omega⟩
    have := World.iter_heap w1 s 0
    simpa using this
  case round =>
    obtain ⟨pos, fuel, acc, hI, hit, hbw, hacc, hfu, hal, hpl⟩ := hrel
    have hsz : w1.heap.size < wr.heap.size := (Array.getElem?_eq_some_iff.1 hit).1
    by_cases hp : pos < s.size
    · have hnx : ∀ ty, (Instr.next (.pointer (some ⟨w1.heap.size, 0, none⟩)) true ty).run Tryd.prog wr = _ := fun ty => Lib.run_next_any_at wr w1.heap.size s pos ty hit hp
      have hwd := Lib.width_pos s pos
      have hwi := Sg.decode_in s pos hp
      have hrl := Lib.rune_le s pos
      have hI2 := hI.iterAt hit (pos + (Utf8.decode s pos).2)
      have hit2 := Lib.iterAt_heap wr w1.heap.size s pos (pos + (Utf8.decode s pos).2) hit
      have hbw2 := Lib.below_iterAt hbw (k := w1.heap.size) (by omega) s (pos + (Utf8.decode s pos).2)
      have hsz2 : w1.heap.size < (wr.iterAt w1.heap.size s (pos + (Utf8.decode s pos).2)).heap.size := by rw [Lib.iterAt_size]; omega
      obtain ⟨f, rfl⟩ : ∃ f, fuel = f + 1 := ⟨fuel - 1, by omega⟩
      have hw := Tryd.wrong_dec s pos hp hsm
      have hpl2 := Sg.piece_len s pos
      rw [Sg.foldFrom, if_pos hp] at hacc
      cases hwr : Sg.wrongAt s pos with
      | true =>
        rw [hwr] at hw hacc hpl2
        have Hw : Hid _ := hw
        have Ha : Hid _ := hacc
        have Hl : Hid _ := hpl2
        clear hw hacc hwr hpl2
        go_wp2_with (first | (go_at_call 42; refine (Hw.out _).mono ?_; rintro e w' ⟨rfl, rfl⟩) | (go_at_call 24; refine (Tryd.Builder_WriteByte_k w.heap.size w.heap.size _ _ _ hI2 (by rw [Lib.byteCells_length]; omega) (by omega)).mono ?_))
        rintro e W1 ⟨rfl, h1, b1, k1⟩
        go_wp2
        go_roundw
        case rel =>
          have hl2 := Hl.out
          rw [if_pos (by simp)] at hl2
          have hg : s[pos]'hp = s.get! pos := (Utf8W.get!_of_lt s pos hp).symm
          refine ⟨pos + (Utf8.decode s pos).2, f, acc ++ [s.get! pos], ?_, k1.iter hit2 (by omega), hbw2.trans b1, ?_, by omega, by simp at hl2 ⊢; omega, hwi⟩
          · rw [Lib.byteCells_append, ← hg]; exact .inr h1
          · have := Ha.out
            rw [if_pos (by simp)] at this
            rw [← this, List.append_assoc]
        case measure =>
          simp only [World.iterPos, k1.iter hit2 (by omega), hit]
          omega
      | false =>
        rw [hwr] at hw hacc hpl2
        have Hw : Hid _ := hw
        have Ha : Hid _ := hacc
        have Hl : Hid _ := hpl2
        have hsb := Sg.small_bd (Utf8.decode s pos).1 (by omega) (by omega)
        clear hw hacc hwr hpl2
        go_wp2_with (first | (go_at_call 42; refine (Hw.out _).mono ?_; rintro e w' ⟨rfl, rfl⟩) | (go_at_call 45; refine (Tryd.small_any _ (by omega) (by omega) _ (hT.below hbw2)).mono ?_))
        rintro e W1 ⟨rfl, b1⟩
        have hI3 := Sg.builder_below hI2 b1
        have hit3 : W1.heap[w1.heap.size]? = some (.stringIter s (pos + (Utf8.decode s pos).2)) := by rw [b1.block _ hsz2]; exact hit2
        have hsz3 := b1.size
        have hbw3 := hbw2.trans (b1.mono (B' := w.heap.size) (by omega))
        go_wp2_with (go_at_call 22; refine (Tryd.Builder_WriteRune_k w.heap.size w.heap.size _ _ (by omega) (by omega) _ hI3 (by rw [Lib.byteCells_length]; omega) (by omega)).mono ?_)
        rintro e W2 ⟨rfl, h2, b2, k2⟩
        go_wp2
        go_roundw
        case rel =>
          have hl2 := Hl.out
          rw [if_neg (by simp)] at hl2
          refine ⟨pos + (Utf8.decode s pos).2, f, acc ++ Lib.encodeRune (Sg.small (Utf8.decode s pos).1), ?_, k2.iter hit3 (by omega), hbw3.trans b2, ?_, by omega, by rw [List.length_append]; omega, hwi⟩
          · rw [Lib.byteCells_append, Lib.byteCells_encodeRune]; exact .inr h2
          · have := Ha.out
            rw [if_neg (by simp)] at this
            rw [← this, List.append_assoc]
        case measure =>
          simp only [World.iterPos, k2.iter hit3 (by omega), hit]
          omega
    · have hnx : ∀ ty, (Instr.next (.pointer (some ⟨w1.heap.size, 0, none⟩)) true ty).run Tryd.prog wr = _ := fun ty => Lib.run_next_end_at wr w1.heap.size s pos ty hit hp
      rw [Sg.foldFrom_end s fuel pos hp, List.append_nil] at hacc
      have Ha : Hid _ := hacc
      clear hacc
      go_wp2_with (go_at_call 23; refine (Tryd.Builder_String_any_k w.heap.size w.heap.size acc _ hI (by omega)).mono ?_)
      rintro e W1 ⟨rfl, _, b1, _⟩
      go_wp2
      go_ret
      exact ⟨Sg.ret_str (by unfold Sg.fold; rw [Ha.out]), hbw.trans b1⟩
end Go.Proofs
