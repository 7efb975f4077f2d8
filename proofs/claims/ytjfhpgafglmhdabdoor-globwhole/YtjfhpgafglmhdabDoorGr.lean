/-
  GLOB: 'read'.
-/
import Derived.Test.YtjfhpgafglmhdabDoorGw
import Derived.Test.YtjfhpgafglmhdabDoorMath1
namespace Go.Gl
theorem join_ne (ps : List P) (p : P) : join ps p ≠ [] := by
  unfold join
  split
  · rename_i hl
    cases p with
    | fix r => simp
    | one => simp
    | any =>
      intro h
      rw [show ps = [] from h] at hl
      simp at hl
  · simp
theorem join_len (ps : List P) (p : P) : (join ps p).length ≤ ps.length + 1 := by
  unfold join
  split
  · cases p with
    | fix r => simp
    | one =>
      rename_i hl
      obtain ⟨qs, rfl⟩ := List.getLast?_eq_some_iff.1 hl
      simp
    | any => show ps.length ≤ _; omega
  · simp
theorem rnFrom_step (s : ByteArray) (f pos : Nat) (h : pos < s.size) : rnFrom s (f + 1) pos = (Utf8.decode s pos).1 :: rnFrom s f (pos + (Utf8.decode s pos).2) := if_pos h
theorem rnFrom_end (s : ByteArray) (f pos : Nat) (h : ¬ pos < s.size) : rnFrom s f pos = [] := by
  cases f with
  | zero => rfl
  | succ f => exact if_neg h
end Go.Gl
namespace Go.Proofs
open Go.RowKit Go.Gl
/-- 'join'. -/
theorem Tryd.join_ok (ps : List P) (p : P) (v : Value) (base : Nat) (w : World) (hown : w.ownsRow base 45 2 v ps.length (cellsOf ps)) (hnil : ps = [] → v = .slice none 0 0) (hb : base ≤ w.heap.size) (hlen : ps.length ≤ 1000) :
    Calls Tryd.prog 54 #[v, .agg #[.int .i64 p.kind, .int .i32 p.sign]] w fun e w' => ∃ v', e = .returned v' ∧ w'.ownsRow base 45 2 v' (join ps p).length (cellsOf (join ps p)) ∧ Below base w w' := by
  cases hq : ps.getLast? with
  | none =>
    obtain rfl : ps = [] := List.getLast?_eq_none_iff.1 hq
    rw [hnil rfl]
    exact Tryd.join_nil p base w hb
  | some q =>
    have hpos : 0 < ps.length := by cases ps with
      | nil => simp at hq
      | cons a l => simp
    obtain ⟨g, cap, rfl, _, _⟩ := hown.form hpos
    by_cases hj : q ≠ .any ∨ ∃ r, p = .fix r
    · have hjn : join ps p = ps ++ [p] := join_last (by
        rcases hj with h | h
        · left; rw [hq]; simpa using h
        · exact .inr h)
      rw [hjn, cells_app, List.length_append]
      exact Tryd.join_app ps p g ps.length cap base w hown hb hlen rfl q hq hj
    · have hqa : q = .any := Classical.byContradiction fun h => hj (.inl h)
      subst hqa
      cases p with
      | fix r => exact absurd (.inr ⟨r, rfl⟩) hj
      | any =>
        have hjn : join ps .any = ps := by unfold join; rw [if_pos hq]
        rw [hjn]
        exact Tryd.join_any2 ps g ps.length cap base w hown hb hlen rfl hq
      | one =>
        have hjn : join ps .one = ps.dropLast ++ [.one, .any] := by unfold join; rw [if_pos hq]
        rw [hjn]
        obtain ⟨qs, rfl⟩ := List.getLast?_eq_some_iff.1 hq
        have e1 : (qs ++ [P.any]).length = qs.length + 1 := by simp
        rw [e1] at hown ⊢
        rw [List.dropLast_concat, cells_app, List.length_append]
        exact Tryd.join_one2 qs g qs.length cap base w hown hb (by rw [e1] at hlen; omega) rfl
set_option maxHeartbeats 4000000 in
set_option maxRecDepth 100000 in
/-- 'read'. -/
theorem Tryd.read_any (s : ByteArray) (w : World) (hs : s.size ≤ 100) :
    Calls Tryd.prog 37 #[.string s] w fun e w' => ∃ v, e = .returned (.tuple #[v, .bool (rd [] false (rns s)).2]) ∧ Below w.heap.size w w' ∧
      ((rd [] false (rns s)).2 = true → w'.ownsRow w.heap.size 45 2 v (rd [] false (rns s)).1.length (cellsOf (rd [] false (rns s)).1)) := by
  go_enter Tryd.func37, Tryd.ntmps37
  go_wp2
  go_loopw [4, 5] (fun v e wr => ∃ (pos fuel : Nat) (ps : List P) (b : Bool), e = .bool b ∧ wr.heap[w.heap.size]? = some (.stringIter s pos) ∧ Below w.heap.size w wr ∧ rd ps b (rnFrom s fuel pos) = rd [] false (rns s) ∧ s.size ≤ pos + fuel ∧ pos ≤ s.size ∧ ps.length ≤ pos ∧
      wr.ownsRow (w.heap.size + 1) 45 2 v ps.length (cellsOf ps) ∧ (ps = [] → v = .slice none 0 0)) (fun _ _ wr => s.size - wr.iterPos w.heap.size)
  case atStart =>
    refine ⟨0, s.size, [], false, rfl, ?_, (Below.refl _ w).alloc (Nat.le_refl _) _, rfl, by omega, by omega, by simp, World.ownsRow_nil _ _ _ _, fun _ => rfl⟩
    have := World.iter_heap w s 0
    simpa using this
  case round =>
    obtain ⟨pos, fuel, ps, b, rfl, hit, hbw, hacc, hfu, hpl, hpsl, hown, hnil⟩ := hrel
    have hsz : w.heap.size < wr.heap.size := (Array.getElem?_eq_some_iff.1 hit).1
    by_cases hp : pos < s.size
    · have hnx : ∀ ty, (Instr.next (.pointer (some ⟨w.heap.size, 0, none⟩)) true ty).run Tryd.prog wr = _ := fun ty => Lib.run_next_any_at wr w.heap.size s pos ty hit hp
      have hwd := Lib.width_pos s pos
      have hwi := Sg.decode_in s pos hp
      have hrl := Lib.rune_le s pos
      have hit2 := Lib.iterAt_heap wr w.heap.size s pos (pos + (Utf8.decode s pos).2) hit
      have hbw2 := Lib.below_iterAt hbw (k := w.heap.size) (by omega) s (pos + (Utf8.decode s pos).2)
      have hsz2 : w.heap.size < (wr.iterAt w.heap.size s (pos + (Utf8.decode s pos).2)).heap.size := by rw [Lib.iterAt_size]; omega
      obtain ⟨f, rfl⟩ : ∃ f, fuel = f + 1 := ⟨fuel - 1, by omega⟩
      rw [rnFrom_step s f pos hp, rd] at hacc
      have hownN := row_kept (w' := wr.iterAt w.heap.size s (pos + (Utf8.decode s pos).2)) hown fun g h1 _ => Lib.iterAt_other wr w.heap.size g s _ (by omega)
      have hsp := Tryd.special_any (Utf8.decode s pos).1
      generalize Utf8.decode s pos = D at *
      obtain ⟨c, k⟩ := D
      simp only [] at hsp hacc hwd hwi hrl hit2 hbw2 hsz2 hownN hnx
      clear hown hbw
      cases b with
      | true =>
        cases hc : special c with
        | false =>
          rw [hc] at hsp hacc
          have Hacc : Hid (([], false) = rd [] false (rns s)) := hacc
          clear hacc hc
          go_wp2_with (first | (go_at_call 25; refine (hsp _).mono ?_; rintro e1 w1 ⟨rfl, rfl⟩) | (go_at_call 54; refine hjo.mono ?_; clear hjo; rintro e2 w2 ⟨v2, rfl, hown2, hb2⟩) | fail)
          go_ret2
          rw [← Hacc.out]
          exact ⟨_, rfl, hbw2, fun h => by cases h⟩
        | true =>
          rw [hc] at hsp hacc
          simp only [Bool.not_true, Bool.and_false, Bool.false_eq_true, if_false, Bool.false_and] at hacc
          clear hc
          have hjo := Tryd.join_ok ps (.fix c) _ (w.heap.size + 1) _ hownN hnil (by omega) (by omega)
          have Hacc : Hid (rd (join ps (.fix c)) false (rnFrom s f (pos + k)) = rd [] false (rns s)) := hacc
          clear hacc
          go_wp2_with (first | (go_at_call 25; refine (hsp _).mono ?_; rintro e1 w1 ⟨rfl, rfl⟩) | (go_at_call 54; refine hjo.mono ?_; clear hjo; rintro e2 w2 ⟨v2, rfl, hown2, hb2⟩) | fail)
          go_roundw
          case rel => exact ⟨pos + k, f, join ps (.fix c), false, rfl, (hb2.block _ (by omega)).trans hit2, hbw2.trans (hb2.mono (by omega)), Hacc.out, by omega, hwi, by have := join_len ps (.fix c); omega, hown2, fun h => absurd h (join_ne ps _)⟩
          case measure =>
            simp only [World.iterPos, hit, (hb2.block _ (by omega)).trans hit2]
            omega
      | false =>
        clear hsp
        simp only [Bool.false_and, Bool.false_eq_true, if_false, Bool.not_false, Bool.true_and, beq_iff_eq] at hacc
        by_cases c1 : c = 92
        · subst c1
          have Hacc : Hid (rd ps true (rnFrom s f (pos + k)) = rd [] false (rns s)) := hacc
          clear hacc
          go_wp2_with fail
          go_roundw
          case rel => exact ⟨pos + k, f, ps, true, rfl, hit2, hbw2, Hacc.out, by omega, hwi, by omega, hownN, hnil⟩
          case measure =>
            simp only [World.iterPos, hit, hit2]
            omega
        · rw [if_neg c1] at hacc
          have b1 : ((c : Int) == 92) = false := by rw [beq_eq_false_iff_ne]; omega
          by_cases c2 : c = 42
          · subst c2
            rw [if_pos rfl] at hacc
            have hjo := Tryd.join_ok ps .any _ (w.heap.size + 1) _ hownN hnil (by omega) (by omega)
            have Hacc : Hid (rd (join ps .any) false (rnFrom s f (pos + k)) = rd [] false (rns s)) := hacc
            clear hacc
            go_wp2_with (first | (go_at_call 25; refine (hsp _).mono ?_; rintro e1 w1 ⟨rfl, rfl⟩) | (go_at_call 54; refine hjo.mono ?_; clear hjo; rintro e2 w2 ⟨v2, rfl, hown2, hb2⟩) | fail)
            go_roundw
            case rel => exact ⟨pos + k, f, join ps .any, false, rfl, (hb2.block _ (by omega)).trans hit2, hbw2.trans (hb2.mono (by omega)), Hacc.out, by omega, hwi, by have := join_len ps .any; omega, hown2, fun h => absurd h (join_ne ps _)⟩
            case measure =>
              simp only [World.iterPos, hit, (hb2.block _ (by omega)).trans hit2]
              omega
          · rw [if_neg c2] at hacc
            have b2 : ((c : Int) == 42) = false := by rw [beq_eq_false_iff_ne]; omega
            by_cases c3 : c = 63
            · subst c3
              rw [if_pos rfl] at hacc
              have hjo := Tryd.join_ok ps .one _ (w.heap.size + 1) _ hownN hnil (by omega) (by omega)
              have Hacc : Hid (rd (join ps .one) false (rnFrom s f (pos + k)) = rd [] false (rns s)) := hacc
              clear hacc
              go_wp2_with (first | (go_at_call 25; refine (hsp _).mono ?_; rintro e1 w1 ⟨rfl, rfl⟩) | (go_at_call 54; refine hjo.mono ?_; clear hjo; rintro e2 w2 ⟨v2, rfl, hown2, hb2⟩) | fail)
              go_roundw
              case rel => exact ⟨pos + k, f, join ps .one, false, rfl, (hb2.block _ (by omega)).trans hit2, hbw2.trans (hb2.mono (by omega)), Hacc.out, by omega, hwi, by have := join_len ps .one; omega, hown2, fun h => absurd h (join_ne ps _)⟩
              case measure =>
                simp only [World.iterPos, hit, (hb2.block _ (by omega)).trans hit2]
                omega
            · rw [if_neg c3] at hacc
              have b3 : ((c : Int) == 63) = false := by rw [beq_eq_false_iff_ne]; omega
              have hjo := Tryd.join_ok ps (.fix c) _ (w.heap.size + 1) _ hownN hnil (by omega) (by omega)
              have Hacc : Hid (rd (join ps (.fix c)) false (rnFrom s f (pos + k)) = rd [] false (rns s)) := hacc
              clear hacc
              go_wp2_with (first | (go_at_call 25; refine (hsp _).mono ?_; rintro e1 w1 ⟨rfl, rfl⟩) | (go_at_call 54; refine hjo.mono ?_; clear hjo; rintro e2 w2 ⟨v2, rfl, hown2, hb2⟩) | fail)
              go_roundw
              case rel => exact ⟨pos + k, f, join ps (.fix c), false, rfl, (hb2.block _ (by omega)).trans hit2, hbw2.trans (hb2.mono (by omega)), Hacc.out, by omega, hwi, by have := join_len ps (.fix c); omega, hown2, fun h => absurd h (join_ne ps _)⟩
              case measure =>
                simp only [World.iterPos, hit, (hb2.block _ (by omega)).trans hit2]
                omega
    · have hnx : ∀ ty, (Instr.next (.pointer (some ⟨w.heap.size, 0, none⟩)) true ty).run Tryd.prog wr = _ := fun ty => Lib.run_next_end_at wr w.heap.size s pos ty hit hp
      rw [rnFrom_end s fuel pos hp, rd] at hacc
      have Hacc : Hid ((ps, !b) = rd [] false (rns s)) := hacc
      clear hacc
      go_wp2
      go_ret2
      rw [← Hacc.out]
      exact ⟨_, rfl, hbw, fun _ => row_mono hown (by omega)⟩
end Go.Proofs
