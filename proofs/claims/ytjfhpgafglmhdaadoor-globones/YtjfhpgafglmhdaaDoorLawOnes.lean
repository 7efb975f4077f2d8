/-
  GlobOnes, walked.
-/
import Derived.Test.YtjfhpgafglmhdaaDoorGh
import Derived.Test.YtjfhpgafglmhdaaDoorGn
namespace Go.Gl
open Go.Sg
def onesT : Nat → ByteArray
  | 0 => ⟨#[]⟩
  | n + 1 => onesT n ++ ⟨#[63]⟩
theorem onesT_size (n : Nat) : (onesT n).size = n := by
  induction n with
  | zero => rfl
  | succ n ih => rw [onesT, ByteArray.size_append, ih]; rfl
theorem onesT_valid (n : Nat) : valid (onesT n) = true := by
  induction n with
  | zero => rfl
  | succ n ih => rw [onesT, valid_app _ ih]; rfl
theorem onesT_fold (n : Nat) : fold (onesT n) = onesT n := by
  induction n with
  | zero => rfl
  | succ n ih => rw [onesT, fold_app _ _ (onesT_valid n), ih]; rfl
theorem onesT_rns (n : Nat) : rns (onesT n) = List.replicate n 63 := by
  induction n with
  | zero => rfl
  | succ n ih => rw [onesT, rns_app _ (onesT_valid n), ih, List.replicate_succ']; rfl
theorem raw_ones (n : Nat) : raw false (List.replicate n 63) = some (List.replicate n .one) := by
  induction n with
  | zero => rfl
  | succ n ih => rw [List.replicate_succ, raw]; simp [ih, List.replicate_succ]
theorem Mp_ones (n : Nat) : ∀ s, Mp (List.replicate n .one) s ↔ s.length = n := by
  induction n with
  | zero => intro s; simp [Mp]
  | succ n ih =>
    intro s
    rw [List.replicate_succ]
    constructor
    · rintro ⟨a, b, rfl, ⟨c, rfl⟩, h⟩
      have := (ih b).1 h
      simp; omega
    · intro h
      cases s with
      | nil => simp at h
      | cons c s => exact ⟨[c], s, rfl, ⟨c, rfl⟩, (ih s).2 (by simpa using h)⟩
theorem Mp_more (n : Nat) (s : List Nat) : Mp (.any :: List.replicate n .one) s ↔ n ≤ s.length := by
  constructor
  · rintro ⟨a, b, rfl, _, h⟩
    have := (Mp_ones n b).1 h
    simp; omega
  · intro h
    exact ⟨s.take (s.length - n), s.drop (s.length - n), (List.take_append_drop _ _).symm, trivial, (Mp_ones n _).2 (by simp; omega)⟩
/-- A pattern's parts, and what they mean. -/
theorem comp_means {s : ByteArray} {l : List P} (h1 : s.size ≤ 100) (h2 : valid s = true) (h3 : raw false (rns (fold s)) = some l) : ∃ ps, comp s = some ps ∧ ∀ r, Mp ps r ↔ Mp l r := by
  refine ⟨norm [] l, ?_, fun r => Mp_norm l [] r⟩
  rw [comp_eq, if_pos ⟨h1, h2⟩, h3]
  rfl
theorem comp_ones (n : Nat) (hn : n ≤ 90) : ∃ ps, comp (onesT n) = some ps ∧ ∀ r, Mp ps r ↔ r.length = n := by
  obtain ⟨ps, h1, h2⟩ := comp_means (by rw [onesT_size]; omega) (onesT_valid n) (by rw [onesT_fold, onesT_rns, raw_ones])
  exact ⟨ps, h1, fun r => (h2 r).trans (Mp_ones n r)⟩
theorem comp_more (n : Nat) (hn : n ≤ 90) : ∃ ps, comp (⟨#[42]⟩ ++ onesT n) = some ps ∧ ∀ r, Mp ps r ↔ n ≤ r.length := by
  have hv : valid (⟨#[42]⟩ ++ onesT n) = true := by rw [(cons_low 42 (by decide) _).2, onesT_valid]
  have hf : fold (⟨#[42]⟩ ++ onesT n) = ⟨#[42]⟩ ++ onesT n := by
    rw [fold_app _ _ (by rfl), onesT_fold]; rfl
  obtain ⟨ps, h1, h2⟩ := comp_means (l := .any :: List.replicate n .one) (by rw [ByteArray.size_append, onesT_size]; show 1 + n ≤ 100; omega) hv (by
    rw [hf, (cons_low 42 (by decide) _).1, onesT_rns]
    show raw false (42 :: List.replicate n 63) = _
    rw [raw, raw_ones]
    rfl)
  exact ⟨ps, h1, fun r => (h2 r).trans (Mp_more n r)⟩
theorem whole_of {ps : List P} {Q : List Nat → Prop} [DecidablePred Q] (h : ∀ r, Mp ps r ↔ Q r) (t : ByteArray) : wholeB ps t = (valid t && decide (Q (rns (fold t)))) := by
  rw [Bool.eq_iff_iff, whole_iff, Bool.and_eq_true, decide_eq_true_eq, h]
theorem len_rns_fold {t : ByteArray} (h : valid t = true) : (rns (fold t)).length = (rns t).length := by rw [rns_fold h, List.length_map]
end Go.Gl
namespace Go.Proofs
open Go.RowKit Go.Gl
set_option maxHeartbeats 1000000 in
theorem Tryd.signs_any (s : ByteArray) (w : World) (hs : s.size ≤ maxLen) :
    Calls Tryd.prog 18 #[.string s] w fun e w' => e = .returned (.int .i64 (rns s).length) ∧ Below w.heap.size w w' := by
  have hm : maxLen = 9223372036854775807 := rfl
  go_enter Tryd.func18, Tryd.ntmps18
  go_wp2
  go_loopw [3] (fun v wr => ∃ (pos fuel k : Nat), v = .int .i64 k ∧ wr.heap[w.heap.size]? = some (.stringIter s pos) ∧ Below w.heap.size w wr ∧ k + (rnFrom s fuel pos).length = (rns s).length ∧ s.size ≤ pos + fuel ∧ k ≤ pos ∧ pos ≤ s.size) (fun _ wr => s.size - wr.iterPos w.heap.size)
  case atStart =>
    refine ⟨0, s.size, 0, rfl, ?_, (Below.refl _ w).alloc (Nat.le_refl _) _, by rw [Nat.zero_add]; rfl, by omega, by omega, by omega⟩
    have := World.iter_heap w s 0
    simpa using this
  case round =>
    obtain ⟨pos, fuel, k, rfl, hit, hbw, hacc, hfu, hkp, hpl⟩ := hrel
    have hsz : w.heap.size < wr.heap.size := (Array.getElem?_eq_some_iff.1 hit).1
    by_cases hp : pos < s.size
    · have hnx : ∀ ty, (Instr.next (.pointer (some ⟨w.heap.size, 0, none⟩)) true ty).run Tryd.prog wr = _ := fun ty => Lib.run_next_any_at wr w.heap.size s pos ty hit hp
      have hwd := Lib.width_pos s pos
      have hwi := Sg.decode_in s pos hp
      have hit2 := Lib.iterAt_heap wr w.heap.size s pos (pos + (Utf8.decode s pos).2) hit
      have hbw2 := Lib.below_iterAt hbw (k := w.heap.size) (by omega) s (pos + (Utf8.decode s pos).2)
      obtain ⟨f, rfl⟩ : ∃ f, fuel = f + 1 := ⟨fuel - 1, by omega⟩
      rw [rnFrom_step s f pos hp, List.length_cons] at hacc
      have Hacc : Hid _ := hacc
      clear hacc
      go_wp2
      go_roundw
      case rel => exact ⟨pos + (Utf8.decode s pos).2, f, k + 1, by go_num, hit2, hbw2, by have := Hacc.out; omega, by omega, by omega, hwi⟩
      case measure =>
        simp only [World.iterPos, hit, hit2]
        omega
    · have hnx : ∀ ty, (Instr.next (.pointer (some ⟨w.heap.size, 0, none⟩)) true ty).run Tryd.prog wr = _ := fun ty => Lib.run_next_end_at wr w.heap.size s pos ty hit hp
      rw [rnFrom_end s fuel pos hp] at hacc
      have Hacc : Hid _ := hacc
      clear hacc
      go_wp2
      go_ret
      exact ⟨Sg.ret_int (by have := Hacc.out; simp at this; omega), hbw⟩
set_option maxRecDepth 100000 in
set_option maxHeartbeats 4000000 in
theorem Tryd.globOnes_main (many : Int) (n : Nat) (hn : n < 90) (t : ByteArray) (hs : t.size ≤ 140737488351232) (w : World) (hT : Tryd.Tabs w)
    (hm : (many < 0 ∧ (-(many + 1)).tmod 90 = n) ∨ (¬ many < 0 ∧ many.tmod 90 = n)) (h0 : -9223372036854775808 ≤ many ∧ many ≤ 9223372036854775807) :
    Calls Tryd.prog 5 #[.int .i64 many, .string t] w fun e w' => e = .returned (.bool true) ∧ Below w.heap.size w w' := by
  obtain ⟨ps1, hc1, hm1⟩ := comp_ones n (by omega)
  obtain ⟨ps2, hc2, hm2⟩ := comp_more n (by omega)
  have hw1 := whole_of hm1 t
  have hw2 := whole_of hm2 t
  have hsh := Tryd.shown_any w hT
  have q1 := fun W hW => Tryd.comp_yes hc1 W (by rw [onesT_size]; unfold maxLen; omega) hW
  have q2 := fun W hW => Tryd.comp_yes hc2 W (by rw [ByteArray.size_append, onesT_size]; show 1 + n ≤ maxLen; unfold maxLen; omega) hW
  have q3 := fun W => Tryd.valid_any t W (by unfold maxLen; omega)
  have q4 := fun x W hG hW => Tryd.whole_any ps1 x t W hG (comp_len hc1) (by omega) hW
  have q5 := fun x W hG hW => Tryd.whole_any ps2 x t W hG (comp_len hc2) (by omega) hW
  have q6 := fun W => Tryd.signs_any t W (by unfold maxLen; omega)
  rw [hw1] at q4
  rw [hw2] at q5
  have hkn : Sg.valid t = true → (rns (Sg.fold t)).length = (rns t).length := len_rns_fold
  have hkl : (rns t).length ≤ t.size := rnFrom_len t t.size 0
  clear hw1 hw2 hm1 hm2 hc1 hc2
  have HT : Hid (Tryd.Tabs w) := hT
  clear hT
  generalize hK : (rns t).length = K at *
  generalize hV : Sg.valid t = V at *
  cases V with
  | true =>
    rw [hkn rfl] at q4 q5
    clear hkn hK hV
    have e1 : ((K : Int) == (n : Int)) = decide (K = n) := by rw [Bool.eq_iff_iff, beq_iff_eq, decide_eq_true_eq]; omega
    rw [Bool.true_and] at q4 q5
    generalize hB1 : decide (K = n) = B1 at *
    clear hB1
    rcases hm with ⟨hm1, hm2⟩ | ⟨hm1, hm2⟩
    · go_enter Tryd.func5, Tryd.ntmps5
      go_wp2_with (first
        | (go_at_call 9; refine hsh.mono ?_; clear hsh; rintro e1 w1 ⟨rfl, b1⟩; have t1 := HT.out.below b1)
        | fail)
      go_loopw [7, 8] (fun p i wr => ∃ k : Nat, k ≤ n ∧ p = .string (onesT k) ∧ i = .int .i64 k ∧ wr = w1) (fun _ i _ => n - (intOf i).toNat)
      case atStart => exact ⟨0, by omega, rfl, rfl, rfl⟩
      case round =>
        obtain ⟨k, hk, rfl, rfl, rfl⟩ := hrel
        by_cases hlt : k < n
        · have hkn : (k : Int) < (n : Int) := by omega
          have h1 := onesT_size k
          go_wp2
          go_roundw
          case rel => exact ⟨k + 1, by omega, rfl, by go_num, trivial⟩
          case measure => simp [intOf]; omega
        · obtain rfl : k = n := by omega
          have h1 := onesT_size k
          go_wp2_with (first
            | (go_at_call 11; refine (q1 _ t1).mono ?_; clear q1; rintro e1 w2 ⟨xA, rfl, gA, t2, b2⟩; have bb2 := Below.then b1 b2)
            | (go_at_call 11; refine (q2 _ t2).mono ?_; clear q2; rintro e1 w3 ⟨xB, rfl, gB, t3, b3⟩; have gA3 := gA.keep b3; have bb3 := Below.then bb2 b3)
            | (go_at_call 12; refine (q3 _).mono ?_; clear q3; rintro e1 w4 ⟨rfl, b4⟩; have gA4 := gA3.keep b4; have gB4 := gB.keep b4; have t4 := t3.below b4; have bb4 := Below.then bb3 b4)
            | (go_at_call 13; refine (q4 _ _ gA4 t4).mono ?_; clear q4; rintro e1 w5 ⟨rfl, b5⟩; have gB5 := gB4.keep b5; have t5 := t4.below b5; have bb5 := Below.then bb4 b5)
            | (go_at_call 13; refine (q5 _ _ gB5 t5).mono ?_; clear q5; rintro e1 w6 ⟨rfl, b6⟩; have bb6 := Below.then bb5 b6)
            | (go_at_call 18; refine (q6 _).mono ?_; clear q6; rintro e1 w7 ⟨rfl, b7⟩; have bb7 := Below.then bb6 b7)
            | fail)
          go_ret
          exact ⟨rfl, bb7⟩
    · go_enter Tryd.func5, Tryd.ntmps5
      go_wp2_with (first
        | (go_at_call 9; refine hsh.mono ?_; clear hsh; rintro e1 w1 ⟨rfl, b1⟩; have t1 := HT.out.below b1)
        | fail)
      go_loopw [7, 8] (fun p i wr => ∃ k : Nat, k ≤ n ∧ p = .string (onesT k) ∧ i = .int .i64 k ∧ wr = w1) (fun _ i _ => n - (intOf i).toNat)
      case atStart => exact ⟨0, by omega, rfl, rfl, rfl⟩
      case round =>
        obtain ⟨k, hk, rfl, rfl, rfl⟩ := hrel
        by_cases hlt : k < n
        · have hkn : (k : Int) < (n : Int) := by omega
          have h1 := onesT_size k
          go_wp2
          go_roundw
          case rel => exact ⟨k + 1, by omega, rfl, by go_num, trivial⟩
          case measure => simp [intOf]; omega
        · obtain rfl : k = n := by omega
          have h1 := onesT_size k
          go_wp2_with (first
            | (go_at_call 11; refine (q1 _ t1).mono ?_; clear q1; rintro e1 w2 ⟨xA, rfl, gA, t2, b2⟩; have bb2 := Below.then b1 b2)
            | (go_at_call 11; refine (q2 _ t2).mono ?_; clear q2; rintro e1 w3 ⟨xB, rfl, gB, t3, b3⟩; have gA3 := gA.keep b3; have bb3 := Below.then bb2 b3)
            | (go_at_call 12; refine (q3 _).mono ?_; clear q3; rintro e1 w4 ⟨rfl, b4⟩; have gA4 := gA3.keep b4; have gB4 := gB.keep b4; have t4 := t3.below b4; have bb4 := Below.then bb3 b4)
            | (go_at_call 13; refine (q4 _ _ gA4 t4).mono ?_; clear q4; rintro e1 w5 ⟨rfl, b5⟩; have gB5 := gB4.keep b5; have t5 := t4.below b5; have bb5 := Below.then bb4 b5)
            | (go_at_call 13; refine (q5 _ _ gB5 t5).mono ?_; clear q5; rintro e1 w6 ⟨rfl, b6⟩; have bb6 := Below.then bb5 b6)
            | (go_at_call 18; refine (q6 _).mono ?_; clear q6; rintro e1 w7 ⟨rfl, b7⟩; have bb7 := Below.then bb6 b7)
            | fail)
          go_ret
          exact ⟨rfl, bb7⟩
  | false =>
    rw [Bool.false_and] at q4 q5
    clear hkn hK hV
    rcases hm with ⟨hm1, hm2⟩ | ⟨hm1, hm2⟩
    · go_enter Tryd.func5, Tryd.ntmps5
      go_wp2_with (first
        | (go_at_call 9; refine hsh.mono ?_; clear hsh; rintro e1 w1 ⟨rfl, b1⟩; have t1 := HT.out.below b1)
        | fail)
      go_loopw [7, 8] (fun p i wr => ∃ k : Nat, k ≤ n ∧ p = .string (onesT k) ∧ i = .int .i64 k ∧ wr = w1) (fun _ i _ => n - (intOf i).toNat)
      case atStart => exact ⟨0, by omega, rfl, rfl, rfl⟩
      case round =>
        obtain ⟨k, hk, rfl, rfl, rfl⟩ := hrel
        by_cases hlt : k < n
        · have hkn : (k : Int) < (n : Int) := by omega
          have h1 := onesT_size k
          go_wp2
          go_roundw
          case rel => exact ⟨k + 1, by omega, rfl, by go_num, trivial⟩
          case measure => simp [intOf]; omega
        · obtain rfl : k = n := by omega
          have h1 := onesT_size k
          go_wp2_with (first
            | (go_at_call 11; refine (q1 _ t1).mono ?_; clear q1; rintro e1 w2 ⟨xA, rfl, gA, t2, b2⟩; have bb2 := Below.then b1 b2)
            | (go_at_call 11; refine (q2 _ t2).mono ?_; clear q2; rintro e1 w3 ⟨xB, rfl, gB, t3, b3⟩; have gA3 := gA.keep b3; have bb3 := Below.then bb2 b3)
            | (go_at_call 12; refine (q3 _).mono ?_; clear q3; rintro e1 w4 ⟨rfl, b4⟩; have gA4 := gA3.keep b4; have gB4 := gB.keep b4; have t4 := t3.below b4; have bb4 := Below.then bb3 b4)
            | (go_at_call 13; refine (q4 _ _ gA4 t4).mono ?_; clear q4; rintro e1 w5 ⟨rfl, b5⟩; have gB5 := gB4.keep b5; have t5 := t4.below b5; have bb5 := Below.then bb4 b5)
            | (go_at_call 13; refine (q5 _ _ gB5 t5).mono ?_; clear q5; rintro e1 w6 ⟨rfl, b6⟩; have bb6 := Below.then bb5 b6)
            | (go_at_call 18; refine (q6 _).mono ?_; clear q6; rintro e1 w7 ⟨rfl, b7⟩; have bb7 := Below.then bb6 b7)
            | fail)
          go_ret
          exact ⟨rfl, bb7⟩
    · go_enter Tryd.func5, Tryd.ntmps5
      go_wp2_with (first
        | (go_at_call 9; refine hsh.mono ?_; clear hsh; rintro e1 w1 ⟨rfl, b1⟩; have t1 := HT.out.below b1)
        | fail)
      go_loopw [7, 8] (fun p i wr => ∃ k : Nat, k ≤ n ∧ p = .string (onesT k) ∧ i = .int .i64 k ∧ wr = w1) (fun _ i _ => n - (intOf i).toNat)
      case atStart => exact ⟨0, by omega, rfl, rfl, rfl⟩
      case round =>
        obtain ⟨k, hk, rfl, rfl, rfl⟩ := hrel
        by_cases hlt : k < n
        · have hkn : (k : Int) < (n : Int) := by omega
          have h1 := onesT_size k
          go_wp2
          go_roundw
          case rel => exact ⟨k + 1, by omega, rfl, by go_num, trivial⟩
          case measure => simp [intOf]; omega
        · obtain rfl : k = n := by omega
          have h1 := onesT_size k
          go_wp2_with (first
            | (go_at_call 11; refine (q1 _ t1).mono ?_; clear q1; rintro e1 w2 ⟨xA, rfl, gA, t2, b2⟩; have bb2 := Below.then b1 b2)
            | (go_at_call 11; refine (q2 _ t2).mono ?_; clear q2; rintro e1 w3 ⟨xB, rfl, gB, t3, b3⟩; have gA3 := gA.keep b3; have bb3 := Below.then bb2 b3)
            | (go_at_call 12; refine (q3 _).mono ?_; clear q3; rintro e1 w4 ⟨rfl, b4⟩; have gA4 := gA3.keep b4; have gB4 := gB.keep b4; have t4 := t3.below b4; have bb4 := Below.then bb3 b4)
            | (go_at_call 13; refine (q4 _ _ gA4 t4).mono ?_; clear q4; rintro e1 w5 ⟨rfl, b5⟩; have gB5 := gB4.keep b5; have t5 := t4.below b5; have bb5 := Below.then bb4 b5)
            | (go_at_call 13; refine (q5 _ _ gB5 t5).mono ?_; clear q5; rintro e1 w6 ⟨rfl, b6⟩; have bb6 := Below.then bb5 b6)
            | (go_at_call 18; refine (q6 _).mono ?_; clear q6; rintro e1 w7 ⟨rfl, b7⟩; have bb7 := Below.then bb6 b7)
            | fail)
          go_ret
          exact ⟨rfl, bb7⟩
theorem Tryd.globOnesWalk (many : Int) (h0 : -9223372036854775808 ≤ many ∧ many ≤ 9223372036854775807) (t : ByteArray) (hs : t.size ≤ 140737488351232) (w : World) (hT : Tryd.Tabs w) :
    Calls Tryd.prog 5 #[.int .i64 many, .string t] w fun e w' => e = .returned (.bool true) ∧ Below w.heap.size w w' := by
  by_cases hc : many < 0
  · have h1 : (-(many + 1)).tmod 90 = (((-(many + 1)).toNat % 90 : Nat) : Int) := by rw [Int.tmod_eq_emod_of_nonneg (by omega)]; omega
    exact Tryd.globOnes_main many _ (Nat.mod_lt _ (by decide)) t hs w hT (.inl ⟨hc, h1⟩) h0
  · have h1 : many.tmod 90 = ((many.toNat % 90 : Nat) : Int) := by rw [Int.tmod_eq_emod_of_nonneg (by omega)]; omega
    exact Tryd.globOnes_main many _ (Nat.mod_lt _ (by decide)) t hs w hT (.inr ⟨hc, h1⟩) h0
end Go.Proofs
