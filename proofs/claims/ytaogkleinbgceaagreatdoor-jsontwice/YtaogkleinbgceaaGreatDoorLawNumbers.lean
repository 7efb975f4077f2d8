/-
  JsonNumbers, walked.
-/
import Derived.Test.YtaogkleinbgceaaGreatDoorJwr
namespace Go.Proofs
open Go.RowKit Go.Jv
theorem Tryz.conv_sb (t : ByteArray) (W : World) : (convert 9 29 (.string t)).run Tryz.prog W = .ok (.slice (some ⟨W.heap.size, 0, none⟩) t.size (grownCap W t.size 0 5)) (Lib.bytesWorld W 5 t) :=
  Lib.run_convert_string_bytes (P := Tryz.prog) W 9 29 5 t (u := .string) Tryz.underlying9 Tryz.underlying29 Tryz.underlying5
theorem Jv.bytesW_below (w : World) (e : TypeId) (t : ByteArray) : Below w.heap.size w (Lib.bytesWorld w e t) := ⟨rfl, rfl, rfl, by rw [Lib.bytesWorld_size]; omega, fun k hk => Lib.bytesWorld_at_old w _ t k hk⟩
/-- 'Parse' of a right text's bytes. -/
theorem Tryz.parse_ok (t : ByteArray) (v : V) (hv : parse t = .ok v) (c : Nat) (w : World) (hs : t.size ≤ 140737488355328) (hT : Tryz.Tb w) :
    Calls Tryz.prog 11 #[.slice (some ⟨w.heap.size, 0, none⟩) t.size c] (Lib.bytesWorld w 5 t) fun en w' =>
      ∃ x, en = .returned (.tuple #[.pointer (some ⟨x, 0, none⟩), .nilIface]) ∧ Tryz.Tr w' (fun g => w.heap.size ≤ g) v x ∧ Below w.heap.size w w' := by
  refine (Tryz.parse_bytes t c w hs hT).mono fun en w' h => ?_
  obtain ⟨x, h1, h2, h3⟩ := Tryz.ParseOk.ok hv h
  have hb := Jv.bytesW_below w 5 t
  exact ⟨x, h1, Tryz.Tr_mono (fun g hg _ => Nat.le_trans hb.size hg) _ _ h2, hb.trans (h3.mono hb.size)⟩
/-- .. of a text's that is not right. -/
theorem Tryz.parse_bad (t : ByteArray) (p e : Nat) (hv : parse t = .bad p e) (c : Nat) (w : World) (hs : t.size ≤ 140737488355328) (hT : Tryz.Tb w) :
    Calls Tryz.prog 11 #[.slice (some ⟨w.heap.size, 0, none⟩) t.size c] (Lib.bytesWorld w 5 t) fun en w' =>
      ∃ y, en = .returned (.tuple #[.pointer none, .iface 50 (.pointer (some ⟨y, 0, none⟩))]) ∧ w'.cell? ⟨y, 0, none⟩ = some (.int .i64 p) ∧ w'.cell? ⟨y, 1, none⟩ = some (.int .i64 e) ∧ Below w.heap.size w w' := by
  refine (Tryz.parse_bytes t c w hs hT).mono fun en w' h => ?_
  obtain ⟨y, h1, h2, h3, h4⟩ := Tryz.ParseOk.bad hv h
  have hb := Jv.bytesW_below w 5 t
  exact ⟨y, h1, h2, h3, hb.trans (h4.mono hb.size)⟩
set_option maxRecDepth 100000 in
set_option maxHeartbeats 4000000 in
theorem Tryz.numbersIn (n : Int) (hn : -9007199254740991 ≤ n ∧ n ≤ 9007199254740991) (w : World) (hT : Tryz.Tb w) :
    Calls Tryz.prog 6 #[.int .i64 n] w fun e w' => e = .returned (.bool true) ∧ Below w.heap.size w w' := by
  have ha := Tryz.awake_any w hT
  have hwr := fun W => Tryz.written_any n (by omega) (by omega) W
  have hpn := parse_num n (by omega) (by omega)
  rw [if_pos (show -maxInt ≤ n ∧ n ≤ maxInt from hn)] at hpn
  have hlen := Lib.itoa_length_le n (by omega) (by omega)
  have hsz : (⟨(Lib.itoa n).toArray⟩ : ByteArray).size = (Lib.itoa n).length := by simp [ByteArray.size]
  have hpr : pr (.int n) = Lib.itoa n := by rw [pr]
  have hp := fun c W hW => Tryz.parse_ok _ _ hpn c W (by omega) hW
  have hprint := fun W x hx hW => Tryz.print_any (.int n) W x hx hW (by rw [hpr]; omega)
  rw [hpr] at hprint
  have hsb := Tryz.conv_sb ⟨(Lib.itoa n).toArray⟩
  have hof := fun W => Tryz.ofInt_any n W
  have hmm : max (-9007199254740991) (min n 9007199254740991) = n := by omega
  rw [hmm] at hof
  have hTr : ∀ W x, Jv.Vb W x 2 false n emp Jv.nilS Jv.nilS → Tryz.Tr W (fun g => g < W.heap.size) (.int n) x := fun W x h => by unfold Tryz.Tr; exact ⟨⟨h.lt, hn⟩, h⟩
  generalize hl : (⟨(Lib.itoa n).toArray⟩ : ByteArray) = t at *
  clear hl hlen hsz hpn hmm hpr
  obtain ⟨hn1, hn2⟩ := hn
  go_enter Tryz.func6, Tryz.ntmps6
  go_wp2_with (first
    | (go_at_call 9; refine ha.mono ?_; clear ha; rintro e1 w1 ⟨rfl, hb1⟩; have hT1 := hT.below hb1 hT.size)
    | (go_at_call 16; refine (hwr _).mono ?_; clear hwr; rintro e2 w2 ⟨rfl, rfl⟩)
    | (go_at_call 11; refine (hp _ _ hT1).mono ?_; clear hp; rintro e3 w3 ⟨x, rfl, htr, hb3⟩; have hT3 := hT1.below hb3 hT1.size; unfold Tryz.Tr at htr; obtain ⟨⟨hxl, -, -⟩, hvb⟩ := htr)
    | (go_at_call 17; refine (hof _).mono ?_; clear hof; rintro e4 w4 ⟨rfl, hw4⟩
       have hb4 : Below w3.heap.size w3 w4 := by rw [hw4]; exact (Below.refl _ _).alloc (Nat.le_refl _) _
       have hvy : Jv.Vb w4 w3.heap.size 2 false n emp Jv.nilS Jv.nilS := by rw [hw4]; exact Jv.Vb.new w3 2 false n emp Jv.nilS Jv.nilS _
       have hvx := hvb.keep (hb4.block x hvb.lt) hb4.size
       have hT4 := hT3.below hb4 hT3.size
       clear hw4
       have hnx := Tryz.number_of hvx
       have hpx := hprint w4 x (hTr _ _ hvx) hT4)
    | (go_at_call 12; refine (Tryz.lawFault_nil _).mono ?_; rintro e9 w9 ⟨rfl, rfl⟩)
    | (go_at_call 18; refine hnx.mono ?_; clear hnx; rintro e9 w9 ⟨rfl, rfl⟩)
    | (go_at_call 15; refine hpx.mono ?_; clear hpx; rintro e5 w5 ⟨rfl, hb5⟩; have hvy5 := hvy.keep (hb5.block _ hvy.lt) hb5.size; have hT5 := hT4.below hb5 hT4.size; have hny := Tryz.number_of hvy5; have hpy := hprint w5 _ (hTr _ _ hvy5) hT5)
    | (go_at_call 18; refine hny.mono ?_; clear hny; rintro e9 w9 ⟨rfl, rfl⟩)
    | (go_at_call 15; refine hpy.mono ?_; clear hpy; rintro e6 w6 ⟨rfl, hb6⟩)
    | fail)
  go_ret
  exact ⟨rfl, hb1.trans ((hb3.trans ((hb4.trans ((hb5.trans (hb6.mono hb5.size)).mono hb4.size)).mono hb3.size)).mono hb1.size)⟩
set_option maxRecDepth 100000 in
set_option maxHeartbeats 4000000 in
theorem Tryz.numbersOut (n m : Int) (hn : (n < -9007199254740991 ∧ m = -9007199254740991) ∨ (9007199254740991 < n ∧ m = 9007199254740991)) (h0 : -9223372036854775808 ≤ n) (h1 : n ≤ 9223372036854775807) (w : World) (hT : Tryz.Tb w) :
    Calls Tryz.prog 6 #[.int .i64 n] w fun e w' => e = .returned (.bool true) ∧ Below w.heap.size w w' := by
  have ha := Tryz.awake_any w hT
  have hwr := fun W => Tryz.written_any n (by omega) (by omega) W
  have hpn := parse_num n (by omega) (by omega)
  rw [if_neg (show ¬ (-maxInt ≤ n ∧ n ≤ maxInt) by unfold maxInt; omega)] at hpn
  have hlen := Lib.itoa_length_le n (by omega) (by omega)
  have hsz : (⟨(Lib.itoa n).toArray⟩ : ByteArray).size = (Lib.itoa n).length := by simp [ByteArray.size]
  have hp := fun c W hW => Tryz.parse_bad _ _ _ hpn c W (by omega) hW
  have hsb := Tryz.conv_sb ⟨(Lib.itoa n).toArray⟩
  have hof := fun W => Tryz.ofInt_any n W
  have hmm : max (-9007199254740991) (min n 9007199254740991) = m := by omega
  rw [hmm] at hof
  generalize hl : (⟨(Lib.itoa n).toArray⟩ : ByteArray) = t at *
  clear hl hlen hsz hpn hmm
  rcases hn with ⟨hn1, hm⟩ | ⟨hn1, hm⟩
  · have hn2 : ¬ (-9007199254740991 ≤ n) := by omega
    have hn3 : n < 0 := by omega
    have hn4 : n ≤ 9007199254740991 := by omega
    go_enter Tryz.func6, Tryz.ntmps6
    go_wp2_with (first
      | (go_at_call 9; refine ha.mono ?_; clear ha; rintro e1 w1 ⟨rfl, hb1⟩; have hT1 := hT.below hb1 hT.size)
      | (go_at_call 16; refine (hwr _).mono ?_; clear hwr; rintro e2 w2 ⟨rfl, rfl⟩)
      | (go_at_call 11; refine (hp _ _ hT1).mono ?_; clear hp; rintro e3 w3 ⟨y, rfl, hc0, hc1, hb3⟩; have hyl := World.block_lt_of_cell? _ _ hc0)
      | (go_at_call 17; refine (hof _).mono ?_; clear hof; rintro e4 w4 ⟨rfl, hw4⟩
         have hb4 : Below w3.heap.size w3 w4 := by rw [hw4]; exact (Below.refl _ _).alloc (Nat.le_refl _) _
         have hvy : Jv.Vb w4 w3.heap.size 2 false m emp Jv.nilS Jv.nilS := by rw [hw4]; exact Jv.Vb.new w3 2 false m emp Jv.nilS Jv.nilS _
         clear hw4
         have hfa := Tryz.lawFault_some w4 y 0 23 ((hb4.cell (p := ⟨y, 0, none⟩) hyl).trans hc0) ((hb4.cell (p := ⟨y, 1, none⟩) hyl).trans hc1) (by decide))
      | (go_at_call 12; refine hfa.mono ?_; clear hfa; rintro e9 w9 ⟨rfl, nn, hw9⟩; have hb9 : Below w4.heap.size w4 w9 := by { rw [hw9]; exact Jv.belowN (Below.refl _ _) _ }; clear hw9; have hny := Tryz.number_of (hvy.keep (hb9.block _ hvy.lt) hb9.size))
      | (go_at_call 18; refine hny.mono ?_; clear hny; rintro e9 w8 ⟨rfl, rfl⟩)
      | fail)
    go_ret
    exact ⟨rfl, hb1.trans ((hb3.trans ((hb4.trans (hb9.mono hb4.size)).mono hb3.size)).mono hb1.size)⟩
  · have hn2 : ¬ (n ≤ 9007199254740991) := by omega
    have hn3 : ¬ n < 0 := by omega
    have hn4 : -9007199254740991 ≤ n := by omega
    go_enter Tryz.func6, Tryz.ntmps6
    go_wp2_with (first
      | (go_at_call 9; refine ha.mono ?_; clear ha; rintro e1 w1 ⟨rfl, hb1⟩; have hT1 := hT.below hb1 hT.size)
      | (go_at_call 16; refine (hwr _).mono ?_; clear hwr; rintro e2 w2 ⟨rfl, rfl⟩)
      | (go_at_call 11; refine (hp _ _ hT1).mono ?_; clear hp; rintro e3 w3 ⟨y, rfl, hc0, hc1, hb3⟩; have hyl := World.block_lt_of_cell? _ _ hc0)
      | (go_at_call 17; refine (hof _).mono ?_; clear hof; rintro e4 w4 ⟨rfl, hw4⟩
         have hb4 : Below w3.heap.size w3 w4 := by rw [hw4]; exact (Below.refl _ _).alloc (Nat.le_refl _) _
         have hvy : Jv.Vb w4 w3.heap.size 2 false m emp Jv.nilS Jv.nilS := by rw [hw4]; exact Jv.Vb.new w3 2 false m emp Jv.nilS Jv.nilS _
         clear hw4
         have hfa := Tryz.lawFault_some w4 y 0 23 ((hb4.cell (p := ⟨y, 0, none⟩) hyl).trans hc0) ((hb4.cell (p := ⟨y, 1, none⟩) hyl).trans hc1) (by decide))
      | (go_at_call 12; refine hfa.mono ?_; clear hfa; rintro e9 w9 ⟨rfl, nn, hw9⟩; have hb9 : Below w4.heap.size w4 w9 := by { rw [hw9]; exact Jv.belowN (Below.refl _ _) _ }; clear hw9; have hny := Tryz.number_of (hvy.keep (hb9.block _ hvy.lt) hb9.size))
      | (go_at_call 18; refine hny.mono ?_; clear hny; rintro e9 w8 ⟨rfl, rfl⟩)
      | fail)
    go_ret
    exact ⟨rfl, hb1.trans ((hb3.trans ((hb4.trans (hb9.mono hb4.size)).mono hb3.size)).mono hb1.size)⟩
theorem Tryz.jsonNumbersWalk (n : Int) (hn : -9223372036854775808 ≤ n ∧ n ≤ 9223372036854775807) (w : World) (hT : Tryz.Tb w) :
    Calls Tryz.prog 6 #[.int .i64 n] w fun e w' => e = .returned (.bool true) ∧ Below w.heap.size w w' := by
  by_cases h : -9007199254740991 ≤ n ∧ n ≤ 9007199254740991
  · exact Tryz.numbersIn n h w hT
  · by_cases h2 : n < 0
    · exact Tryz.numbersOut n _ (.inl ⟨by omega, rfl⟩) hn.1 hn.2 w hT
    · exact Tryz.numbersOut n _ (.inr ⟨by omega, rfl⟩) hn.1 hn.2 w hT
end Go.Proofs
