/-
  GlobQuotes, walked.
-/
import Derived.Test.YtjfhpgafglmhdaaDoorGq
import Derived.Test.YtjfhpgafglmhdaaDoorLawGFolds
namespace Go.Gl
open Go.Sg
theorem str_eq (a b : ByteArray) : (a.toList == b.toList) = decide (a = b) := by
  rw [Bool.eq_iff_iff, beq_iff_eq, decide_eq_true_eq, Lib.toList_data, Lib.toList_data]
  exact ⟨fun h => ba_ext a b h, fun h => by rw [h]⟩
theorem qt_len (l : List UInt8) : (qt l).length ≤ 2 * l.length := by
  induction l with
  | nil => simp [qt]
  | cons b r ih =>
    rw [qt, List.length_append, List.length_cons]
    split <;> simp <;> omega
theorem T_size (l : List UInt8) : (T l).size = l.length := by simp [T, ByteArray.size]
theorem byte_at (s : ByteArray) (k : Nat) (h : k < s.size) : s.data.toList.take (k + 1) = s.data.toList.take k ++ [s.get! k] ∧ s.extract k (k + 1) = ⟨#[s.get! k]⟩ := by
  have hk : k < s.data.toList.length := by rw [← Lib.size_eq]; exact h
  have hg : s.data.toList[k]'hk = s.get! k := by
    have : s.get! k = s.data[k]'h := by simp [ByteArray.get!, getElem!_pos, h]
    rw [this]
    simp
  have h1 : s.data.toList.take (k + 1) = s.data.toList.take k ++ [s.get! k] := by
    rw [List.take_add_one, List.getElem?_eq_getElem hk, hg]; rfl
  refine ⟨h1, ?_⟩
  apply ba_ext
  simp only [ByteArray.data_extract, Array.toList_extract]
  show List.take (k + 1 - k) (List.drop k s.data.toList) = [s.get! k]
  rw [List.drop_eq_getElem_cons hk, hg, show k + 1 - k = 1 by omega]
  rfl
end Go.Gl
namespace Go.Proofs
open Go.RowKit Go.Gl
set_option maxHeartbeats 2000000 in
theorem Tryd.quoted_any (s : ByteArray) (w : World) (hs : s.size ≤ 140737488351232) :
    Calls Tryd.prog 10 #[.string s] w fun e w' => e = .returned (.string (Gl.T (qt s.data.toList))) ∧ w' = w := by
  go_enter Tryd.func10, Tryd.ntmps10
  go_wp2
  go_loopw [3, 4] (fun o i wr => ∃ k : Nat, k ≤ s.size ∧ o = .string (Gl.T (qt (s.data.toList.take k))) ∧ i = .int .i64 k ∧ wr = w) (fun _ i _ => s.size - (intOf i).toNat)
  case atStart => exact ⟨0, by omega, rfl, rfl, rfl⟩
  case round =>
    obtain ⟨k, hk, rfl, rfl, rfl⟩ := hrel
    by_cases hlt : k < s.size
    · obtain ⟨h1, h2⟩ := byte_at s k hlt
      have hl : (Gl.T (qt (s.data.toList.take k))).size ≤ 2 * s.size := by
        rw [T_size]
        have := qt_len (s.data.toList.take k)
        have : (s.data.toList.take k).length ≤ s.data.toList.length := List.length_take_le' _ _
        rw [← Lib.size_eq] at this
        omega
      have hg : s[k]'hlt = s.get! k := (Utf8W.get!_of_lt s k hlt).symm
      have hb : (k : Int) < (s.size : Int) := by omega
      have hq : qt (s.data.toList.take (k + 1)) = qt (s.data.toList.take k) ++ (if spB (s.get! k) then [92, s.get! k] else [s.get! k]) := by rw [h1, qt_app]; simp [qt]
      have fin1 : spB (s.get! k) = true → Gl.T (qt (s.data.toList.take k)) ++ ⟨#[92]⟩ ++ s.extract k (k + 1) = Gl.T (qt (s.data.toList.take (k + 1))) := fun h => by
        rw [hq, h, h2, if_pos rfl, T_app, ByteArray.append_assoc]
        rfl
      have fin2 : spB (s.get! k) = false → Gl.T (qt (s.data.toList.take k)) ++ s.extract k (k + 1) = Gl.T (qt (s.data.toList.take (k + 1))) := fun h => by
        rw [hq, h, h2, if_neg (by simp), T_app]
        rfl
      have FIN1 : Hid _ := fin1
      have FIN2 : Hid _ := fin2
      have hes : (s.extract k (k + 1)).size = 1 := by rw [h2]; rfl
      clear fin1 fin2 hq h1 h2
      generalize s.get! k = c at *
      generalize hO : Gl.T (qt (s.data.toList.take k)) = O at *
      clear hO
      have cs : (c = 42) ∨ (c = 63) ∨ (c = 92) ∨ (c ≠ 42 ∧ c ≠ 63 ∧ c ≠ 92) := by
        by_cases a1 : c = 42
        · exact .inl a1
        · by_cases a2 : c = 63
          · exact .inr (.inl a2)
          · by_cases a3 : c = 92
            · exact .inr (.inr (.inl a3))
            · exact .inr (.inr (.inr ⟨a1, a2, a3⟩))
      rcases cs with hc | hc | hc | ⟨hc1, hc2, hc3⟩
      · subst hc
        go_wp2
        go_roundw
        case rel => exact ⟨k + 1, by omega, by rw [← FIN1.out (by rfl)], by go_num, trivial⟩
        case measure => simp [intOf]; omega
      · subst hc
        go_wp2
        go_roundw
        case rel => exact ⟨k + 1, by omega, by rw [← FIN1.out (by rfl)], by go_num, trivial⟩
        case measure => simp [intOf]; omega
      · subst hc
        go_wp2
        go_roundw
        case rel => exact ⟨k + 1, by omega, by rw [← FIN1.out (by rfl)], by go_num, trivial⟩
        case measure => simp [intOf]; omega
      · have e1 : ((c.toNat : Int) == 42) = false := by rw [beq_eq_false_iff_ne]; intro h; exact hc1 (UInt8.toNat_inj.1 (by show c.toNat = 42; omega))
        have e2 : ((c.toNat : Int) == 63) = false := by rw [beq_eq_false_iff_ne]; intro h; exact hc2 (UInt8.toNat_inj.1 (by show c.toNat = 63; omega))
        have e3 : ((c.toNat : Int) == 92) = false := by rw [beq_eq_false_iff_ne]; intro h; exact hc3 (UInt8.toNat_inj.1 (by show c.toNat = 92; omega))
        have hsp : spB c = false := by unfold spB; simp [hc1, hc2, hc3]
        have HSP : Hid _ := hsp
        clear hc1 hc2 hc3 hsp
        go_wp2
        go_roundw
        case rel => exact ⟨k + 1, by omega, by rw [← FIN2.out HSP.out], by go_num, trivial⟩
        case measure => simp [intOf]; omega
    · have hb : ¬ (k : Int) < (s.size : Int) := by omega
      have hx : s.data.toList.take k = s.data.toList := List.take_of_length_le (by rw [← Lib.size_eq]; omega)
      rw [hx]
      clear hx
      go_wp2
      go_ret
      exact ⟨rfl, rfl⟩
set_option maxRecDepth 100000 in
set_option maxHeartbeats 4000000 in
theorem Tryd.globQuotesWalk (t : ByteArray) (ht : t.size ≤ 140737488351232) (o : ByteArray) (hs : o.size ≤ 140737488351232) (w : World) (hT : Tryd.Tabs w) :
    Calls Tryd.prog 3 #[.string t, .string o] w fun e w' => e = .returned (.bool true) ∧ Below w.heap.size w w' := by
  have hsh := Tryd.shown_any w hT
  have qq := fun W => Tryd.quoted_any t W ht
  have hcq := comp_qt t
  have qv := fun W => Tryd.valid_any t W (by unfold maxLen; omega)
  have qp : (Gl.T (qt t.data.toList)).size ≤ maxLen := by
    rw [T_size]
    have := qt_len t.data.toList
    rw [← Lib.size_eq] at this
    unfold maxLen
    omega
  have HT : Hid (Tryd.Tabs w) := hT
  clear hT
  by_cases hc : (Gl.T (qt t.data.toList)).size ≤ 100 ∧ Sg.valid t = true
  · rw [if_pos hc] at hcq
    have hv := hc.2
    have q1 := fun W hW => Tryd.comp_yes hcq W qp hW
    have hl := comp_len hcq
    have hbd := comp_bd hcq
    have hz : ((Gl.T (qt t.data.toList)).size : Int) ≤ 100 := by have := hc.1; omega
    have wt : wholeB ((rns (Sg.fold t)).map P.fix) t = true := (whole_iff _ _).2 ⟨hv, (Mp_fix _ _).2 rfl⟩
    have wf : wholeB ((rns (Sg.fold t)).map P.fix) (Sg.fold t) = true := by rw [whole_fold]; exact wt
    have hlit : Gl.lit ((rns (Sg.fold t)).map P.fix) = (Sg.fold t, true) := by
      unfold Gl.lit
      rw [all_fix, if_pos rfl, front_fix, ← fold_bytes hv]
    have hfr : (⟨(front ((rns (Sg.fold t)).map P.fix)).toArray⟩ : ByteArray) = Sg.fold t := by rw [front_fix, ← fold_bytes hv]
    have wo : wholeB ((rns (Sg.fold t)).map P.fix) o = (Sg.valid o && decide (Sg.fold o = Sg.fold t)) := by
      rw [Bool.eq_iff_iff, whole_iff, Bool.and_eq_true, decide_eq_true_eq]
      constructor
      · rintro ⟨h1, h2⟩; exact ⟨h1, fold_inj h1 hv ((Mp_fix _ _).1 h2)⟩
      · rintro ⟨h1, h2⟩; exact ⟨h1, (Mp_fix _ _).2 (by rw [h2])⟩
    have qa := fun x W hG hW => Tryd.whole_any _ x t W hG hl (by omega) hW
    have qb := fun x W hG hW => Tryd.whole_any _ x (Sg.fold t) W hG hl (by rw [Sg.fold_size]; omega) hW
    have qo := fun x W hG hW => Tryd.whole_any _ x o W hG hl (by omega) hW
    have qlit := fun x W hG => Tryd.literal_any _ x W hG hl hbd
    have qfr := fun x W hG => Tryd.front_any _ x W hG hl hbd
    have qft := fun W hW => Tryd.fold_any t W (by omega) hW
    have qfo := fun W hW => Tryd.fold_any o W (by omega) hW
    have qvo := fun W => Tryd.valid_any o W (by unfold maxLen; omega)
    rw [wt] at qa
    rw [wf] at qb
    rw [wo] at qo
    rw [hlit] at qlit
    rw [hfr] at qfr
    rw [hv] at qv
    clear wt wf wo hlit hfr hv hbd hl hc hcq qp
    generalize Gl.T (qt t.data.toList) = p at *
    generalize (rns (Sg.fold t)).map P.fix = ps at *
    generalize Sg.fold t = F at *
    generalize Sg.fold o = G at *
    generalize Sg.valid o = V at *
    have heq : (G.toList == F.toList) = decide (G = F) := str_eq G F
    generalize decide (G = F) = Y at *
    cases V with
    | false =>
      go_enter Tryd.func3, Tryd.ntmps3
      go_wp2_with (first
        | (go_at_call 9; refine hsh.mono ?_; clear hsh; rintro e1 w1 ⟨rfl, b1⟩; have t1 := HT.out.below b1)
        | (go_at_call 10; refine (qq _).mono ?_; clear qq; rintro e1 w2 ⟨rfl, rfl⟩)
        | (go_at_call 11; refine (q1 _ t1).mono ?_; clear q1; rintro e1 w3 ⟨x, rfl, g3, t3, b3⟩; have bb3 := Below.then b1 b3)
        | (go_at_call 12; refine (qv _).mono ?_; clear qv; rintro e1 w4 ⟨rfl, b4⟩; have bb4 := Below.then bb3 b4; have t4 := t3.below b4; have g4 := g3.keep b4; clear bb3 t3 g3 b4)
        | (go_at_call 13; refine (qa _ _ g4 t4).mono ?_; clear qa; rintro e1 w5 ⟨rfl, b5⟩; have bb5 := Below.then bb4 b5; have t5 := t4.below b5; have g5 := g4.keep b5; clear bb4 t4 g4 b5)
        | (go_at_call 14; refine (qft _ t5).mono ?_; rintro e1 w6 ⟨rfl, b6⟩; have bb6 := Below.then bb5 b6; have t6 := t5.below b6; have g6 := g5.keep b6; clear bb5 t5 g5 b6)
        | (go_at_call 13; refine (qb _ _ g6 t6).mono ?_; clear qb; rintro e1 w7 ⟨rfl, b7⟩; have bb7 := Below.then bb6 b7; have t7 := t6.below b7; have g7 := g6.keep b7; clear bb6 t6 g6 b7)
        | (go_at_call 13; refine (qo _ _ g7 t7).mono ?_; clear qo; rintro e1 w8 ⟨rfl, b8⟩; have bb8 := Below.then bb7 b8; have t8 := t7.below b8; have g8 := g7.keep b8; clear bb7 t7 g7 b8)
        | (go_at_call 15; refine (qlit _ _ g8).mono ?_; clear qlit; rintro e1 w9 ⟨rfl, b9⟩; have bb9 := Below.then bb8 b9; have t9 := t8.below b9; have g9 := g8.keep b9; clear bb8 t8 g8 b9)
        | (go_at_call 12; refine (qvo _).mono ?_; clear qvo; rintro e1 w10 ⟨rfl, b10⟩; have bb10 := Below.then bb9 b10; have t10 := t9.below b10; have g10 := g9.keep b10; clear bb9 t9 g9 b10)
        | (go_at_call 14; refine (qft _ t10).mono ?_; clear qft; rintro e1 w11 ⟨rfl, b11⟩; have bb11 := Below.then bb10 b11; have t11 := t10.below b11; have g11 := g10.keep b11; clear bb10 t10 g10 b11)
        | (go_at_call 16; refine (qfr _ _ g11).mono ?_; clear qfr; rintro e1 w12 ⟨rfl, b12⟩; have bb12 := Below.then bb11 b12; have t12 := t11.below b12; clear bb11 t11 g11 b12)
        | (go_at_call 14; refine (qfo _ t12).mono ?_; clear qfo; rintro e1 w13 ⟨rfl, b13⟩; have bb13 := Below.then bb12 b13)
        | fail)
      go_ret
      exact ⟨rfl, bb12⟩
    | true =>
      go_enter Tryd.func3, Tryd.ntmps3
      go_wp2_with (first
        | (go_at_call 9; refine hsh.mono ?_; clear hsh; rintro e1 w1 ⟨rfl, b1⟩; have t1 := HT.out.below b1)
        | (go_at_call 10; refine (qq _).mono ?_; clear qq; rintro e1 w2 ⟨rfl, rfl⟩)
        | (go_at_call 11; refine (q1 _ t1).mono ?_; clear q1; rintro e1 w3 ⟨x, rfl, g3, t3, b3⟩; have bb3 := Below.then b1 b3)
        | (go_at_call 12; refine (qv _).mono ?_; clear qv; rintro e1 w4 ⟨rfl, b4⟩; have bb4 := Below.then bb3 b4; have t4 := t3.below b4; have g4 := g3.keep b4; clear bb3 t3 g3 b4)
        | (go_at_call 13; refine (qa _ _ g4 t4).mono ?_; clear qa; rintro e1 w5 ⟨rfl, b5⟩; have bb5 := Below.then bb4 b5; have t5 := t4.below b5; have g5 := g4.keep b5; clear bb4 t4 g4 b5)
        | (go_at_call 14; refine (qft _ t5).mono ?_; rintro e1 w6 ⟨rfl, b6⟩; have bb6 := Below.then bb5 b6; have t6 := t5.below b6; have g6 := g5.keep b6; clear bb5 t5 g5 b6)
        | (go_at_call 13; refine (qb _ _ g6 t6).mono ?_; clear qb; rintro e1 w7 ⟨rfl, b7⟩; have bb7 := Below.then bb6 b7; have t7 := t6.below b7; have g7 := g6.keep b7; clear bb6 t6 g6 b7)
        | (go_at_call 13; refine (qo _ _ g7 t7).mono ?_; clear qo; rintro e1 w8 ⟨rfl, b8⟩; have bb8 := Below.then bb7 b8; have t8 := t7.below b8; have g8 := g7.keep b8; clear bb7 t7 g7 b8)
        | (go_at_call 15; refine (qlit _ _ g8).mono ?_; clear qlit; rintro e1 w9 ⟨rfl, b9⟩; have bb9 := Below.then bb8 b9; have t9 := t8.below b9; have g9 := g8.keep b9; clear bb8 t8 g8 b9)
        | (go_at_call 12; refine (qvo _).mono ?_; clear qvo; rintro e1 w10 ⟨rfl, b10⟩; have bb10 := Below.then bb9 b10; have t10 := t9.below b10; have g10 := g9.keep b10; clear bb9 t9 g9 b10)
        | (go_at_call 14; refine (qft _ t10).mono ?_; clear qft; rintro e1 w11 ⟨rfl, b11⟩; have bb11 := Below.then bb10 b11; have t11 := t10.below b11; have g11 := g10.keep b11; clear bb10 t10 g10 b11)
        | (go_at_call 16; refine (qfr _ _ g11).mono ?_; clear qfr; rintro e1 w12 ⟨rfl, b12⟩; have bb12 := Below.then bb11 b12; have t12 := t11.below b12; clear bb11 t11 g11 b12)
        | (go_at_call 14; refine (qfo _ t12).mono ?_; clear qfo; rintro e1 w13 ⟨rfl, b13⟩; have bb13 := Below.then bb12 b13)
        | fail)
      go_ret
      exact ⟨rfl, bb13⟩
  · rw [if_neg hc] at hcq
    have q1 := fun W hW => Tryd.comp_no hcq W qp hW
    generalize Gl.T (qt t.data.toList) = p at *
    clear hcq qp
    generalize Sg.valid t = V at *
    cases V with
    | false =>
      clear hc
      go_enter Tryd.func3, Tryd.ntmps3
      go_wp2_with (first
        | (go_at_call 9; refine hsh.mono ?_; clear hsh; rintro e1 w1 ⟨rfl, b1⟩; have t1 := HT.out.below b1)
        | (go_at_call 10; refine (qq _).mono ?_; clear qq; rintro e1 w2 ⟨rfl, rfl⟩)
        | (go_at_call 11; refine (q1 _ t1).mono ?_; clear q1; rintro e1 w3 ⟨rfl, t3, b3⟩; have bb3 := Below.then b1 b3)
        | (go_at_call 12; refine (qv _).mono ?_; clear qv; rintro e1 w4 ⟨rfl, b4⟩; have bb4 := Below.then bb3 b4)
        | fail)
      go_ret
      exact ⟨rfl, bb4⟩
    | true =>
      have hz : ¬ (p.size : Int) ≤ 100 := by intro h; exact hc ⟨by omega, rfl⟩
      clear hc
      go_enter Tryd.func3, Tryd.ntmps3
      go_wp2_with (first
        | (go_at_call 9; refine hsh.mono ?_; clear hsh; rintro e1 w1 ⟨rfl, b1⟩; have t1 := HT.out.below b1)
        | (go_at_call 10; refine (qq _).mono ?_; clear qq; rintro e1 w2 ⟨rfl, rfl⟩)
        | (go_at_call 11; refine (q1 _ t1).mono ?_; clear q1; rintro e1 w3 ⟨rfl, t3, b3⟩; have bb3 := Below.then b1 b3)
        | (go_at_call 12; refine (qv _).mono ?_; clear qv; rintro e1 w4 ⟨rfl, b4⟩; have bb4 := Below.then bb3 b4)
        | fail)
      go_ret
      exact ⟨rfl, bb4⟩
end Go.Proofs
