/-
  GlobFolds, walked.
-/
import Derived.Test.YtjfhpgafglmhdaaDoorGh
import Derived.Test.YtjfhpgafglmhdaaDoorGn
namespace Go.Gl
open Go.Sg
theorem comp_fold (p : ByteArray) : comp (fold p) = comp p := by
  unfold comp
  rw [fold_size, valid_fold, fold_fold]
theorem whole_fold (ps : List P) (t : ByteArray) : wholeB ps (fold t) = wholeB ps t := by
  unfold wholeB
  rw [valid_fold, fold_fold]
theorem wiFrom_fold (ps : List P) (t : ByteArray) : ∀ n pos f, wiFrom ps (fold t) (fold t) n pos f = wiFrom ps t (fold t) n pos f := by
  intro n
  induction n with
  | zero => intro pos f; rfl
  | succ n ih =>
    intro pos f
    rw [wiFrom, wiFrom]
    by_cases h : pos < (fold t).size
    · rw [if_pos h, if_pos h, edge_fold t pos (by rw [fold_size] at h; omega), ih, ih]
    · rw [if_neg h, if_neg h]
theorem within_fold (ps : List P) (t : ByteArray) : Gl.withinB ps (fold t) = Gl.withinB ps t := by
  unfold Gl.withinB
  rw [valid_fold, fold_fold, wiFrom_fold]
theorem front_prefix : ∀ (ps : List P) (rs : List Nat), Mp ps rs → ∃ r, rs.flatMap (fun r : Nat => Lib.encodeRune (r : Int)) = front ps ++ r := by
  intro ps
  induction ps with
  | nil => intro rs _; exact ⟨_, rfl⟩
  | cons p ps ih =>
    intro rs h
    cases p with
    | fix r =>
      obtain ⟨a, b, rfl, ha, hb⟩ := h
      have ha' : a = [r] := ha
      subst ha'
      obtain ⟨q, hq⟩ := ih b hb
      exact ⟨q, by rw [front, List.flatMap_append, hq]; simp⟩
    | one => exact ⟨_, rfl⟩
    | any => exact ⟨_, rfl⟩
theorem front_of {ps : List P} {t : ByteArray} (h : wholeB ps t = true) : (⟨(front ps).toArray⟩ : ByteArray).size ≤ (fold t).size ∧ (fold t).extract 0 (⟨(front ps).toArray⟩ : ByteArray).size = ⟨(front ps).toArray⟩ := by
  obtain ⟨hv, hm⟩ := (whole_iff ps t).1 h
  obtain ⟨r, hr⟩ := front_prefix ps _ hm
  rw [← fold_bytes hv] at hr
  have hl : (fold t).size = (front ps).length + r.length := by rw [Lib.size_eq, hr, List.length_append]
  have e : (⟨(front ps).toArray⟩ : ByteArray).size = (front ps).length := by simp [ByteArray.size]
  refine ⟨by omega, ?_⟩
  apply ba_ext
  rw [e]
  simp only [ByteArray.data_extract, Array.toList_extract]
  simp
  rw [hr, List.take_left]
end Go.Gl
namespace Go.Proofs
open Go.RowKit Go.Gl
set_option maxHeartbeats 1000000 in
theorem Tryd.compiled_yes {s : ByteArray} {ps : List P} (hc : comp s = some ps) (w : World) (hs : s.size ≤ maxLen) (hT : Tryd.Tabs w) :
    Calls Tryd.prog 17 #[.string s] w fun e w' => ∃ x, e = .returned (.tuple #[.pointer (some ⟨x, 0, none⟩), .bool true]) ∧ Tryd.Gb w' x ps ∧ Tryd.Tabs w' ∧ Below w.heap.size w w' := by
  have h := Tryd.comp_yes hc w hs hT
  clear hT
  go_enter Tryd.func17, Tryd.ntmps17
  go_wp2_with (first | (go_at_call 11; refine h.mono ?_; clear h; rintro e1 w1 ⟨x, rfl, g1, t1, b1⟩) | fail)
  go_ret2
  exact ⟨x, rfl, g1, t1, b1⟩
set_option maxHeartbeats 1000000 in
theorem Tryd.compiled_no {s : ByteArray} (hc : comp s = none) (w : World) (hs : s.size ≤ maxLen) (hT : Tryd.Tabs w) :
    Calls Tryd.prog 17 #[.string s] w fun e w' => e = .returned (.tuple #[.pointer none, .bool true]) ∧ Tryd.Tabs w' ∧ Below w.heap.size w w' := by
  have h := Tryd.comp_no hc w hs hT
  clear hT
  go_enter Tryd.func17, Tryd.ntmps17
  go_wp2_with (first | (go_at_call 11; refine h.mono ?_; clear h; rintro e1 w1 ⟨rfl, t1, b1⟩) | fail)
  go_ret2
  exact ⟨rfl, t1, b1⟩
set_option maxRecDepth 100000 in
set_option maxHeartbeats 4000000 in
theorem Tryd.globFoldsWalk (p : ByteArray) (hp : p.size ≤ 140737488351232) (t : ByteArray) (hs : t.size ≤ 140737488351232) (w : World) (hT : Tryd.Tabs w) :
    Calls Tryd.prog 7 #[.string p, .string t] w fun e w' => e = .returned (.bool true) ∧ Below w.heap.size w w' := by
  have hsh := Tryd.shown_any w hT
  have qf := fun W hW => Tryd.fold_any p W (by omega) hW
  have hpm : p.size ≤ maxLen := by unfold maxLen; omega
  have hfm : (Sg.fold p).size ≤ maxLen := by rw [Sg.fold_size]; exact hpm
  have hcf := comp_fold p
  have HT : Hid (Tryd.Tabs w) := hT
  clear hT
  cases hc : comp p with
  | none =>
    rw [hc] at hcf
    have q1 := fun W hW => Tryd.compiled_no hc W hpm hW
    have q2 := fun W hW => Tryd.compiled_no hcf W hfm hW
    generalize Sg.fold p = F at *
    clear hc hcf hpm hfm
    go_enter Tryd.func7, Tryd.ntmps7
    go_wp2_with (first
      | (go_at_call 9; refine hsh.mono ?_; clear hsh; rintro e1 w1 ⟨rfl, b1⟩; have t1 := HT.out.below b1)
      | (go_at_call 17; refine (q1 _ t1).mono ?_; clear q1; rintro e1 w2 ⟨rfl, t2, b2⟩; have bb2 := Below.then b1 b2)
      | (go_at_call 14; refine (qf _ t2).mono ?_; clear qf; rintro e1 w3 ⟨rfl, b3⟩; have bb3 := Below.then bb2 b3; have t3 := t2.below b3)
      | (go_at_call 17; refine (q2 _ t3).mono ?_; clear q2; rintro e1 w4 ⟨rfl, t4, b4⟩; have bb4 := Below.then bb3 b4)
      | fail)
    go_ret
    exact ⟨rfl, bb4⟩
  | some ps =>
    rw [hc] at hcf
    have hl := comp_len hc
    have hbd := comp_bd hc
    have q1 := fun W hW => Tryd.compiled_yes hc W hpm hW
    have q2 := fun W hW => Tryd.compiled_yes hcf W hfm hW
    have qt := fun W hW => Tryd.fold_any t W (by omega) hW
    have qv := fun W => Tryd.valid_any t W (by unfold maxLen; omega)
    have qa := fun x W hG hW => Tryd.whole_any ps x t W hG hl (by omega) hW
    have qb := fun x W hG hW => Tryd.whole_any ps x (Sg.fold t) W hG hl (by rw [Sg.fold_size]; omega) hW
    have qc := fun x W hG hW => Tryd.within_any' ps x t W hG hl (by omega) hW
    have qd := fun x W hG hW => Tryd.within_any' ps x (Sg.fold t) W hG hl (by rw [Sg.fold_size]; omega) hW
    have qr := fun x W hG => Tryd.front_any ps x W hG hl hbd
    rw [whole_fold] at qb
    rw [within_fold] at qd
    have hfr := @front_of ps t
    have hno : Sg.valid t = false → wholeB ps t = false ∧ Gl.withinB ps t = false := fun h => by
      unfold wholeB Gl.withinB
      rw [h]
      exact ⟨rfl, rfl⟩
    generalize Sg.fold p = Fp at *
    generalize Sg.fold t = F at *
    generalize Sg.valid t = V at *
    generalize wholeB ps t = A at *
    generalize Gl.withinB ps t = C at *
    generalize (⟨(front ps).toArray⟩ : ByteArray) = FR at *
    clear hc hcf hpm hfm hbd
    have W : (V = false ∧ A = false ∧ C = false) ∨ (V = true ∧ A = true ∧ FR.size ≤ F.size ∧ F.extract 0 FR.size = FR) ∨ (V = true ∧ A = false) := by
      cases V with
      | false => exact .inl ⟨rfl, hno rfl⟩
      | true =>
        cases A with
        | true => exact .inr (.inl ⟨rfl, rfl, hfr rfl⟩)
        | false => exact .inr (.inr ⟨rfl, rfl⟩)
    clear hno hfr
    have hsz : (FR.size : Int) ≤ (F.size : Int) ∨ ¬ (FR.size : Int) ≤ (F.size : Int) := Classical.em _
    rcases W with ⟨rfl, rfl, rfl⟩ | ⟨rfl, rfl, hz, hx⟩ | ⟨rfl, rfl⟩
    · rcases hsz with hsz | hsz
      · go_enter Tryd.func7, Tryd.ntmps7
        go_wp2_with (first
          | (go_at_call 9; refine hsh.mono ?_; clear hsh; rintro e1 w1 ⟨rfl, b1⟩; have t1 := HT.out.below b1)
          | (go_at_call 17; refine (q1 _ t1).mono ?_; clear q1; rintro e1 w2 ⟨x, rfl, g2, t2, b2⟩; have bb2 := Below.then b1 b2)
          | (go_at_call 14; refine (qf _ t2).mono ?_; clear qf; rintro e1 w3 ⟨rfl, b3⟩; have bb3 := Below.then bb2 b3; have t3 := t2.below b3; have g3 := g2.keep b3; clear bb2 g2 t2 b3)
          | (go_at_call 17; refine (q2 _ t3).mono ?_; clear q2; rintro e1 w4 ⟨y, rfl, k4, t4, b4⟩; have bb4 := Below.then bb3 b4; have g4 := g3.keep b4; clear bb3 g3 b4 t3)
          | (go_at_call 13; refine (qa _ _ g4 t4).mono ?_; clear qa; rintro e1 w5 ⟨rfl, b5⟩; have bb5 := Below.then bb4 b5; have t5 := t4.below b5; have g5 := g4.keep b5; have k5 := k4.keep b5; clear bb4 g4 k4 t4 b5)
          | (go_at_call 14; refine (qt _ t5).mono ?_; rintro e1 w6 ⟨rfl, b6⟩; have bb6 := Below.then bb5 b6; have t6 := t5.below b6; have g6 := g5.keep b6; have k6 := k5.keep b6; clear bb5 g5 k5 t5 b6)
          | (go_at_call 13; refine (qb _ _ k6 t6).mono ?_; clear qb; rintro e1 w7 ⟨rfl, b7⟩; have bb7 := Below.then bb6 b7; have t7 := t6.below b7; have g7 := g6.keep b7; have k7 := k6.keep b7; clear bb6 g6 k6 t6 b7)
          | (go_at_call 20; refine (qc _ _ g7 t7).mono ?_; clear qc; rintro e1 w8 ⟨rfl, b8⟩; have bb8 := Below.then bb7 b8; have t8 := t7.below b8; have g8 := g7.keep b8; have k8 := k7.keep b8; clear bb7 g7 k7 t7 b8)
          | (go_at_call 14; refine (qt _ t8).mono ?_; rintro e1 w9 ⟨rfl, b9⟩; have bb9 := Below.then bb8 b9; have t9 := t8.below b9; have g9 := g8.keep b9; have k9 := k8.keep b9; clear bb8 g8 k8 t8 b9)
          | (go_at_call 20; refine (qd _ _ k9 t9).mono ?_; clear qd; rintro e1 w10 ⟨rfl, b10⟩; have bb10 := Below.then bb9 b10; have t10 := t9.below b10; have g10 := g9.keep b10; clear bb9 g9 k9 t9 b10)
          | (go_at_call 12; refine (qv _).mono ?_; clear qv; rintro e1 w11 ⟨rfl, b11⟩; have bb11 := Below.then bb10 b11; have t11 := t10.below b11; have g11 := g10.keep b11; clear bb10 g10 t10 b11)
          | (go_at_call 14; refine (qt _ t11).mono ?_; clear qt; rintro e1 w12 ⟨rfl, b12⟩; have bb12 := Below.then bb11 b12; have g12 := g11.keep b12; clear bb11 g11 t11 b12)
          | (go_at_call 16; refine (qr _ _ g12).mono ?_; clear qr; rintro e1 w13 ⟨rfl, b13⟩; have bb13 := Below.then bb12 b13; clear bb12 g12 b13)
          | fail)
        all_goals
          go_ret
          exact ⟨rfl, bb13⟩
      · go_enter Tryd.func7, Tryd.ntmps7
        go_wp2_with (first
          | (go_at_call 9; refine hsh.mono ?_; clear hsh; rintro e1 w1 ⟨rfl, b1⟩; have t1 := HT.out.below b1)
          | (go_at_call 17; refine (q1 _ t1).mono ?_; clear q1; rintro e1 w2 ⟨x, rfl, g2, t2, b2⟩; have bb2 := Below.then b1 b2)
          | (go_at_call 14; refine (qf _ t2).mono ?_; clear qf; rintro e1 w3 ⟨rfl, b3⟩; have bb3 := Below.then bb2 b3; have t3 := t2.below b3; have g3 := g2.keep b3; clear bb2 g2 t2 b3)
          | (go_at_call 17; refine (q2 _ t3).mono ?_; clear q2; rintro e1 w4 ⟨y, rfl, k4, t4, b4⟩; have bb4 := Below.then bb3 b4; have g4 := g3.keep b4; clear bb3 g3 b4 t3)
          | (go_at_call 13; refine (qa _ _ g4 t4).mono ?_; clear qa; rintro e1 w5 ⟨rfl, b5⟩; have bb5 := Below.then bb4 b5; have t5 := t4.below b5; have g5 := g4.keep b5; have k5 := k4.keep b5; clear bb4 g4 k4 t4 b5)
          | (go_at_call 14; refine (qt _ t5).mono ?_; rintro e1 w6 ⟨rfl, b6⟩; have bb6 := Below.then bb5 b6; have t6 := t5.below b6; have g6 := g5.keep b6; have k6 := k5.keep b6; clear bb5 g5 k5 t5 b6)
          | (go_at_call 13; refine (qb _ _ k6 t6).mono ?_; clear qb; rintro e1 w7 ⟨rfl, b7⟩; have bb7 := Below.then bb6 b7; have t7 := t6.below b7; have g7 := g6.keep b7; have k7 := k6.keep b7; clear bb6 g6 k6 t6 b7)
          | (go_at_call 20; refine (qc _ _ g7 t7).mono ?_; clear qc; rintro e1 w8 ⟨rfl, b8⟩; have bb8 := Below.then bb7 b8; have t8 := t7.below b8; have g8 := g7.keep b8; have k8 := k7.keep b8; clear bb7 g7 k7 t7 b8)
          | (go_at_call 14; refine (qt _ t8).mono ?_; rintro e1 w9 ⟨rfl, b9⟩; have bb9 := Below.then bb8 b9; have t9 := t8.below b9; have g9 := g8.keep b9; have k9 := k8.keep b9; clear bb8 g8 k8 t8 b9)
          | (go_at_call 20; refine (qd _ _ k9 t9).mono ?_; clear qd; rintro e1 w10 ⟨rfl, b10⟩; have bb10 := Below.then bb9 b10; have t10 := t9.below b10; have g10 := g9.keep b10; clear bb9 g9 k9 t9 b10)
          | (go_at_call 12; refine (qv _).mono ?_; clear qv; rintro e1 w11 ⟨rfl, b11⟩; have bb11 := Below.then bb10 b11; have t11 := t10.below b11; have g11 := g10.keep b11; clear bb10 g10 t10 b11)
          | (go_at_call 14; refine (qt _ t11).mono ?_; clear qt; rintro e1 w12 ⟨rfl, b12⟩; have bb12 := Below.then bb11 b12; have g12 := g11.keep b12; clear bb11 g11 t11 b12)
          | (go_at_call 16; refine (qr _ _ g12).mono ?_; clear qr; rintro e1 w13 ⟨rfl, b13⟩; have bb13 := Below.then bb12 b13; clear bb12 g12 b13)
          | fail)
        all_goals
          go_ret
          exact ⟨rfl, bb13⟩
    · have hsz' : (FR.size : Int) ≤ (F.size : Int) := by omega
      clear hsz hz
      go_enter Tryd.func7, Tryd.ntmps7
      go_wp2_with (first
        | (go_at_call 9; refine hsh.mono ?_; clear hsh; rintro e1 w1 ⟨rfl, b1⟩; have t1 := HT.out.below b1)
        | (go_at_call 17; refine (q1 _ t1).mono ?_; clear q1; rintro e1 w2 ⟨x, rfl, g2, t2, b2⟩; have bb2 := Below.then b1 b2)
        | (go_at_call 14; refine (qf _ t2).mono ?_; clear qf; rintro e1 w3 ⟨rfl, b3⟩; have bb3 := Below.then bb2 b3; have t3 := t2.below b3; have g3 := g2.keep b3; clear bb2 g2 t2 b3)
        | (go_at_call 17; refine (q2 _ t3).mono ?_; clear q2; rintro e1 w4 ⟨y, rfl, k4, t4, b4⟩; have bb4 := Below.then bb3 b4; have g4 := g3.keep b4; clear bb3 g3 b4 t3)
        | (go_at_call 13; refine (qa _ _ g4 t4).mono ?_; clear qa; rintro e1 w5 ⟨rfl, b5⟩; have bb5 := Below.then bb4 b5; have t5 := t4.below b5; have g5 := g4.keep b5; have k5 := k4.keep b5; clear bb4 g4 k4 t4 b5)
        | (go_at_call 14; refine (qt _ t5).mono ?_; rintro e1 w6 ⟨rfl, b6⟩; have bb6 := Below.then bb5 b6; have t6 := t5.below b6; have g6 := g5.keep b6; have k6 := k5.keep b6; clear bb5 g5 k5 t5 b6)
        | (go_at_call 13; refine (qb _ _ k6 t6).mono ?_; clear qb; rintro e1 w7 ⟨rfl, b7⟩; have bb7 := Below.then bb6 b7; have t7 := t6.below b7; have g7 := g6.keep b7; have k7 := k6.keep b7; clear bb6 g6 k6 t6 b7)
        | (go_at_call 20; refine (qc _ _ g7 t7).mono ?_; clear qc; rintro e1 w8 ⟨rfl, b8⟩; have bb8 := Below.then bb7 b8; have t8 := t7.below b8; have g8 := g7.keep b8; have k8 := k7.keep b8; clear bb7 g7 k7 t7 b8)
        | (go_at_call 14; refine (qt _ t8).mono ?_; rintro e1 w9 ⟨rfl, b9⟩; have bb9 := Below.then bb8 b9; have t9 := t8.below b9; have g9 := g8.keep b9; have k9 := k8.keep b9; clear bb8 g8 k8 t8 b9)
        | (go_at_call 20; refine (qd _ _ k9 t9).mono ?_; clear qd; rintro e1 w10 ⟨rfl, b10⟩; have bb10 := Below.then bb9 b10; have t10 := t9.below b10; have g10 := g9.keep b10; clear bb9 g9 k9 t9 b10)
        | (go_at_call 12; refine (qv _).mono ?_; clear qv; rintro e1 w11 ⟨rfl, b11⟩; have bb11 := Below.then bb10 b11; have t11 := t10.below b11; have g11 := g10.keep b11; clear bb10 g10 t10 b11)
        | (go_at_call 14; refine (qt _ t11).mono ?_; clear qt; rintro e1 w12 ⟨rfl, b12⟩; have bb12 := Below.then bb11 b12; have g12 := g11.keep b12; clear bb11 g11 t11 b12)
        | (go_at_call 16; refine (qr _ _ g12).mono ?_; clear qr; rintro e1 w13 ⟨rfl, b13⟩; have bb13 := Below.then bb12 b13; clear bb12 g12 b13)
        | fail)
      all_goals
        go_ret
        exact ⟨rfl, bb13⟩
    · rcases hsz with hsz | hsz
      · go_enter Tryd.func7, Tryd.ntmps7
        go_wp2_with (first
          | (go_at_call 9; refine hsh.mono ?_; clear hsh; rintro e1 w1 ⟨rfl, b1⟩; have t1 := HT.out.below b1)
          | (go_at_call 17; refine (q1 _ t1).mono ?_; clear q1; rintro e1 w2 ⟨x, rfl, g2, t2, b2⟩; have bb2 := Below.then b1 b2)
          | (go_at_call 14; refine (qf _ t2).mono ?_; clear qf; rintro e1 w3 ⟨rfl, b3⟩; have bb3 := Below.then bb2 b3; have t3 := t2.below b3; have g3 := g2.keep b3; clear bb2 g2 t2 b3)
          | (go_at_call 17; refine (q2 _ t3).mono ?_; clear q2; rintro e1 w4 ⟨y, rfl, k4, t4, b4⟩; have bb4 := Below.then bb3 b4; have g4 := g3.keep b4; clear bb3 g3 b4 t3)
          | (go_at_call 13; refine (qa _ _ g4 t4).mono ?_; clear qa; rintro e1 w5 ⟨rfl, b5⟩; have bb5 := Below.then bb4 b5; have t5 := t4.below b5; have g5 := g4.keep b5; have k5 := k4.keep b5; clear bb4 g4 k4 t4 b5)
          | (go_at_call 14; refine (qt _ t5).mono ?_; rintro e1 w6 ⟨rfl, b6⟩; have bb6 := Below.then bb5 b6; have t6 := t5.below b6; have g6 := g5.keep b6; have k6 := k5.keep b6; clear bb5 g5 k5 t5 b6)
          | (go_at_call 13; refine (qb _ _ k6 t6).mono ?_; clear qb; rintro e1 w7 ⟨rfl, b7⟩; have bb7 := Below.then bb6 b7; have t7 := t6.below b7; have g7 := g6.keep b7; have k7 := k6.keep b7; clear bb6 g6 k6 t6 b7)
          | (go_at_call 20; refine (qc _ _ g7 t7).mono ?_; clear qc; rintro e1 w8 ⟨rfl, b8⟩; have bb8 := Below.then bb7 b8; have t8 := t7.below b8; have g8 := g7.keep b8; have k8 := k7.keep b8; clear bb7 g7 k7 t7 b8)
          | (go_at_call 14; refine (qt _ t8).mono ?_; rintro e1 w9 ⟨rfl, b9⟩; have bb9 := Below.then bb8 b9; have t9 := t8.below b9; have g9 := g8.keep b9; have k9 := k8.keep b9; clear bb8 g8 k8 t8 b9)
          | (go_at_call 20; refine (qd _ _ k9 t9).mono ?_; clear qd; rintro e1 w10 ⟨rfl, b10⟩; have bb10 := Below.then bb9 b10; have t10 := t9.below b10; have g10 := g9.keep b10; clear bb9 g9 k9 t9 b10)
          | (go_at_call 12; refine (qv _).mono ?_; clear qv; rintro e1 w11 ⟨rfl, b11⟩; have bb11 := Below.then bb10 b11; have t11 := t10.below b11; have g11 := g10.keep b11; clear bb10 g10 t10 b11)
          | (go_at_call 14; refine (qt _ t11).mono ?_; clear qt; rintro e1 w12 ⟨rfl, b12⟩; have bb12 := Below.then bb11 b12; have g12 := g11.keep b12; clear bb11 g11 t11 b12)
          | (go_at_call 16; refine (qr _ _ g12).mono ?_; clear qr; rintro e1 w13 ⟨rfl, b13⟩; have bb13 := Below.then bb12 b13; clear bb12 g12 b13)
          | fail)
        all_goals
          go_ret
          exact ⟨rfl, bb13⟩
      · go_enter Tryd.func7, Tryd.ntmps7
        go_wp2_with (first
          | (go_at_call 9; refine hsh.mono ?_; clear hsh; rintro e1 w1 ⟨rfl, b1⟩; have t1 := HT.out.below b1)
          | (go_at_call 17; refine (q1 _ t1).mono ?_; clear q1; rintro e1 w2 ⟨x, rfl, g2, t2, b2⟩; have bb2 := Below.then b1 b2)
          | (go_at_call 14; refine (qf _ t2).mono ?_; clear qf; rintro e1 w3 ⟨rfl, b3⟩; have bb3 := Below.then bb2 b3; have t3 := t2.below b3; have g3 := g2.keep b3; clear bb2 g2 t2 b3)
          | (go_at_call 17; refine (q2 _ t3).mono ?_; clear q2; rintro e1 w4 ⟨y, rfl, k4, t4, b4⟩; have bb4 := Below.then bb3 b4; have g4 := g3.keep b4; clear bb3 g3 b4 t3)
          | (go_at_call 13; refine (qa _ _ g4 t4).mono ?_; clear qa; rintro e1 w5 ⟨rfl, b5⟩; have bb5 := Below.then bb4 b5; have t5 := t4.below b5; have g5 := g4.keep b5; have k5 := k4.keep b5; clear bb4 g4 k4 t4 b5)
          | (go_at_call 14; refine (qt _ t5).mono ?_; rintro e1 w6 ⟨rfl, b6⟩; have bb6 := Below.then bb5 b6; have t6 := t5.below b6; have g6 := g5.keep b6; have k6 := k5.keep b6; clear bb5 g5 k5 t5 b6)
          | (go_at_call 13; refine (qb _ _ k6 t6).mono ?_; clear qb; rintro e1 w7 ⟨rfl, b7⟩; have bb7 := Below.then bb6 b7; have t7 := t6.below b7; have g7 := g6.keep b7; have k7 := k6.keep b7; clear bb6 g6 k6 t6 b7)
          | (go_at_call 20; refine (qc _ _ g7 t7).mono ?_; clear qc; rintro e1 w8 ⟨rfl, b8⟩; have bb8 := Below.then bb7 b8; have t8 := t7.below b8; have g8 := g7.keep b8; have k8 := k7.keep b8; clear bb7 g7 k7 t7 b8)
          | (go_at_call 14; refine (qt _ t8).mono ?_; rintro e1 w9 ⟨rfl, b9⟩; have bb9 := Below.then bb8 b9; have t9 := t8.below b9; have g9 := g8.keep b9; have k9 := k8.keep b9; clear bb8 g8 k8 t8 b9)
          | (go_at_call 20; refine (qd _ _ k9 t9).mono ?_; clear qd; rintro e1 w10 ⟨rfl, b10⟩; have bb10 := Below.then bb9 b10; have t10 := t9.below b10; have g10 := g9.keep b10; clear bb9 g9 k9 t9 b10)
          | (go_at_call 12; refine (qv _).mono ?_; clear qv; rintro e1 w11 ⟨rfl, b11⟩; have bb11 := Below.then bb10 b11; have t11 := t10.below b11; have g11 := g10.keep b11; clear bb10 g10 t10 b11)
          | (go_at_call 14; refine (qt _ t11).mono ?_; clear qt; rintro e1 w12 ⟨rfl, b12⟩; have bb12 := Below.then bb11 b12; have g12 := g11.keep b12; clear bb11 g11 t11 b12)
          | (go_at_call 16; refine (qr _ _ g12).mono ?_; clear qr; rintro e1 w13 ⟨rfl, b13⟩; have bb13 := Below.then bb12 b13; clear bb12 g12 b13)
          | fail)
        all_goals
          go_ret
          exact ⟨rfl, bb13⟩
end Go.Proofs
