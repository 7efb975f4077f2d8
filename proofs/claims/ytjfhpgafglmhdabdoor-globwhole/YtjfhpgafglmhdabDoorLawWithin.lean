/-
  GlobWithin, walked.
-/
import Derived.Test.YtjfhpgafglmhdabDoorRo
import Derived.Test.YtjfhpgafglmhdabDoorRefEdges2
import Derived.Test.YtjfhpgafglmhdabDoorLawCompiles
namespace Go.Gl
open Go.Sg
theorem fold_pc {t : ByteArray} (hv : valid t = true) : ∀ n, posn (fold t) n < (fold t).size → (fold t).extract (posn (fold t) n) (posn (fold t) n + wd (fold t) (posn (fold t) n)) = T (Lib.encodeRune ((Utf8.decode (fold t) (posn (fold t) n)).1 : Int)) ∧ Ok (Utf8.decode (fold t) (posn (fold t) n)).1 := by
  intro n hp
  rw [posn_fold, fold_size] at hp
  rw [posn_fold, wd_fold t n hp]
  exact small_piece hv n hp
end Go.Gl
namespace Go.Proofs
open Go.RowKit Go.Gl
theorem Tryd.makeW (n : Nat) (hn : n ≤ 140737488355324) (w : World) : ∃ w1, (Instr.makeSlice 68 (.int .i64 ((n : Int) + 1)) (.int .i64 ((n : Int) + 1))).run Tryd.prog w = .ok (.slice (some ⟨w.heap.size, 0, none⟩) (n + 1) (n + 1)) w1 ∧ Below w.heap.size w w1 ∧ w1.heap.size = w.heap.size + 1 ∧ w1.rowIs w.heap.size 4 (n + 1) (fun _ => .bool false) := by
  have hmk := run_make_row' (P := Tryd.prog) 68 4 (.bool false) 1 Tryd.underlying68 Tryd.info_boolR rfl .i64 .i64 (n + 1) (by omega) (by omega)
  exact ⟨_, hmk w, (Below.refl w.heap.size w).alloc (Nat.le_refl _) _, by simp, World.rowIs_made w (.bool false) (n + 1) 4⟩
set_option maxRecDepth 100000 in
set_option maxHeartbeats 4000000 in
theorem Tryd.refWhole_any (l : List P) (x : Nat) (t : ByteArray) (w : World) (h : Tryd.Rg w 0 x l) (hl : l.length ≤ 100) (hok : ∀ r, .fix r ∈ l → Ok r) (hs : t.size ≤ 140737488351232) :
    Calls Tryd.prog 15 #[.pointer (some ⟨x, 0, none⟩), .string t] w fun e w' => e = .returned (.bool (wholeB (norm [] l) t)) ∧ Below w.heap.size w w' := by
  have qv := fun W => Tryd.refValid_any t W (by omega)
  cases hv : Sg.valid t with
  | false =>
    have hn : wholeB (norm [] l) t = false := by unfold wholeB; rw [hv]; rfl
    rw [hn]
    rw [hv] at qv
    clear hn
    go_enter Tryd.func15, Tryd.ntmps15
    go_wp2_with (first | (go_at_call 32; refine (qv _).mono ?_; clear qv; rintro e1 w1 ⟨rfl, hw1⟩; obtain rfl := hw1.symm) | fail)
    go_ret
    exact ⟨rfl, Below.refl _ _⟩
  | true =>
    rw [hv] at qv
    have hfs := Sg.fold_size t
    obtain ⟨w1, hm1, hb1, hs1, hr1⟩ := Tryd.makeW t.size (by omega) w
    obtain ⟨w2, hm2, hb2, hs2, hr2⟩ := Tryd.makeW t.size (by omega) w1
    rw [hs1] at hm2 hr2
    have hr12 := hr1.of_block (hb2.block w.heap.size (by omega))
    have hbb2 := Below.then hb1 hb2
    -- the two rows, written
    have hrA : ((w2.setCell ⟨w.heap.size, 0, none⟩ (.bool true)).setCell ⟨w.heap.size + 1, t.size, none⟩ (.bool true)).rowIs w.heap.size 4 (t.size + 1) (fun i => .bool (i == 0)) :=
      ((hr12.set 0 (.bool true)).of_block (Below.heap_setCell _ _ _ w.heap.size (by show w.heap.size ≠ w.heap.size + 1; omega))).congr fun i _ => by
        by_cases hi : i = 0
        · subst hi; rfl
        · rw [if_neg hi]; simp [hi]
    have hrB : ((w2.setCell ⟨w.heap.size, 0, none⟩ (.bool true)).setCell ⟨w.heap.size + 1, t.size, none⟩ (.bool true)).rowIs (w.heap.size + 1) 4 (t.size + 1) (fun i => .bool (i == t.size)) :=
      ((hr2.of_block (Below.heap_setCell w2 ⟨w.heap.size, 0, none⟩ (.bool true) (w.heap.size + 1) (by show w.heap.size + 1 ≠ w.heap.size; omega))).set t.size (.bool true)).congr fun i _ => by
        by_cases hi : i = t.size
        · subst hi; simp
        · rw [if_neg hi]; simp [hi]
    have hbS : Below w.heap.size w ((w2.setCell ⟨w.heap.size, 0, none⟩ (.bool true)).setCell ⟨w.heap.size + 1, t.size, none⟩ (.bool true)) := (hbb2.setCell (p := ⟨w.heap.size, 0, none⟩) (Nat.le_refl _) _).setCell (p := ⟨w.heap.size + 1, t.size, none⟩) (by show w.heap.size ≤ w.heap.size + 1; omega) _
    have hsS : ((w2.setCell ⟨w.heap.size, 0, none⟩ (.bool true)).setCell ⟨w.heap.size + 1, t.size, none⟩ (.bool true)).heap.size = w.heap.size + 2 := by simp [World.setCell]; omega
    have c1 := hr12.cell (i := 0) (by omega)
    have f1 := hr12.frozen 0
    have hr2' := hr2.of_block (Below.heap_setCell w2 ⟨w.heap.size, 0, none⟩ (.bool true) (w.heap.size + 1) (by show w.heap.size + 1 ≠ w.heap.size; omega))
    have c2 := hr2'.cell (i := t.size) (by omega)
    have f2 := hr2'.frozen t.size
    have qf := Tryd.refFold_any t ((w2.setCell ⟨w.heap.size, 0, none⟩ (.bool true)).setCell ⟨w.heap.size + 1, t.size, none⟩ (.bool true)) (by omega)
    generalize hWS : (w2.setCell ⟨w.heap.size, 0, none⟩ (.bool true)).setCell ⟨w.heap.size + 1, t.size, none⟩ (.bool true) = WS at *
    have qg := qf.mono (R' := fun e W => e = .returned (.string (Sg.fold t)) ∧ Below w.heap.size w W ∧ Calls Tryd.prog 33 #[.pointer (some ⟨x, 0, none⟩), .string (Sg.fold t), .slice (some ⟨w.heap.size, 0, none⟩) (t.size + 1) (t.size + 1), .slice (some ⟨w.heap.size + 1, 0, none⟩) (t.size + 1) (t.size + 1)] W fun e2 W2 => e2 = .returned (.bool (wholeB (norm [] l) t)) ∧ Below W.heap.size W W2) (by
      rintro e W ⟨h1, hbW⟩
      have hbT := hbS.trans (hbW.mono hbS.size)
      have hsW := hbW.size
      obtain ⟨v, hRr⟩ := Tryd.Rr.of (h.keep hbT)
      have hg := Tryd.goes_any l v x (Sg.fold t) (fun i => i == 0) (fun i => i == t.size) w.heap.size (w.heap.size + 1) (t.size + 1) (t.size + 1) W hRr hl hok (by omega) (fold_pc hv) (by omega) (by omega) (by rw [hfs]; exact hrA.of_block (hbW.block _ (by omega))) (by rw [hfs]; exact hrB.of_block (hbW.block _ (by omega)))
      rw [goes_whole l t hv, hfs] at hg
      exact ⟨h1, hbT, hg⟩)
    generalize wholeB (norm [] l) t = WB at *
    generalize Sg.fold t = F at *
    have e1 : (t.size : Int) < (t.size : Int) + 1 := by omega
    have e2 : (0 : Int) < (t.size : Int) + 1 := by omega
    clear hrA hrB hbS hsS hr1 hr2 hr12 hr2' qf hbb2 hb1 hb2 h hok hv
    go_enter Tryd.func15, Tryd.ntmps15
    go_wp2_with (first
      | (go_at_call 32; refine (qv _).mono ?_; clear qv; rintro e1 w9 ⟨rfl, hw9⟩; obtain rfl := hw9.symm)
      | (go_at_call 34; refine qg.mono ?_; clear qg; rintro e3 w3 ⟨rfl, b3, qg3⟩)
      | (go_at_call 33; refine qg3.mono ?_; clear qg3; rintro e4 w4 ⟨rfl, b4⟩)
      | fail)
    go_ret
    exact ⟨rfl, Below.then b3 b4⟩
set_option maxRecDepth 100000 in
set_option maxHeartbeats 4000000 in
theorem Tryd.refWithin_any (l : List P) (x : Nat) (t : ByteArray) (w : World) (h : Tryd.Rg w 0 x l) (hl : l.length ≤ 100) (hok : ∀ r, .fix r ∈ l → Ok r) (hs : t.size ≤ 140737488351232) :
    Calls Tryd.prog 17 #[.pointer (some ⟨x, 0, none⟩), .string t] w fun e w' => e = .returned (.bool (Gl.withinB (norm [] l) t)) ∧ Below w.heap.size w w' := by
  have qv := fun W => Tryd.refValid_any t W (by omega)
  cases hv : Sg.valid t with
  | false =>
    have hn : Gl.withinB (norm [] l) t = false := by unfold Gl.withinB; rw [hv]; rfl
    rw [hn]
    rw [hv] at qv
    clear hn
    go_enter Tryd.func17, Tryd.ntmps17
    go_wp2_with (first | (go_at_call 32; refine (qv _).mono ?_; clear qv; rintro e1 w1 ⟨rfl, hw1⟩; obtain rfl := hw1.symm) | fail)
    go_ret
    exact ⟨rfl, Below.refl _ _⟩
  | true =>
    rw [hv] at qv
    have hfs := Sg.fold_size t
    have qe := Tryd.refEdges_any t w (by omega)
    have qe2 := qe.mono (R' := fun e W => e = .returned (.slice (some ⟨w.heap.size, 0, none⟩) (t.size + 1) (t.size + 1)) ∧ Below w.heap.size w W ∧ Calls Tryd.prog 34 #[.string t] W fun e2 W2 => e2 = .returned (.string (Sg.fold t)) ∧ Below W.heap.size W W2 ∧ Calls Tryd.prog 33 #[.pointer (some ⟨x, 0, none⟩), .string (Sg.fold t), .slice (some ⟨w.heap.size, 0, none⟩) (t.size + 1) (t.size + 1), .slice (some ⟨w.heap.size, 0, none⟩) (t.size + 1) (t.size + 1)] W2 fun e3 W3 => e3 = .returned (.bool (Gl.withinB (norm [] l) t)) ∧ Below W2.heap.size W2 W3) (by
      rintro e W ⟨h1, hbW, hrow⟩
      refine ⟨h1, hbW, (Tryd.refFold_any t W (by omega)).mono ?_⟩
      rintro e2 W2 ⟨h2, hbW2⟩
      have hbT := hbW.trans (hbW2.mono hbW.size)
      have hwl : w.heap.size < W.heap.size := by
        have := hrow.cell (i := 0) (by omega)
        exact World.block_lt_of_cell? _ _ this
      have hsW := hbW2.size
      obtain ⟨v, hRr⟩ := Tryd.Rr.of (h.keep hbT)
      have hrow2 := hrow.of_block (hbW2.block _ hwl)
      have hg := Tryd.goes_any l v x (Sg.fold t) (Sg.edgeN t) (Sg.edgeN t) w.heap.size w.heap.size (t.size + 1) (t.size + 1) W2 hRr hl hok (by omega) (fold_pc hv) (by omega) (by omega) (by rw [hfs]; exact hrow2) (by rw [hfs]; exact hrow2)
      rw [goes_within l t hv (Sg.edgeN t) (fun _ _ => rfl), hfs] at hg
      exact ⟨h2, hbW2, hg⟩)
    generalize Gl.withinB (norm [] l) t = WB at *
    generalize Sg.fold t = F at *
    clear qe h hok hv
    go_enter Tryd.func17, Tryd.ntmps17
    go_wp2_with (first
      | (go_at_call 32; refine (qv _).mono ?_; clear qv; rintro e1 w9 ⟨rfl, hw9⟩; obtain rfl := hw9.symm)
      | (go_at_call 36; refine qe2.mono ?_; clear qe2; rintro e2 w2 ⟨rfl, b2, qf2⟩)
      | (go_at_call 34; refine qf2.mono ?_; clear qf2; rintro e3 w3 ⟨rfl, b3, qg3⟩)
      | (go_at_call 33; refine qg3.mono ?_; clear qg3; rintro e4 w4 ⟨rfl, b4⟩)
      | fail)
    go_ret
    exact ⟨rfl, Below.then (Below.then b2 b3) b4⟩
set_option maxRecDepth 100000 in
set_option maxHeartbeats 4000000 in
theorem Tryd.globWithinWalk (s : ByteArray) (hs : s.size ≤ 140737488351232) (t : ByteArray) (ht : t.size ≤ 140737488351232) (w : World) (hT : Tryd.Tabs w) :
    Calls Tryd.prog 5 #[.string s, .string t] w fun e w' => e = .returned (.bool true) ∧ Below w.heap.size w w' := by
  have hsh := Tryd.shown_any w hT
  have HT : Hid (Tryd.Tabs w) := hT
  clear hT
  cases hr : rawc s with
  | none =>
    have q1 := fun W hW => Tryd.both_no hr W hs hW
    clear hr
    go_enter Tryd.func5, Tryd.ntmps5
    go_wp2_with (first
      | (go_at_call 6; refine hsh.mono ?_; clear hsh; rintro e1 w1 ⟨rfl, b1⟩; have t1 := HT.out.below b1)
      | (go_at_call 7; refine (q1 _ t1).mono ?_; clear q1; rintro e1 w2 ⟨rfl, t2, b2⟩; have bb2 := Below.then b1 b2)
      | fail)
    go_ret
    exact ⟨rfl, bb2⟩
  | some l =>
    have q1 := fun W hW => Tryd.both_yes hr W hs hW
    have hc : comp s = some (norm [] l) := by rw [comp_rawc, hr]; rfl
    have hl' := comp_len hc
    have hok : ∀ r, .fix r ∈ l → Ok r := by
      unfold rawc at hr
      split at hr
      · rename_i h; exact raw_ok h.2 hr
      · cases hr
    have qw := fun x W hG hW => Tryd.whole_any (norm [] l) x t W hG hl' (by omega) hW
    have qi := fun x W hG hW => Tryd.within_any' (norm [] l) x t W hG hl' (by omega) hW
    have rw' := fun x W hG hl => Tryd.refWhole_any l x t W hG hl hok ht
    have ri := fun x W hG hl => Tryd.refWithin_any l x t W hG hl hok ht
    generalize wholeB (norm [] l) t = WB at *
    generalize Gl.withinB (norm [] l) t = IB at *
    clear hc hl' hok hr
    go_enter Tryd.func5, Tryd.ntmps5
    go_wp2_with (first
      | (go_at_call 6; refine hsh.mono ?_; clear hsh; rintro e1 w1 ⟨rfl, b1⟩; have t1 := HT.out.below b1)
      | (go_at_call 7; refine (q1 _ t1).mono ?_; clear q1; rintro e1 w2 ⟨x, y, rfl, g2, r2, hl, t2, b2⟩; have bb2 := Below.then b1 b2)
      | (go_at_call 16; refine (qi _ _ g2 t2).mono ?_; clear qi; rintro e1 w3 ⟨rfl, b3⟩; have bb3 := Below.then bb2 b3; have g3 := g2.keep b3; have r3 := r2.keep b3; have t3 := t2.below b3; clear bb2 g2 r2 t2 b3)
      | (go_at_call 17; refine (ri _ _ r3 hl).mono ?_; clear ri; rintro e1 w4 ⟨rfl, b4⟩; have bb4 := Below.then bb3 b4; have g4 := g3.keep b4; have r4 := r3.keep b4; have t4 := t3.below b4; clear bb3 g3 r3 t3 b4)
      | (go_at_call 14; refine (qw _ _ g4 t4).mono ?_; clear qw; rintro e1 w5 ⟨rfl, b5⟩; have bb5 := Below.then bb4 b5; have r5 := r4.keep b5; clear bb4 g4 r4 t4 b5)
      | (go_at_call 15; refine (rw' _ _ r5 hl).mono ?_; clear rw'; rintro e1 w6 ⟨rfl, b6⟩; have bb6 := Below.then bb5 b6; clear bb5 r5 b6)
      | fail)
    go_ret
    exact ⟨rfl, bb6⟩
end Go.Proofs
