/-
  GlobCompiles, walked.
-/
import Derived.Test.YtjfhpgafglmhdabDoorRv
import Derived.Test.YtjfhpgafglmhdabDoorRy
import Derived.Test.YtjfhpgafglmhdabDoorGh
namespace Go.Gl
open Go.Sg
theorem lit_norm (l : List P) : Go.Proofs.Gl.lit (norm [] l) = (if l.all isFix = true then T (front l) else ⟨#[]⟩, l.all isFix) := by
  unfold Go.Proofs.Gl.lit
  obtain ⟨h1, h2⟩ := norm_front l []
  rw [List.nil_append] at h1 h2
  rw [h1, h2]
  cases l.all isFix <;> rfl
theorem front_normT (l : List P) : (⟨(front (norm [] l)).toArray⟩ : ByteArray) = T (front l) := by
  have := (norm_front l []).1
  rw [List.nil_append] at this
  rw [this]; rfl
theorem str_normT (l : List P) : (⟨(strOf (norm [] l)).toArray⟩ : ByteArray) = T (rs false l) := by rw [str_norm]; rfl
end Go.Gl
namespace Go.Proofs
open Go.RowKit Go.Gl
set_option maxHeartbeats 2000000 in
theorem Tryd.both_no {s : ByteArray} (hr : rawc s = none) (w : World) (hs : s.size ≤ 140737488351232) (hT : Tryd.Tabs w) :
    Calls Tryd.prog 7 #[.string s] w fun e w' => e = .returned (.tuple #[.pointer none, .pointer none, .bool true]) ∧ Tryd.Tabs w' ∧ Below w.heap.size w w' := by
  have hc : comp s = none := by rw [comp_rawc, hr]; rfl
  have q1 := Tryd.comp_no hc w (by unfold maxLen; omega) hT
  have q2 := fun W => Tryd.refCompile_any s W hs
  rw [hr] at q2
  unfold Tryd.RefOk at q2
  simp only [] at q2
  clear hT hc
  go_enter Tryd.func7, Tryd.ntmps7
  go_wp2_with (first
    | (go_at_call 18; refine q1.mono ?_; clear q1; rintro e1 w1 ⟨rfl, t1, b1⟩)
    | (go_at_call 19; refine (q2 _).mono ?_; clear q2; rintro e2 w2 ⟨rfl, b2⟩)
    | fail)
  go_ret3
  exact ⟨rfl, t1.below b2, Below.then b1 b2⟩
set_option maxHeartbeats 2000000 in
theorem Tryd.both_yes {s : ByteArray} {l : List P} (hr : rawc s = some l) (w : World) (hs : s.size ≤ 140737488351232) (hT : Tryd.Tabs w) :
    Calls Tryd.prog 7 #[.string s] w fun e w' => ∃ x y, e = .returned (.tuple #[.pointer (some ⟨x, 0, none⟩), .pointer (some ⟨y, 0, none⟩), .bool true]) ∧ Tryd.Gb w' x (norm [] l) ∧ Tryd.Rg w' 0 y l ∧ l.length ≤ 100 ∧ Tryd.Tabs w' ∧ Below w.heap.size w w' := by
  have hc : comp s = some (norm [] l) := by rw [comp_rawc, hr]; rfl
  have q1 := Tryd.comp_yes hc w (by unfold maxLen; omega) hT
  have q2 := fun W => Tryd.refCompile_any s W hs
  rw [hr] at q2
  unfold Tryd.RefOk at q2
  simp only [] at q2
  clear hT hc
  go_enter Tryd.func7, Tryd.ntmps7
  go_wp2_with (first
    | (go_at_call 18; refine q1.mono ?_; clear q1; rintro e1 w1 ⟨x, rfl, g1, t1, b1⟩)
    | (go_at_call 19; refine (q2 _).mono ?_; clear q2; rintro e2 w2 ⟨⟨y, rfl, r2, hl⟩, b2⟩; have g2 := g1.keep b2)
    | fail)
  go_ret3
  exact ⟨x, y, rfl, g2, r2, hl, t1.below b2, Below.then b1 b2⟩
set_option maxRecDepth 100000 in
set_option maxHeartbeats 4000000 in
theorem Tryd.globCompilesWalk (s : ByteArray) (hs : s.size ≤ 140737488351232) (w : World) (hT : Tryd.Tabs w) :
    Calls Tryd.prog 3 #[.string s] w fun e w' => e = .returned (.bool true) ∧ Below w.heap.size w w' := by
  have hsh := Tryd.shown_any w hT
  have HT : Hid (Tryd.Tabs w) := hT
  clear hT
  cases hr : rawc s with
  | none =>
    have q1 := fun W hW => Tryd.both_no hr W hs hW
    clear hr
    go_enter Tryd.func3, Tryd.ntmps3
    go_wp2_with (first
      | (go_at_call 6; refine hsh.mono ?_; clear hsh; rintro e1 w1 ⟨rfl, b1⟩; have t1 := HT.out.below b1)
      | (go_at_call 7; refine (q1 _ t1).mono ?_; clear q1; rintro e1 w2 ⟨rfl, t2, b2⟩; have bb2 := Below.then b1 b2)
      | fail)
    go_ret
    exact ⟨rfl, bb2⟩
  | some l =>
    have q1 := fun W hW => Tryd.both_yes hr W hs hW
    have hc : comp s = some (norm [] l) := by rw [comp_rawc, hr]; rfl
    have hbd := comp_bd hc
    have hl' := comp_len hc
    have hok : ∀ r, .fix r ∈ l → Ok r := by
      unfold rawc at hr
      split at hr
      · rename_i h; exact raw_ok h.2 hr
      · cases hr
    have qlit := fun x W hG => Tryd.literal_any (norm [] l) x W hG hl' hbd
    have qfr := fun x W hG => Tryd.front_any (norm [] l) x W hG hl' hbd
    have qst := fun x W hG => Tryd.string_any (norm [] l) x W hG hl' hbd
    have rlit := fun x W hG hl => Tryd.refLiteral_any l x W hG hl
    have rfr := fun x W hG hl => Tryd.refFront_any l x W hG hl
    have rst := fun x W hG hl => Tryd.refString_any l x W hG hl hok
    rw [lit_norm] at qlit
    rw [front_normT] at qfr
    rw [str_normT] at qst
    simp only [] at qlit
    generalize (if l.all isFix = true then Gl.T (front l) else ⟨#[]⟩) = LT at *
    generalize l.all isFix = LB at *
    generalize Gl.T (front l) = FT at *
    generalize Gl.T (rs false l) = ST at *
    clear hc hbd hl' hok hr
    go_enter Tryd.func3, Tryd.ntmps3
    go_wp2_with (first
      | (go_at_call 6; refine hsh.mono ?_; clear hsh; rintro e1 w1 ⟨rfl, b1⟩; have t1 := HT.out.below b1)
      | (go_at_call 7; refine (q1 _ t1).mono ?_; clear q1; rintro e1 w2 ⟨x, y, rfl, g2, r2, hl, t2, b2⟩; have bb2 := Below.then b1 b2)
      | (go_at_call 8; refine (qlit _ _ g2).mono ?_; clear qlit; rintro e1 w3 ⟨rfl, b3⟩; have bb3 := Below.then bb2 b3; have g3 := g2.keep b3; have r3 := r2.keep b3; clear bb2 g2 r2 b3)
      | (go_at_call 9; refine (rlit _ _ r3 hl).mono ?_; clear rlit; rintro e1 w4 ⟨rfl, b4⟩; have bb4 := Below.then bb3 b4; have g4 := g3.keep b4; have r4 := r3.keep b4; clear bb3 g3 r3 b4)
      | (go_at_call 10; refine (qfr _ _ g4).mono ?_; clear qfr; rintro e1 w5 ⟨rfl, b5⟩; have bb5 := Below.then bb4 b5; have g5 := g4.keep b5; have r5 := r4.keep b5; clear bb4 g4 r4 b5)
      | (go_at_call 11; refine (rfr _ _ r5 hl).mono ?_; clear rfr; rintro e1 w6 ⟨rfl, b6⟩; have bb6 := Below.then bb5 b6; have g6 := g5.keep b6; have r6 := r5.keep b6; clear bb5 g5 r5 b6)
      | (go_at_call 12; refine (qst _ _ g6).mono ?_; clear qst; rintro e1 w7 ⟨rfl, b7⟩; have bb7 := Below.then bb6 b7; have r7 := r6.keep b7; clear bb6 g6 r6 b7)
      | (go_at_call 13; refine (rst _ _ r7 hl).mono ?_; clear rst; rintro e1 w8 ⟨rfl, b8⟩; have bb8 := Below.then bb7 b8; clear bb7 r7 b8)
      | fail)
    go_ret
    exact ⟨rfl, bb8⟩
end Go.Proofs
