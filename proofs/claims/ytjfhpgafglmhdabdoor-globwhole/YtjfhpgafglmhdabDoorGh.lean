/-
  GLOB: 'shown': the document's examples.
-/
import Derived.Test.YtjfhpgafglmhdabDoorGz
import Derived.Test.YtjfhpgafglmhdabDoorGm
namespace Go.Gl
def exA : ByteArray := ⟨#[108, 63, 118, 101, 42]⟩
def exB : ByteArray := ⟨#[42, 42, 63, 97, 63, 42]⟩
def exC : ByteArray := ⟨#[65, 92, 42, 66]⟩
def exD : ByteArray := ⟨#[99, 97, 107, 101, 42, 108, 105, 101]⟩
def exE : ByteArray := ⟨#[92, 97]⟩
def psA : List P := [.fix 108, .one, .fix 118, .fix 101, .any]
def psB : List P := [.one, .any, .fix 97, .one, .any]
def psC : List P := [.fix 97, .fix 42, .fix 98]
def psD : List P := [.fix 99, .fix 97, .fix 107, .fix 101, .any, .fix 108, .fix 105, .fix 101]
theorem compA : comp exA = some psA := by kernel_rfl
theorem compB : comp exB = some psB := by kernel_rfl
theorem compC : comp exC = some psC := by kernel_rfl
theorem compD : comp exD = some psD := by kernel_rfl
theorem compE : comp exE = none := by kernel_rfl
theorem wholeA : wholeB psA ⟨#[76, 111, 118, 101]⟩ = true := by kernel_rfl
theorem wholeA' : wholeB psA ⟨#[108, 118, 101]⟩ = false := by kernel_rfl
theorem litC : Go.Proofs.Gl.lit psC = (⟨#[97, 42, 98]⟩, true) := by kernel_rfl
theorem strB : strOf psB = [63, 42, 97, 63, 42] := by kernel_rfl
theorem frontA : front psA = [108] := by kernel_rfl
theorem inD : withinB psD ⟨#[84, 104, 101, 32, 67, 65, 75, 69, 44, 32, 97, 32, 108, 105, 101, 33]⟩ = true := by kernel_rfl
theorem outD : withinB psD ⟨#[99, 97, 107, 101, 115]⟩ = false := by kernel_rfl
end Go.Gl
namespace Go.Proofs
open Go.RowKit Go.Gl
theorem Tryd.comp_some {s : ByteArray} {ps : List P} {e : Ending} {w' : World} (hc : comp s = some ps) (h : Tryd.CompOk s e w') : ∃ x, e = .returned (.tuple #[.pointer (some ⟨x, 0, none⟩), .int .i64 0]) ∧ Tryd.Gb w' x ps ∧ ps.length ≤ 100 := by
  unfold Tryd.CompOk at h
  rw [hc] at h
  exact h
theorem Tryd.comp_none {s : ByteArray} {e : Ending} {w' : World} (hc : comp s = none) (h : Tryd.CompOk s e w') : e = .returned (.tuple #[.pointer none, .int .i64 30]) := by
  unfold Tryd.CompOk at h
  rw [hc] at h
  exact h
theorem Tryd.comp_yes {s : ByteArray} {ps : List P} (hc : comp s = some ps) (w : World) (hs : s.size ≤ maxLen) (hT : Tryd.Tabs w) :
    Calls Tryd.prog 18 #[.string s] w fun e w' => ∃ x, e = .returned (.tuple #[.pointer (some ⟨x, 0, none⟩), .int .i64 0]) ∧ Tryd.Gb w' x ps ∧ Tryd.Tabs w' ∧ Below w.heap.size w w' :=
  (Tryd.compile_any s w hs hT).mono fun e w' ⟨h, hb⟩ => by
    obtain ⟨x, h1, h2, _⟩ := Tryd.comp_some hc h
    exact ⟨x, h1, h2, hT.below hb, hb⟩
theorem Tryd.comp_no {s : ByteArray} (hc : comp s = none) (w : World) (hs : s.size ≤ maxLen) (hT : Tryd.Tabs w) :
    Calls Tryd.prog 18 #[.string s] w fun e w' => e = .returned (.tuple #[.pointer none, .int .i64 30]) ∧ Tryd.Tabs w' ∧ Below w.heap.size w w' :=
  (Tryd.compile_any s w hs hT).mono fun _e _w' ⟨h, hb⟩ => ⟨Tryd.comp_none hc h, hT.below hb, hb⟩
/-- A world that has grown. -/
theorem Below.then {a b c : World} (h : Below a.heap.size a b) (k : Below b.heap.size b c) : Below a.heap.size a c := h.trans (k.mono h.size)
set_option maxRecDepth 100000 in
set_option maxHeartbeats 4000000 in
theorem Tryd.shown_any (w : World) (hT : Tryd.Tabs w) : Calls Tryd.prog 6 #[] w fun e w' => e = .returned (.bool true) ∧ Below w.heap.size w w' := by
  have h1 := Tryd.comp_yes compA w (by decide) hT
  have h2 := fun W hW => Tryd.comp_yes compB W (by decide) hW
  have h3 := fun W hW => Tryd.comp_yes compC W (by decide) hW
  have h4 := fun W hW => Tryd.comp_yes compD W (by decide) hW
  have h5 := fun W hW => Tryd.comp_no compE W (by decide) hW
  have q1 := fun x W hG hW => Tryd.whole_any psA x ⟨#[76, 111, 118, 101]⟩ W hG (by decide) (by decide) hW
  rw [wholeA] at q1
  have q2 := fun x W hG hW => Tryd.whole_any psA x ⟨#[108, 118, 101]⟩ W hG (by decide) (by decide) hW
  rw [wholeA'] at q2
  have q3 := fun x W hG => Tryd.literal_any psC x W hG (by decide) (comp_bd compC)
  rw [litC] at q3
  have q4 := fun x W hG hW => Tryd.within_any' psD x ⟨#[84, 104, 101, 32, 67, 65, 75, 69, 44, 32, 97, 32, 108, 105, 101, 33]⟩ W hG (by decide) (by decide) hW
  rw [inD] at q4
  have q5 := fun x W hG hW => Tryd.within_any' psD x ⟨#[99, 97, 107, 101, 115]⟩ W hG (by decide) (by decide) hW
  rw [outD] at q5
  have q6 := fun x W hG => Tryd.front_any psA x W hG (by decide) (comp_bd compA)
  rw [frontA] at q6
  have q7 := fun x W hG => Tryd.string_any psB x W hG (by decide) (comp_bd compB)
  rw [strB] at q7
  unfold exA at h1
  unfold exB at h2
  unfold exC at h3
  unfold exD at h4
  unfold exE at h5
  generalize psA = pA at *
  generalize psB = pB at *
  generalize psC = pC at *
  generalize psD = pD at *
  have HT : Hid (Tryd.Tabs w) := hT
  clear hT
  go_enter Tryd.func6, Tryd.ntmps6
  go_wp2_with (first
    | (go_at_call 18; refine h1.mono ?_; clear h1; rintro e1 w1 ⟨xA, rfl, gA, t1, b1⟩)
    | (go_at_call 18; refine (h2 _ t1).mono ?_; clear h2; rintro e1 w2 ⟨xB, rfl, gB, t2, b2⟩; have gA2 := gA.keep b2; have bb2 := Below.then b1 b2; clear gA b1 b2 t1)
    | (go_at_call 18; refine (h3 _ t2).mono ?_; clear h3; rintro e1 w3 ⟨xC, rfl, gC, t3, b3⟩; have gA3 := gA2.keep b3; have gB3 := gB.keep b3; have bb3 := Below.then bb2 b3; clear gA2 gB b3 t2 bb2)
    | (go_at_call 18; refine (h4 _ t3).mono ?_; clear h4; rintro e1 w4 ⟨xD, rfl, gD, t4, b4⟩; have gA4 := gA3.keep b4; have gB4 := gB3.keep b4; have gC4 := gC.keep b4; have bb4 := Below.then bb3 b4; clear gA3 gB3 gC b4 t3 bb3)
    | (go_at_call 18; refine (h5 _ t4).mono ?_; clear h5; rintro e1 w5 ⟨rfl, t5, b5⟩; have gA5 := gA4.keep b5; have gB5 := gB4.keep b5; have gC5 := gC4.keep b5; have gD5 := gD.keep b5; have bb5 := Below.then bb4 b5; clear gA4 gB4 gC4 gD b5 t4 bb4)
    | (go_at_call 14; refine (q1 _ _ gA5 t5).mono ?_; clear q1; rintro e1 w6 ⟨rfl, b6⟩; have gA6 := gA5.keep b6; have gB6 := gB5.keep b6; have gC6 := gC5.keep b6; have gD6 := gD5.keep b6; have bb6 := Below.then bb5 b6; have t6 := t5.below b6; clear gA5 gB5 gC5 gD5 b6 t5 bb5)
    | (go_at_call 14; refine (q2 _ _ gA6 t6).mono ?_; clear q2; rintro e1 w7 ⟨rfl, b7⟩; have gA7 := gA6.keep b7; have gB7 := gB6.keep b7; have gC7 := gC6.keep b7; have gD7 := gD6.keep b7; have bb7 := Below.then bb6 b7; have t7 := t6.below b7; clear gA6 gB6 gC6 gD6 b7 t6 bb6)
    | (go_at_call 8; refine (q3 _ _ gC7).mono ?_; clear q3; rintro e1 w8 ⟨rfl, b8⟩; have gA8 := gA7.keep b8; have gB8 := gB7.keep b8; have gD8 := gD7.keep b8; have bb8 := Below.then bb7 b8; have t8 := t7.below b8; clear gA7 gB7 gC7 gD7 b8 t7 bb7)
    | (go_at_call 16; refine (q4 _ _ gD8 t8).mono ?_; clear q4; rintro e1 w9 ⟨rfl, b9⟩; have gA9 := gA8.keep b9; have gB9 := gB8.keep b9; have gD9 := gD8.keep b9; have bb9 := Below.then bb8 b9; have t9 := t8.below b9; clear gA8 gB8 gD8 b9 t8 bb8)
    | (go_at_call 16; refine (q5 _ _ gD9 t9).mono ?_; clear q5; rintro e1 w10 ⟨rfl, b10⟩; have gA10 := gA9.keep b10; have gB10 := gB9.keep b10; have bb10 := Below.then bb9 b10; clear gA9 gB9 gD9 b10 t9 bb9)
    | (go_at_call 10; refine (q6 _ _ gA10).mono ?_; clear q6; rintro e1 w11 ⟨rfl, b11⟩; have gB11 := gB10.keep b11; have bb11 := Below.then bb10 b11; clear gA10 gB10 b11 bb10)
    | (go_at_call 12; refine (q7 _ _ gB11).mono ?_; clear q7; rintro e1 w12 ⟨rfl, b12⟩; have bb12 := Below.then bb11 b12; clear gB11 b12 bb11)
    | fail)
  go_ret
  exact ⟨rfl, bb12⟩
end Go.Proofs
