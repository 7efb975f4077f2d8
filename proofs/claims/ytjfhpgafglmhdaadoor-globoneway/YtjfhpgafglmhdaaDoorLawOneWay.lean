/-
  GlobOneWay, walked.
-/
import Derived.Test.YtjfhpgafglmhdaaDoorGy
import Derived.Test.YtjfhpgafglmhdaaDoorStrs
namespace Go.Proofs
open Go.RowKit Go.Gl
set_option maxRecDepth 100000 in
set_option maxHeartbeats 8000000 in
theorem Tryd.globOneWayWalk {w : World} (p : ByteArray) (hp : p.size ≤ 140737488351232) (v : Value) (hv : ∃ l, Strs w v l ∧ ∀ X ∈ l, X.size ≤ 140737488351232) (hT : Tryd.Tabs w) :
    Calls Tryd.prog 6 #[.string p, v] w fun e w' => e = .returned (.bool true) ∧ Below w.heap.size w w' := by
  obtain ⟨l, hS, hX⟩ := hv
  have hsh := Tryd.shown_any w hT
  have HT : Hid (Tryd.Tabs w) := hT
  have HS : Hid (Strs w v l) := hS
  have hpm : p.size ≤ maxLen := by unfold maxLen; omega
  clear hT hS
  cases hc : comp p with
  | none =>
    have q1 := fun W hW => Tryd.compiled_no hc W hpm hW
    clear hc
    go_enter Tryd.func6, Tryd.ntmps6
    go_wp2_with (first
      | (go_at_call 9; refine hsh.mono ?_; clear hsh; rintro e1 w1 ⟨rfl, b1⟩; have t1 := HT.out.below b1)
      | (go_at_call 17; refine (q1 _ t1).mono ?_; clear q1; rintro e1 w2 ⟨rfl, t2, b2⟩; have bb2 := Below.then b1 b2)
      | fail)
    go_ret
    exact ⟨rfl, bb2⟩
  | some ps =>
    obtain ⟨hc2, hsz⟩ := one_way hc
    have hl := comp_len hc
    have hbd := comp_bd hc
    have q1 := fun W hW => Tryd.compiled_yes hc W hpm hW
    have q2 := fun W hW => Tryd.compiled_yes hc2 W (Nat.le_trans hsz hpm) hW
    have qs := fun x W hG => Tryd.string_any ps x W hG hl hbd
    have qr := fun x W hG => Tryd.front_any ps x W hG hl hbd
    have qw := fun (t : ByteArray) (ht : t.size ≤ 140737488351232) x W hG hW => Tryd.whole_any ps x t W hG hl (by omega) hW
    have qi := fun (t : ByteArray) (ht : t.size ≤ 140737488351232) x W hG hW => Tryd.within_any' ps x t W hG hl (by omega) hW
    have hzz : ¬ (p.size : Int) < ((Gl.T (strOf ps)).size : Int) := by omega
    change ∀ x W, Tryd.Gb W x ps → Calls Tryd.prog _ _ W (fun e w' => e = .returned (.string (Gl.T (strOf ps))) ∧ _) at qs
    generalize Gl.T (strOf ps) = s at *
    generalize (⟨(front ps).toArray⟩ : ByteArray) = FR at *
    clear hc hc2 hsz hbd hpm
    obtain ⟨hm, a, c, b, off, rfl, hpos, hcell⟩ := HS.out
    clear HS
    have HB : Hid _ := hpos
    have HC : Hid _ := hcell
    have HX : Hid _ := hX
    clear hpos hcell hX
    have hml : l.length ≤ 9223372036854775807 := hm
    have hzb : decide ((p.size : Int) < (s.size : Int)) = false := decide_eq_false hzz
    have hzc : decide (p.size < s.size) = false := decide_eq_false (by omega)
    clear hm
    go_enter Tryd.func6, Tryd.ntmps6
    go_wp2_with (first
      | (go_at_call 9; refine hsh.mono ?_; clear hsh; rintro e1 w1 ⟨rfl, b1⟩; have t1 := HT.out.below b1)
      | (go_at_call 17; refine (q1 _ t1).mono ?_; clear q1; rintro e1 w2 ⟨x, rfl, g2, t2, b2⟩; have bb2 := Below.then b1 b2; clear b1 t1 b2)
      | (go_at_call 19; refine (qs _ _ g2).mono ?_; rintro e1 w3 ⟨rfl, b3⟩; have bb3 := Below.then bb2 b3; have t3 := t2.below b3; have g3 := g2.keep b3; clear bb2 t2 g2 b3)
      | (go_at_call 17; refine (q2 _ t3).mono ?_; clear q2; rintro e1 w4 ⟨y, rfl, k4, t4, b4⟩; have bb4 := Below.then bb3 b4; have g4 := g3.keep b4; clear bb3 g3 b4 t3)
      | (go_at_call 19; refine (qs _ _ k4).mono ?_; rintro e1 w5 ⟨rfl, b5⟩; have bb5 := Below.then bb4 b5; have t5 := t4.below b5; have g5 := g4.keep b5; have k5 := k4.keep b5; clear bb4 t4 g4 k4 b5)
      | (go_at_call 16; refine (qr _ _ k5).mono ?_; rintro e1 w6 ⟨rfl, b6⟩; have bb6 := Below.then bb5 b6; have t6 := t5.below b6; have g6 := g5.keep b6; have k6 := k5.keep b6; clear bb5 t5 g5 k5 b6)
      | (go_at_call 16; refine (qr _ _ g6).mono ?_; rintro e1 w7 ⟨rfl, b7⟩; have bb7 := Below.then bb6 b7; have t7 := t6.below b7; have g7 := g6.keep b7; have k7 := k6.keep b7; clear bb6 t6 g6 k6 b7)
      | fail)
    clear hzz hzb hzc
    go_loopw [11] (fun i wr => ∃ k : Nat, k ≤ l.length ∧ i = .int .i64 k ∧ Below w7.heap.size w7 wr) (fun i _ => l.length - (intOf i).toNat)
    case atStart => exact ⟨0, by omega, rfl, Below.refl _ _⟩
    case round =>
      obtain ⟨k, hk, rfl, hbw⟩ := hrel
      by_cases hlt : k < l.length
      · have c1 : (k : Int) < (l.length : Int) := by omega
        obtain ⟨X, hXk⟩ : ∃ X, l[k]? = some X := ⟨_, List.getElem?_eq_getElem hlt⟩
        have hXs := HX.out X (List.mem_of_getElem? hXk)
        obtain ⟨ha, hbl⟩ := HB.out (by omega)
        subst ha
        have hcl : ∀ W, Below w7.heap.size w7 W → W.cell? ⟨b, off + k, none⟩ = some (.string X) := fun W hW =>
          ((Below.then bb7 hW).cell (p := ⟨b, off + k, none⟩) hbl).trans (HC.out k X hXk)
        have HCL : Hid _ := hcl
        have qwX := qw X hXs
        have qiX := qi X hXs
        have h0 := hcl wr hbw
        generalize wholeB ps X = A at *
        generalize Gl.withinB ps X = C at *
        clear hcl qw qi hXk
        have gR := g7.keep hbw
        have kR := k7.keep hbw
        have tR := t7.below hbw
        go_wp2_with (first
          | (go_at_call 13; refine (qwX _ _ gR tR).mono ?_; rintro e1 w8 ⟨rfl, b8⟩; have bb8 := Below.then hbw b8; have h8 := HCL.out _ bb8; have k8 := kR.keep b8; have g8 := gR.keep b8; have t8 := tR.below b8; clear b8 gR kR tR h0)
          | (go_at_call 13; refine (qwX _ _ k8 t8).mono ?_; rintro e1 w9 ⟨rfl, b9⟩; have bb9 := Below.then bb8 b9; have h9 := HCL.out _ bb9; have k9 := k8.keep b9; have g9 := g8.keep b9; have t9 := t8.below b9; clear b9 g8 k8 t8 h8)
          | (go_at_call 20; refine (qiX _ _ g9 t9).mono ?_; rintro e1 w10 ⟨rfl, b10⟩; have bb10 := Below.then bb9 b10; have h10 := HCL.out _ bb10; have k10 := k9.keep b10; have t10 := t9.below b10; clear b10 g9 k9 t9 h9)
          | (go_at_call 20; refine (qiX _ _ k10 t10).mono ?_; rintro e1 w11 ⟨rfl, b11⟩; have bb11 := Below.then bb10 b11; clear b11 k10 t10 h10)
          | fail)
        go_roundw
        case rel => exact ⟨k + 1, by omega, by go_num, bb11⟩
        case measure => simp [intOf]; omega
      · have c1 : ¬ (k : Int) < (l.length : Int) := by omega
        go_wp2
        go_ret
        exact ⟨rfl, Below.then bb7 hbw⟩
end Go.Proofs
