/-
  awake, formatted.
-/
import Derived.Test.YtdlhonoppnfmpaaKf
import Derived.Lib.SlBytesConst
namespace Go.Proofs
open Go.RowKit Go.Dk
theorem Dk.ab_src (w : World) (fr : Nat × Nat) : Dk.Src (w.alloc (.cells #[.int .u8 97, .int .u8 98] 5 fr)) (.slice (some ⟨w.heap.size, 0, none⟩) 2 2) [97, 98] :=
  ⟨_, 2, rfl, .inr ⟨w.heap.size, 0, rfl, by simp, fun j u hj => by rw [Nat.zero_add, cell_of_row _ _ _ _ _ _ (heap_alloc_new w _)]; simpa [Lib.byteCells] using hj⟩⟩
set_option maxHeartbeats 2000000 in
set_option maxRecDepth 20000 in
theorem Try.awake_any (w : World) : Calls Try.prog 16 #[] w fun r w' => r = .returned (.bool true) ∧ Below w.heap.size w w' := by
  have hne := Try.new_dsk w 8 (by omega) (by omega)
  have hcv := fun (w : World) (C : Array Value) (n c : Nat) => Lib.run_convert_bytes_const (P := Try.prog) w 22 5 C n c Try.underlying22 Try.underlying5
  go_enter Try.func16, Try.ntmps16
  go_wp2_with (first
    | (go_at_call 17; refine hne.mono ?_; clear hne; rintro e w1 ⟨x, own, rfl, hD, hlo, hb1⟩; have hfo := Try.format_at (q := 900000) hD ((new_can 8).mono (by omega)) rfl (new_view 8) (by decide) (by decide))
    | (go_at_call 19; refine hfo.mono ?_; clear hfo; rintro e w2 ⟨rfl, hch, hho, hca, hn⟩; obtain ⟨own2, hD2, hlo2⟩ := hch.ex; have hop := Try.open_at hD2 hho hca)
    | (go_at_call 14; refine hop.mono ?_; clear hop; rintro e w3 ⟨y, sn, rv, rfl, hG⟩; obtain ⟨b, R, -, -, -, -, -, -, hsn, hrv⟩ := hG.ex; subst hsn; obtain ⟨ad, cap, hrv1, -⟩ := Dk.row_form hrv; subst hrv1; clear hrv; have hn' : (Dk.formatN (Dk.new 8)).n = 8 := hn; have hs3 := hG.bel.size)
    | (go_at_call 12; refine ((hG.jd.below ((Below.refl w3.heap.size w3).alloc (Nat.le_refl _) _)).append (q := 897000) _ [97, 98] (Dk.ab_src w3 _) (by rw [hn']; decide)).mono ?_; rintro e w4 ⟨rfl, hJs⟩; obtain ⟨own4, s4, hJ4, hn4, -, hlo4⟩ := hJs.ex; have hop := Try.open_at hJ4.dsk hJ4.ho hJ4.can; rw [hn'] at hn4; have HWO : Hid _ := hJs.wo; have HB3 : Hid _ := hG.bel; have hy0 := hG.y0; clear hJs hG hn hn')
    | (go_at_call 14; refine hop.mono ?_; clear hop; rintro e w5 ⟨y5, sn5, rv5, rfl, hG5⟩; obtain ⟨b5, R5, -, -, hR5, -, -, hcut5, hsn5, hrv5⟩ := hG5.ex; subst hsn5; obtain ⟨ad5, cap5, hrv51, -, -, -, hcs5⟩ := Dk.row_form hrv5; subst hrv51; obtain ⟨o, ho1, ho2, ho3⟩ := Dk.cut_at b5 [[97, 98]] _ _ hcut5 0 [97, 98] rfl; obtain ⟨g5, hg5, -, hgl, hgc⟩ := hcs5 0 _ ho1; subst hg5; have hcv5 := Try.conv_src (hR5.sub o 2 2 ho3); rw [show (R5.drop o).take 2 = [97, 98] from ho2] at hcv5; have hgc5 : w5.cell? ⟨g5, 0, none⟩ = some (.slice (some ⟨b5, o, none⟩) 2 2) := hgc; clear hgc; have hrm := hG5.jd.room; rw [hn4, show Dk.roomZ 8 (body [] ([] ++ [[97, 98]])).length = 176 by decide] at hrm; have HB5 : Hid _ := hG5.bel; have HB1 : Hid _ := hb1; have HCH : Hid _ := hch.wo; have HLO : Hid _ := hlo; have HLO2 : Hid _ := hlo2; clear hG5 hJ4 hcut5 hrv5 hcs5 hR5 ho1 ho2 ho3 hch hho hca hD2 hD hb1 hlo hlo2)
    | (go_at_call 27; refine hrm.mono ?_; clear hrm; rintro e w6 ⟨rfl, hb6⟩)
    | fail)
  go_ret
  refine ⟨by simp, ?_⟩
  have hz1 := HB1.out.size
  have hz2 := HCH.out.size
  have hz3 := HB3.out.size
  have hz4 := HWO.out.size
  have hz5 := HB5.out.size
  simp only [World.size_alloc] at hz4
  have hl2 : ∀ k, own2 k → w.heap.size ≤ k := fun k e => by rcases HLO2.out k e with e1 | e1; exact HLO.out k e1; omega
  refine HB1.out.trans ((HCH.out.bel HLO.out hz1).trans ((HB3.out.mono (by omega)).trans (((Below.refl w.heap.size w3).alloc (by omega) _).trans ((HWO.out.bel (fun k e => ?_) (by simp; omega)).trans ((HB5.out.mono (by omega)).trans (hb6.mono (by omega)))))))
  rcases e with e1 | e1
  · exact hl2 k e1
  · omega
/-- A new disk with an empty journal. -/
structure Try.Fresh (w w' : World) (x n : Nat) : Prop where
  ex : ∃ own s, Try.Dsk w' own x s ∧ Holds s 1 0 [] [] ∧ s.Can 900000 ∧ s.n = n ∧ s.falls = 0 ∧ ∀ k, own k → w.heap.size ≤ k
  bel : Below w.heap.size w w'
set_option maxHeartbeats 2000000 in
set_option maxRecDepth 20000 in
theorem Try.formatted_any (b : Int) (h1 : -9223372036854775808 ≤ b) (h2 : b ≤ 9223372036854775807) (w : World) :
    Calls Try.prog 9 #[.int .i64 b] w fun r w' => ∃ x, r = .returned (.pointer (some ⟨x, 0, none⟩)) ∧ Try.Fresh w w' x (8 + Dk.pickN b 60) := by
  have hp := Dk.pickN_lt b (n := 60) (by omega)
  have haw := Try.awake_any w
  have hpk : ∀ W, Calls Try.prog 18 #[.int .i64 b, .int .i64 60] W fun e w' => e = .returned (.int .i64 (Dk.pickN b 60)) ∧ w' = W := fun W => Try.pick_any b 60 (by omega) (by omega) h1 h2 W
  have hne : ∀ W, Calls Try.prog 17 #[.int .i64 (8 + (Dk.pickN b 60 : Int))] W _ := fun W => by
    have := Try.new_dsk W (8 + Dk.pickN b 60) (by omega) (by omega)
    rw [show ((8 + Dk.pickN b 60 : Nat) : Int) = 8 + (Dk.pickN b 60 : Int) by omega] at this
    exact this
  generalize hP : Dk.pickN b 60 = P at *
  clear hP
  go_enter Try.func9, Try.ntmps9
  go_wp2_with (first
    | (go_at_call 16; refine haw.mono ?_; clear haw; rintro e w1 ⟨rfl, hb1⟩)
    | (go_at_call 18; refine (hpk w1).mono ?_; clear hpk; rintro e w2 ⟨rfl, rfl⟩)
    | (go_at_call 17; refine (hne _).mono ?_; clear hne; rintro e w3 ⟨x, own, rfl, hD, hlo, hb3⟩; have hfo := Try.format_at (q := 900000) hD ((new_can _).mono (by omega)) rfl (new_view _) (by show 8 ≤ 8 + P; omega) (by show 8 + P ≤ 4096; omega))
    | (go_at_call 19; refine hfo.mono ?_; clear hfo; rintro e w4 ⟨rfl, hch, hho, hca, hn⟩; have HCH : Hid _ := hch; have HHO : Hid _ := hho; have HCA : Hid _ := hca; have HN : Hid _ := hn; have HB3 : Hid _ := hb3; have HLO : Hid _ := hlo; clear hch hho hca hn hb3 hlo hD)
    | fail)
  go_ret
  obtain ⟨own', hD', hl'⟩ := HCH.out.ex
  have hz1 := hb1.size
  have hz3 := HB3.out.size
  refine ⟨x, rfl, ⟨own', _, hD', HHO.out, HCA.out, HN.out, (formatN_can (q := 900000) ((new_can _).mono (by omega)) rfl (by show 8 + P ≤ 4096; omega)).2, fun k e => ?_⟩, hb1.trans ((HB3.out.mono hz1).trans (HCH.out.wo.bel (fun k e => ?_) (by omega)))⟩
  · rcases hl' k e with e1 | e1
    · have := HLO.out k e1; omega
    · omega
  · have := HLO.out k e; omega
end Go.Proofs
