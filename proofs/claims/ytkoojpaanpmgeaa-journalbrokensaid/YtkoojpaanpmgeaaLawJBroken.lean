/-
  JournalBroken: the walk.
-/
import Derived.Test.YtkoojpaanpmgeaaKk
import Derived.Lib.SlBytesConst
namespace Go.Dk
theorem half_bd {n P : Nat} (h : n = 8 + P) (hP : P < 60) : 192 ≤ 64 * half n ∧ 64 * half n ≤ 2112 := by unfold half; omega
end Go.Dk
namespace Go.Proofs
open Go.RowKit Go.Dk
set_option maxHeartbeats 2000000 in
set_option maxRecDepth 20000 in
theorem Try.journalBrokenWalk (b : Int) (K T : Int) (v : Value) (l : List (List UInt8)) (w : World) (h1 : -9223372036854775808 ≤ b ∧ b ≤ 9223372036854775807) (hP : Dk.RowsIn w v l) :
    Calls Try.prog 6 #[.int .i64 b, .agg #[.int .i64 K, .int .i64 T], v] w fun e w' => e = .returned (.bool true) ∧ Below w.heap.size w w' := by
  obtain ⟨w0, hw0⟩ : ∃ w0, w0 = w.alloc (.cells #[.int .i64 K, .int .i64 T] 46) := ⟨_, rfl⟩
  have hb0 : Below w.heap.size w w0 := by rw [hw0]; exact (Below.refl w.heap.size w).alloc (Nat.le_refl _) _
  have hx0 : w0.heap[w.heap.size]? = some (.cells #[.int .i64 K, .int .i64 T] 46 (0, 0)) := by rw [hw0]; exact heap_alloc_new w _
  have hfm := Try.formatted_any b h1.1 h1.2 w0
  have hp := Dk.pickN_lt b (n := 60) (by omega)
  obtain ⟨n, hn⟩ : ∃ n, n = 8 + Dk.pickN b 60 := ⟨_, rfl⟩
  have hbd := half_bd hn hp
  rw [← hn] at hfm
  have HP : Hid (Dk.RowsIn w0 v l) := hP.up hb0
  obtain ⟨ad1, cap1, rfl, hcap, -⟩ := hP.ex
  have HB0 : Hid (Below w.heap.size w w0) := hb0
  have HX0 : Hid (w0.heap[w.heap.size]? = some (.cells #[.int .i64 K, .int .i64 T] 46 (0, 0))) := hx0
  clear hP hn hp hb0 hx0
  have hfr : ∀ W : World, W = w0 → Calls Try.prog 9 #[.int .i64 b] W fun r w' => ∃ x, r = .returned (.pointer (some ⟨x, 0, none⟩)) ∧ Try.Fresh w0 w' x n := fun W hW => by subst hW; exact hfm
  have HW0 : Hid (w0 = w.alloc (.cells #[.int .i64 K, .int .i64 T] 46)) := hw0
  clear hw0 hfm
  go_enter Try.func6, Try.ntmps6
  go_wp2_with (first
    | (go_at_call 9; refine (hfr _ HW0.out.symm).mono ?_; clear hfr; rintro e w1 ⟨x, rfl, hF⟩; have htd := hF.told)
    | (go_at_call 16; refine htd.mono ?_; clear htd; rintro e w2 ⟨y, ad, cap, rfl, hL0⟩; have hL := hL0.box.drop (bs' := [(w2.heap.size, [], [])]) (ss' := []) (fun b e => e) (fun v e => absurd e (by simp)); have HL : Hid (Try.Lt w0.heap.size w0 (w2.alloc (.cells #[.string ⟨#[]⟩, .slice ad 0 cap] 28)) n y x 900000 1 0 [] [] [(w2.heap.size, [], [])] []) := hL; clear hL hL0 hF)
    | fail)
  go_loopw [11] (fun i wr => ∃ (k : Nat) (rs : List (List UInt8)), i = .int .i64 k ∧ k ≤ 9 ∧ k ≤ l.length ∧ Try.Lt w0.heap.size w0 wr n y x (870000 + 3000 * (9 - k)) 1 0 [] rs [(w2.heap.size, [], rs)] []) (fun i _ => 9 - (intOf i).toNat)
  case atStart => exact ⟨0, [], rfl, by omega, by omega, HL.out.less (by omega)⟩
  case round =>
    obtain ⟨k, rs, rfl, hk9, hkl, hL⟩ := hrel
    clear HL
    have HL : Hid (Try.Lt w0.heap.size w0 wr n y x (870000 + 3000 * (9 - k)) 1 0 [] rs [(w2.heap.size, [], rs)] []) := hL
    have HPr : Hid (Dk.RowsIn wr (.slice ad1 l.length cap1) l) := HP.out.up hL.bel
    have hrl := hL.few
    clear hL
    by_cases hgo : k < l.length ∧ k < 9
    · have q0 : (k : Int) < (l.length : Int) := by omega
      have q1 : (k : Int) < 9 := by omega
      obtain ⟨d, hd⟩ : ∃ d, l[k]? = some d := ⟨_, List.getElem?_eq_getElem hgo.1⟩
      obtain ⟨sb, so, ad2, cap2, rfl, hcell0, hsrc, hdl⟩ := HP.out.at hd
      have hsb : sb < w0.heap.size := World.block_lt_of_cell? _ _ hcell0
      have hcell := (HL.out.bel.cell (p := ⟨sb, so + k, none⟩) hsb).trans hcell0
      have HS : Hid (Dk.Src w0 (.slice ad2 d.length cap2) d) := hsrc
      have HC0 : Hid (w0.cell? ⟨sb, so + k, none⟩ = some (.slice ad2 d.length cap2)) := hcell0
      clear hd hsrc hcell0
      cases hfit : Dk.fits n (body [] rs).length d.length with
      | false =>
        have hfu := HL.out.full ad2 d.length cap2 (by omega) hfit
        obtain ⟨c, hc⟩ : ∃ c : Int, c = if d.length = 0 ∨ 6000 < d.length then 52 else 51 := ⟨_, rfl⟩
        have hc0 : c ≠ 0 := by rw [hc]; split <;> decide
        rw [← hc] at hfu
        clear hc
        go_wp2_with (first
          | (go_at_call 11; refine hfu.mono ?_; clear hfu; rintro e w3 ⟨rfl, hL3⟩)
          | fail)
        go_roundw
        case rel => exact ⟨k + 1, rs, by go_num, by omega, by omega, hL3.less (by omega)⟩
        case measure => simp [intOf]; omega
      | true =>
        have hap := (HL.out.less (q' := 870000 + 3000 * (9 - (k + 1)) + 3000) (by omega)).append _ d (HS.out.up HL.out.bel) hfit
        have h0 : 0 < d.length := by simp only [Dk.fits, decide_eq_true_eq] at hfit; omega
        go_upto_region 12 with (first
          | (go_at_call 11; refine hap.mono ?_; clear hap; rintro e w3 ⟨rfl, hL3⟩)
          | fail)
        obtain ⟨ad9, cap9, hbx9, hL9'⟩ := hL3.take (List.mem_singleton.2 rfl)
        have c90 : w3.cell? ⟨w2.heap.size, 0, none⟩ = some (.string ⟨#[]⟩) := cell_of_row _ _ 0 _ _ _ hbx9
        have c91 : w3.cell? ⟨w2.heap.size, 1, none⟩ = some (.slice ad9 rs.length cap9) := cell_of_row _ _ 1 _ _ _ hbx9
        have hcell3 := (hL3.bel.cell (p := ⟨sb, so + k, none⟩) hsb).trans HC0.out
        have hcv3 := Try.src_conv ((HS.out.up hL3.bel).up (Below.refl w3.heap.size w3).drew) h0
        have HL9 : Hid _ := hL9'
        clear hL3 hL9' hbx9 hcell
        go_region_with (first
          | (go_at_call 12; refine ((HL9.out.below (Below.refl w3.heap.size w3).drew).with hrl d).mono ?_; rintro e w10 ⟨ad10, cap10, rfl, hL10⟩; obtain ⟨ad11, cap11, hbx10, -⟩ := hL10.take (List.mem_singleton.2 rfl); have c100 : w10.cell? ⟨w2.heap.size, 0, none⟩ = some (.string ⟨#[]⟩) := cell_of_row _ _ 0 _ _ _ hbx10; have c101 : w10.cell? ⟨w2.heap.size, 1, none⟩ = some (.slice ad11 rs.length cap11) := cell_of_row _ _ 1 _ _ _ hbx10; have f100 := frozen_of_row _ _ 0 _ _ hbx10; have f101 := frozen_of_row _ _ 1 _ _ hbx10; have HL10 : Hid _ := hL10; clear hL10 hbx10)
          | fail)
        all_goals
          go_wp2
          go_roundw
          case rel => exact ⟨k + 1, rs ++ [d], by go_num, by omega, by omega, (HL10.out.put (List.mem_singleton.2 rfl) (fun c hc => .inl (List.mem_singleton.1 hc))).solo⟩
          case measure => simp [intOf]; omega
    · have hHL := HL.out
      have hK : wr.heap[w.heap.size]? = some (.cells #[.int .i64 K, .int .i64 T] 46 (0, 0)) := (hHL.bel.block _ (Dk.block_lt HX0.out)).trans HX0.out
      have k0 := cell_of_row _ _ 0 _ _ _ hK
      have k1 := cell_of_row _ _ 1 _ _ _ hK
      simp only [List.getElem?_toArray, List.getElem?_cons_zero, List.getElem?_cons_succ] at k0 k1
      have hcr := (hHL.less (q' := 860000 + 1) (by omega)).crash K T
      have hcv := fun (w : World) (C : Array Value) (n c : Nat) => Lib.run_convert_bytes_const (P := Try.prog) w 33 5 C n c Try.underlying33 Try.underlying5
      clear hHL hK
      rcases (show ¬ (k : Int) < (l.length : Int) ∨ ((k : Int) < (l.length : Int) ∧ ¬ (k : Int) < 9) by omega) with q0 | ⟨q0, q1⟩
      all_goals
        go_wp2_with (first
          | (go_at_call 20; refine hcr.mono ?_; clear hcr; rintro e w3 ⟨rfl, hB3⟩; have htd := hB3.told; clear hB3)
          | (go_at_call 16; refine htd.mono ?_; clear htd; rintro e w4 ⟨rfl, hB4⟩; have hfo := (hB4.below ((Below.refl w4.heap.size w4).alloc (Nat.le_refl _) (.cells #[.string ⟨#[]⟩, .slice none 0 0] 28))).format; clear hB4)
          | (go_at_call 21; refine hfo.mono ?_; clear hfo; rintro e w5 ⟨rfl, hB5⟩; have hre := hB5.restart; clear hB5)
          | (go_at_call 22; refine hre.mono ?_; clear hre; rintro e w6 ⟨⟨vv, rfl⟩, hB6⟩)
          | (go_at_call 11; refine ((hB6.below ((Below.refl w6.heap.size w6).alloc (Nat.le_refl _) _)).append _ 1 _ (by omega)).mono ?_; rintro e w7 ⟨rfl, hB7⟩; have hco := hB7.compact none 0 0 (by omega); clear hB6 hB7)
          | (go_at_call 13; refine hco.mono ?_; clear hco; rintro e w8 ⟨rfl, hB8⟩; have hrm := hB8.room; clear hB8)
          | (go_at_call 14; refine hrm.mono ?_; clear hrm; rintro e w9 ⟨rfl, hB9⟩; have htd3 := hB9.back; clear hB9)
          | (go_at_call 16; refine htd3.mono ?_; clear htd3; rintro e w11 ⟨y8, ad8, cap8, rfl, hL8⟩; have hL9 := hL8.box; obtain ⟨adN, capN, hbN, hLn⟩ := hL9.take (List.mem_cons_of_mem _ (List.mem_singleton.2 rfl)); have d0 := cell_of_row _ _ 0 _ _ _ hbN; have d1 := cell_of_row _ _ 1 _ _ _ hbN; simp only [List.getElem?_toArray, List.getElem?_cons_zero, List.getElem?_cons_succ] at d0 d1; have hsm := hLn.same hrl (List.mem_cons_of_mem _ List.mem_cons_self) List.mem_cons_self; clear hL8 hL9 hLn hbN)
          | (go_at_call 15; refine hsm.mono ?_; clear hsm; rintro e w12 ⟨rfl, hL12⟩)
          | (go_at_call 13; refine (((hL12.less (q' := 850000 + 3000) (by omega)).below ((Below.refl w12.heap.size w12).alloc (Nat.le_refl _) _)).compact _ [115] (Dk.one_src w12 115 _) (by simp; omega) (by omega)).mono ?_; rintro e w13 ⟨rfl, hL13⟩; have htd2 := hL13.told; clear hL12 hL13)
          | (go_at_call 16; refine htd2.mono ?_; clear htd2; rintro e w14 ⟨y14, ad14, cap14, rfl, -, hL14⟩; obtain ⟨adF, capF, hbF, -⟩ := hL14.take List.mem_cons_self; have e0 := cell_of_row _ _ 0 _ _ _ hbF; have e1 := cell_of_row _ _ 1 _ _ _ hbF; simp only [List.getElem?_toArray, List.getElem?_cons_zero, List.getElem?_cons_succ] at e0 e1; have g0 := frozen_of_row _ _ 0 _ _ hbF; have g1 := frozen_of_row _ _ 1 _ _ hbF; have hC := Dk.two_cells hbF (.string ⟨#[115]⟩) (.slice ad14 0 cap14); have i0 := cell_of_row _ _ 0 _ _ _ hC; have i1 := cell_of_row _ _ 1 _ _ _ hC; simp only [List.getElem?_toArray, List.getElem?_cons_zero, List.getElem?_cons_succ] at i0 i1; have hsm2 := (((hL14.put List.mem_cons_self (bs' := []) (fun c hc => absurd hc (by simp))).lit [115]).same (by simp) (List.mem_cons_of_mem _ List.mem_cons_self) List.mem_cons_self); clear hL14 hbF hC)
          | (go_at_call 15; refine hsm2.mono ?_; clear hsm2; rintro e w15 ⟨rfl, hL15⟩)
          | fail)
        go_ret
        exact ⟨by simp, HB0.out.trans (hL15.bel.mono HB0.out.size)⟩
end Go.Proofs
