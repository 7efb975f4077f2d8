/-
  JournalFills: the walk.
-/
import Derived.Test.YtkoojpaanpmgeaaKj
import Derived.Lib.SlBytesConst
namespace Go.Dk
theorem half_bd {n P : Nat} (h : n = 8 + P) (hP : P < 60) : 192 ≤ 64 * half n ∧ 64 * half n ≤ 2112 := by unfold half; omega
theorem room_eq {n e : Nat} (h : 64 * half n ≤ 2112) : Go.Proofs.Dk.roomZ n e = if 64 * half n < e + 8 then -1 else ((64 * half n - e - 7 : Nat) : Int) := by
  unfold Go.Proofs.Dk.roomZ
  by_cases hc : 64 * half n < e + 8
  · rw [if_pos hc, if_pos (by omega)]
  · rw [if_neg hc, if_neg (by omega)]; omega
theorem body_one (d : List UInt8) : (body [] [d]).length = 7 + d.length := by simp [body, recB_len]
end Go.Dk
namespace Go.Proofs
open Go.RowKit Go.Dk
set_option maxHeartbeats 1000000 in
set_option maxRecDepth 20000 in
theorem Try.journalFillsWalk (b : Int) (v : Value) (l : List UInt8) (w : World) (h1 : -9223372036854775808 ≤ b ∧ b ≤ 9223372036854775807) (hP : Dk.Src w v l) (hl : l.length ≤ 140737488351232) :
    Calls Try.prog 4 #[.int .i64 b, v] w fun e w' => e = .returned (.bool true) ∧ Below w.heap.size w w' := by
  have hfm := Try.formatted_any b h1.1 h1.2 w
  have hp := Dk.pickN_lt b (n := 60) (by omega)
  obtain ⟨n, hn⟩ : ∃ n, n = 8 + Dk.pickN b 60 := ⟨_, rfl⟩
  have hbd := half_bd hn hp
  rw [← hn] at hfm
  have HR : Hid (∀ e, Dk.roomZ n e = if 64 * half n < e + 8 then -1 else ((64 * half n - e - 7 : Nat) : Int)) := fun e => room_eq hbd.2
  have HP : Hid (Dk.Src w v l) := hP
  obtain ⟨ad1, cap1, rfl, -⟩ := hP.ex
  obtain ⟨H, hH⟩ : ∃ H, H = 64 * half n := ⟨_, rfl⟩
  rw [← hH] at hbd HR
  have HH : Hid (H = 64 * half n) := hH
  clear hP hn hp hH
  go_enter Try.func4, Try.ntmps4
  go_upto_region 7 with (first
    | (go_at_call 9; refine hfm.mono ?_; clear hfm; rintro e w1 ⟨x, rfl, hF⟩; have htd := hF.told)
    | (go_at_call 16; refine htd.mono ?_; clear htd; rintro e w2 ⟨y, ad, cap, rfl, hL0⟩; have hL := hL0.box.drop (bs' := [(w2.heap.size, [], [])]) (ss' := []) (fun b e => e) (fun v e => absurd e (by simp)))
    | fail)
  have HL : Hid (Try.Lt w.heap.size w (w2.alloc (.cells #[.string ⟨#[]⟩, .slice ad 0 cap] 28)) n y x 900000 1 0 [] [] [(w2.heap.size, [], [])] []) := hL
  clear hL hL0 hF
  go_cut [42] (fun c wx => ∃ bb : Bool, c = .bool bb ∧ (bb = true → 0 < l.length ∧ l.length + 7 ≤ H) ∧ Try.Lt w.heap.size w wx n y x 900000 1 0 [] [] [(w2.heap.size, [], [])] [])
  case first =>
    by_cases h0 : 0 < l.length
    · have q0 : (0 : Int) < (l.length : Int) := by omega
      have hrm := HL.out.room
      rw [HR.out, show (body [] []).length = 0 from rfl, if_neg (by omega)] at hrm
      go_wp2_with (first
        | (go_at_call 14; refine hrm.mono ?_; clear hrm; rintro e w3 ⟨rfl, hL3⟩)
        | fail)
      go_meet
      case rel => exact ⟨_, rfl, fun e => by simp at e; omega, hL3⟩
    · have q0 : ¬ (0 : Int) < (l.length : Int) := by omega
      go_wp2
      go_meet
      case rel => exact ⟨_, rfl, fun e => by simp at e, HL.out⟩
  case rest =>
    obtain ⟨bb, rfl, hbb, hL⟩ := hcut
    clear HL
    have HBB : Hid (bb = true → 0 < l.length ∧ l.length + 7 ≤ H) := hbb
    have HL : Hid (Try.Lt w.heap.size w wc n y x 900000 1 0 [] [] [(w2.heap.size, [], [])] []) := hL
    clear hbb hL
    go_upto_if 42 with fail
    go_cut [] (fun wx => ∃ recs : List (List UInt8), (body [] recs).length ≤ H ∧ Try.Lt w.heap.size w wx n y x 890000 1 0 [] recs [(w2.heap.size, [], recs)] [])
    case first =>
      cases bb
      · go_wp2
        go_meet
        case rel => exact ⟨[], by simp [body], HL.out.less (by omega)⟩
      · obtain ⟨hb0, hb1⟩ := HBB.out rfl
        have HP2 : Hid (Dk.Src wc (.slice ad1 l.length cap1) l) := HP.out.up HL.out.bel
        have hap := (HL.out.less (q' := 893000 + 3000) (by omega)).append _ l HP2.out (by simp only [Dk.fits, body]; have := HH.out; simp; omega)
        go_wp2_with (first
          | (go_at_call 11; refine hap.mono ?_; clear hap; rintro e w3 ⟨rfl, hL3⟩; obtain ⟨ad3, cap3, hbx, hL3'⟩ := hL3.take (List.mem_singleton.2 rfl); have hwi := hL3'.with (by simp) l; have c0 : w3.cell? ⟨w2.heap.size, 0, none⟩ = some (.string ⟨#[]⟩) := cell_of_row _ _ 0 _ _ _ hbx; have c1 : w3.cell? ⟨w2.heap.size, 1, none⟩ = some (.slice ad3 0 cap3) := cell_of_row _ _ 1 _ _ _ hbx; have hcv := Try.src_conv (HP.out.up hL3.bel) (by omega))
          | (go_at_call 12; refine hwi.mono ?_; clear hwi; rintro e w4 ⟨ad4, cap4, rfl, hL4⟩; obtain ⟨ad5, cap5, hbx4, -⟩ := hL4.take (List.mem_singleton.2 rfl); have c40 : w4.cell? ⟨w2.heap.size, 0, none⟩ = some (.string ⟨#[]⟩) := cell_of_row _ _ 0 _ _ _ hbx4; have c41 : w4.cell? ⟨w2.heap.size, 1, none⟩ = some (.slice ad5 0 cap5) := cell_of_row _ _ 1 _ _ _ hbx4; have f40 := frozen_of_row _ _ 0 _ _ hbx4; have f41 := frozen_of_row _ _ 1 _ _ hbx4; have HL4 : Hid _ := hL4; clear hL4 hbx4)
          | fail)
        go_meet
        case rel => exact ⟨[l], by rw [body_one]; omega, (HL4.out.put (List.mem_singleton.2 rfl) (fun c hc => .inl (List.mem_singleton.1 hc))).solo.less (by omega)⟩
    case rest =>
      obtain ⟨recs, hbl, hL⟩ := hcut
      go_wp2
      go_loopw [10] (fun i wr => ∃ (k : Nat) (rs : List (List UInt8)), i = .int .i64 k ∧ k ≤ 1 ∧ (k = 1 → H < (body [] rs).length + 8) ∧ (body [] rs).length ≤ H ∧ Try.Lt w.heap.size w wr n y x (887000 + 3000 * (1 - k)) 1 0 [] rs [(w2.heap.size, [], rs)] []) (fun i _ => 2 - (intOf i).toNat)
      case atStart => exact ⟨0, recs, rfl, by omega, by omega, hbl, hL⟩
      case round =>
        obtain ⟨k, rs, rfl, hk, hk1, hbl, hL⟩ := hrel
        have HL : Hid (Try.Lt w.heap.size w wr n y x (887000 + 3000 * (1 - k)) 1 0 [] rs [(w2.heap.size, [], rs)] []) := hL
        clear hL
        have hrm := HL.out.room
        rw [HR.out] at hrm
        obtain ⟨E, hE⟩ : ∃ E, E = (body [] rs).length := ⟨_, rfl⟩
        rw [← hE] at hbl hk1 hrm
        have HE : Hid (E = (body [] rs).length) := hE
        clear hE
        have q50 : (k : Int) < 50 := by omega
        by_cases hfull : H < E + 8
        · rw [if_pos hfull] at hrm
          have hrl := HL.out.few
          have hHa : H ≤ 64 * half n := Nat.le_of_eq HH.out
          have hHb : 64 * half n ≤ H := Nat.le_of_eq HH.out.symm
          have hcv := fun (w : World) (C : Array Value) (n c : Nat) => Lib.run_convert_bytes_const (P := Try.prog) w 33 5 C n c Try.underlying33 Try.underlying5
          go_wp2_with (first
            | (go_at_call 14; refine hrm.mono ?_; clear hrm; rintro e w5 ⟨rfl, hL5⟩)
            | (go_at_call 11; refine ((hL5.below ((Below.refl w5.heap.size w5).alloc (Nat.le_refl _) _)).full _ 1 _ (by omega) (by rw [← HE.out]; simp only [Dk.fits, decide_eq_false_iff_not]; omega)).mono ?_; rw [if_neg (by omega)]; rintro e w6 ⟨rfl, hL6⟩; have hrm2 := hL6.room; rw [HR.out, ← HE.out, if_pos hfull] at hrm2; clear hL5 hL6)
            | (go_at_call 14; refine hrm2.mono ?_; clear hrm2; rintro e w7 ⟨rfl, hL7⟩; have htd := hL7.told; clear hL7)
            | (go_at_call 16; refine htd.mono ?_; clear htd; rintro e w8 ⟨y8, ad8, cap8, rfl, -, hL8⟩; have hL9 := hL8.box; obtain ⟨adN, capN, hbN, hLn⟩ := hL9.take (List.mem_cons_of_mem _ (List.mem_singleton.2 rfl)); have d0 := cell_of_row _ _ 0 _ _ _ hbN; have d1 := cell_of_row _ _ 1 _ _ _ hbN; simp only [List.getElem?_toArray, List.getElem?_cons_zero, List.getElem?_cons_succ] at d0 d1; have hsm := hLn.same hrl (List.mem_cons_of_mem _ List.mem_cons_self) List.mem_cons_self; clear hL8 hL9 hLn hbN)
            | (go_at_call 15; refine hsm.mono ?_; clear hsm; rintro e w9 ⟨rfl, hL9⟩; have hrm3 := hL9.room; rw [HR.out, ← HE.out, if_pos hfull] at hrm3; clear hL9)
            | (go_at_call 14; refine hrm3.mono ?_; clear hrm3; rintro e w10 ⟨rfl, hL10⟩)
            | (go_at_call 13; refine (((hL10.less (q' := 884000 + 3000) (by omega)).below ((Below.refl w10.heap.size w10).alloc (Nat.le_refl _) _)).compact _ [98] (Dk.one_src w10 98 _) (by simp; omega) (by omega)).mono ?_; rintro e w11 ⟨rfl, hL11⟩; have htd2 := hL11.told; clear hL10 hL11)
            | (go_at_call 16; refine htd2.mono ?_; clear htd2; rintro e w12 ⟨y12, ad12, cap12, rfl, -, hL12⟩; obtain ⟨adF, capF, hbF, -⟩ := hL12.take List.mem_cons_self; have e0 := cell_of_row _ _ 0 _ _ _ hbF; have e1 := cell_of_row _ _ 1 _ _ _ hbF; simp only [List.getElem?_toArray, List.getElem?_cons_zero, List.getElem?_cons_succ] at e0 e1; have g0 := frozen_of_row _ _ 0 _ _ hbF; have g1 := frozen_of_row _ _ 1 _ _ hbF; have hC := Dk.two_cells hbF (.string ⟨#[98]⟩) (.slice ad12 0 cap12); have i0 := cell_of_row _ _ 0 _ _ _ hC; have i1 := cell_of_row _ _ 1 _ _ _ hC; simp only [List.getElem?_toArray, List.getElem?_cons_zero, List.getElem?_cons_succ] at i0 i1; have hsm2 := (((hL12.put List.mem_cons_self (bs' := []) (fun c hc => absurd hc (by simp))).lit [98]).same (by simp) (List.mem_cons_of_mem _ List.mem_cons_self) List.mem_cons_self); clear hL12 hbF hC)
            | (go_at_call 15; refine hsm2.mono ?_; clear hsm2; rintro e w14 ⟨rfl, hL14⟩)
            | fail)
          go_ret
          exact ⟨by simp, hL14.bel⟩
        · rw [if_neg hfull] at hrm
          obtain rfl : k = 0 := by omega
          obtain ⟨R, hR⟩ : ∃ R, R = H - E - 7 := ⟨_, rfl⟩
          rw [← hR] at hrm
          have q0 : (0 : Int) < (R : Int) := by omega
          have hmk1 : ∀ W : World, (Instr.makeSlice 33 (.int .i64 ((R : Int) + 1)) (.int .i64 ((R : Int) + 1))).run Try.prog W = .ok (.slice (some ⟨W.heap.size, 0, none⟩) (R + 1) (R + 1)) (W.alloc (.cells (Lib.byteCells (List.replicate (R + 1) 0)).toArray 5)) := fun W => Try.run_makeB (R + 1) (by omega) W
          have hmk0 : ∀ W : World, (Instr.makeSlice 33 (.int .i64 (R : Int)) (.int .i64 (R : Int))).run Try.prog W = .ok (.slice (some ⟨W.heap.size, 0, none⟩) R R) (W.alloc (.cells (Lib.byteCells (List.replicate R 0)).toArray 5)) := fun W => Try.run_makeB R (by omega) W
          have hHa : H ≤ 64 * half n := Nat.le_of_eq HH.out
          have hHb : 64 * half n ≤ H := Nat.le_of_eq HH.out.symm
          have hRa : R + E + 7 ≤ H := by omega
          have hRb : H ≤ R + E + 7 := by omega
          have HRR : Hid (R = H - E - 7) := hR
          clear hR
          go_upto_region 21 with (first
            | (go_at_call 14; refine hrm.mono ?_; clear hrm; rintro e w5 ⟨rfl, hL5⟩; have hrm2 := hL5.room; rw [HR.out, ← HE.out, if_neg hfull, ← HRR.out] at hrm2)
            | (go_at_call 14; refine hrm2.mono ?_; clear hrm2; rintro e w6 ⟨rfl, hL6⟩; clear hL5)
            | (at_make; refine Dk.wpList_make rfl 33 (.tmp 65) (.tmp 65) rfl rfl rfl (hmk1 _) ?_)
            | (go_at_call 11; refine ((hL6.below ((Below.refl w6.heap.size w6).alloc (Nat.le_refl _) _)).full _ (R + 1) _ (by omega) (by rw [← HE.out]; simp only [Dk.fits, decide_eq_false_iff_not]; omega)).mono ?_; rw [if_neg (by omega)]; rintro e w7 ⟨rfl, hL7⟩; clear hmk1 hL6)
            | (go_at_call 11; refine (hL7.full none 0 0 (by omega) (by simp [Dk.fits])).mono ?_; rw [if_pos (by simp)]; rintro e w8 ⟨rfl, hL8⟩; clear hL7)
            | (at_make; refine Dk.wpList_make rfl 33 (.tmp 71) (.tmp 71) rfl rfl rfl (hmk0 _) ?_)
            | (go_at_call 11; refine ((hL8.below ((Below.refl w8.heap.size w8).alloc (Nat.le_refl _) _)).append (q := 887000) _ (List.replicate R 0) (Dk.zero_src w8 R) (by rw [← HE.out, List.length_replicate]; simp only [Dk.fits, decide_eq_true_eq]; omega)).mono ?_; rintro e w9 ⟨rfl, hL9⟩; clear hL8)
            | fail)
          obtain ⟨ad9, cap9, hbx9, hL9'⟩ := hL9.take (List.mem_singleton.2 rfl)
          have hrl : rs.length < 1000000 := by have := hL9.few; rw [List.length_append] at this; omega
          have c90 : w9.cell? ⟨w2.heap.size, 0, none⟩ = some (.string ⟨#[]⟩) := cell_of_row _ _ 0 _ _ _ hbx9
          have c91 : w9.cell? ⟨w2.heap.size, 1, none⟩ = some (.slice ad9 rs.length cap9) := cell_of_row _ _ 1 _ _ _ hbx9
          have hblt := Dk.block_lt hbx9
          have HL9 : Hid _ := hL9'
          clear hL9 hL9' hbx9
          have hcz : (convert 33 9 (.slice (some ⟨w9.heap.size, 0, none⟩) R R)).run Try.prog (w9.alloc (.cells (Lib.byteCells (List.replicate R 0)).toArray 5)).drew = .ok (.string ⟨(List.replicate R 0).toArray⟩) (w9.alloc (.cells (Lib.byteCells (List.replicate R 0)).toArray 5)).drew := Try.conv_src ((Dk.zero_src w9 R).up (Below.refl _ _).drew)
          go_region_with (first
            | (go_at_call 12; refine ((HL9.out.below (((Below.refl w9.heap.size w9).alloc (Nat.le_refl _) _).drew)).with hrl (List.replicate R 0)).mono ?_; rintro e w10 ⟨ad10, cap10, rfl, hL10⟩; obtain ⟨ad11, cap11, hbx10, -⟩ := hL10.take (List.mem_singleton.2 rfl); have c100 : w10.cell? ⟨w2.heap.size, 0, none⟩ = some (.string ⟨#[]⟩) := cell_of_row _ _ 0 _ _ _ hbx10; have c101 : w10.cell? ⟨w2.heap.size, 1, none⟩ = some (.slice ad11 rs.length cap11) := cell_of_row _ _ 1 _ _ _ hbx10; have f100 := frozen_of_row _ _ 0 _ _ hbx10; have f101 := frozen_of_row _ _ 1 _ _ hbx10; have HL10 : Hid _ := hL10; clear hL10 hbx10)
            | fail)
          all_goals
            go_wp2
            go_roundw
            case rel =>
              have hbR : (body [] (rs ++ [List.replicate R 0])).length = E + 7 + R := by
                have := HE.out
                simp only [body, List.nil_append, List.flatMap_append, List.flatMap_cons, List.flatMap_nil, List.append_nil, List.length_append, recB_len, List.length_replicate] at this ⊢
                omega
              exact ⟨1, rs ++ [List.replicate R 0], by go_num, by omega, by omega, by omega, (HL10.out.put (List.mem_singleton.2 rfl) (fun c hc => .inl (List.mem_singleton.1 hc))).solo⟩
            case measure => simp [intOf]
end Go.Proofs
