/-
  Laid together by packg.py of TnB TnC TnD.
-/
import Derived.Test.YtcakkkafanpjaaaGreatDoorQaU
import Derived.Test.YtcakkkafanpjaaaGreatDoorQaH
import Derived.Test.YtcakkkafanpjaaaGreatDoorQaO
import Derived.Lib.ItoaLen
namespace Go.Proofs
open Go.RowKit Go.Jv
set_option maxRecDepth 20000 in
set_option maxHeartbeats 8000000 in
theorem Tryz.rquote_any (B n : Nat) (v : Value) (xs : List Value) (w : World) (hrow : w.ownsRow B 5 1 v n xs) (hB : B ≤ w.heap.size) (s : ByteArray) (hlen : n + 6 * s.size ≤ 900000000) :
    Calls Tryz.prog 85 #[v, .string s] w fun en w' => Tryz.Put B n xs (qText s) w en w' := by
  obtain ⟨i0, hi0, hz0, hz1, hz2⟩ := info_parts Tryz.info_u8
  go_enter Tryz.func85, Tryz.ntmps85
  go_wp2_with (first | (at_builtin; refine Tryz.app_new rfl _ _ rfl B v n xs rfl w hrow hB [.int .u8 34] 1 rfl rfl (by decide) (by omega) (by simp [Value.oneCell']) ?_; intro v1 w1 hown1 hbe1) | fail)
  go_loopw [0, 6] (fun b i wr => ∃ k : Nat, k ≤ s.size ∧ i = .int .i64 k ∧ wr.ownsRow B 5 1 b (n + (34 :: qBytes (s.data.toList.take k)).length) (xs ++ Lib.byteCells (34 :: qBytes (s.data.toList.take k))) ∧ Below B w wr) (fun _ i _ => s.size - (intOf i).toNat)
  case atStart => exact ⟨0, Nat.zero_le _, rfl, hown1, hbe1⟩
  case round =>
    obtain ⟨k, hk, rfl, hown, hbe⟩ := hrel
    have hql := Jv.qBytes_len (s.data.toList.take k)
    have hkl : (s.data.toList.take k).length ≤ k := List.length_take_le _ _
    have hBr : B ≤ wr.heap.size := Nat.le_trans hB hbe.size
    have HBE : Hid (Below B w wr) := hbe
    obtain ⟨N, hN⟩ : ∃ N, n + (34 :: qBytes (s.data.toList.take k)).length = N := ⟨_, rfl⟩
    obtain ⟨X, hX⟩ : ∃ X, xs ++ Lib.byteCells (34 :: qBytes (s.data.toList.take k)) = X := ⟨_, rfl⟩
    have hNb : N ≤ 900000001 := by rw [← hN]; simp; omega
    rw [hN, hX] at hown
    have HN : Hid (n + (34 :: qBytes (s.data.toList.take k)).length = N) := hN
    have HX : Hid (xs ++ Lib.byteCells (34 :: qBytes (s.data.toList.take k)) = X) := hX
    clear hN hX hbe hql hkl
    by_cases hlt : k < s.size
    · have hg := Jv.get_eq s k hlt
      have HQ : Hid (qBytes (s.data.toList.take (k + 1)) = qBytes (s.data.toList.take k) ++ qByte (s.get! k)) := Jv.qBytes_snoc s k hlt
      generalize s.get! k = c at *
      by_cases h34 : c = 34
      · subst h34
        have HC : Hid (qByte 34 = [92, 34]) := (by show qByte 34 = [92, 34]; decide)
        go_wp2_with (first | (at_builtin; refine Tryz.app_new rfl _ _ rfl B u0 N X (by rfl) wr hown hBr [.int .u8 92, .int .u8 34] 2 rfl (by rfl) (by decide) (by omega) (by simp [Value.oneCell']) ?_; intro v2 w2 hown2 hbe2) | fail)
        go_roundw
        case rel =>
          refine ⟨k + 1, by omega, by go_num, ?_, HBE.out.trans hbe2⟩
          rw [HQ.out, HC.out]
          have e1 : n + (34 :: (qBytes (s.data.toList.take k) ++ [92, 34])).length = N + 2 := by rw [← HN.out]; simp; omega
          have e2 : xs ++ Lib.byteCells (34 :: (qBytes (s.data.toList.take k) ++ [92, 34])) = X ++ [.int .u8 92, .int .u8 34] := by rw [← HX.out]; simp [Lib.byteCells]
          rw [e1, e2]
          exact hown2
        case measure => simp [intOf]; omega
      · skip
        by_cases h92 : c = 92
        · subst h92
          clear h34
          have HC : Hid (qByte 92 = [92, 92]) := (by show qByte 92 = [92, 92]; decide)
          go_wp2_with (first | (at_builtin; refine Tryz.app_new rfl _ _ rfl B u0 N X (by rfl) wr hown hBr [.int .u8 92, .int .u8 92] 2 rfl (by rfl) (by decide) (by omega) (by simp [Value.oneCell']) ?_; intro v2 w2 hown2 hbe2) | fail)
          go_roundw
          case rel =>
            refine ⟨k + 1, by omega, by go_num, ?_, HBE.out.trans hbe2⟩
            rw [HQ.out, HC.out]
            have e1 : n + (34 :: (qBytes (s.data.toList.take k) ++ [92, 92])).length = N + 2 := by rw [← HN.out]; simp; omega
            have e2 : xs ++ Lib.byteCells (34 :: (qBytes (s.data.toList.take k) ++ [92, 92])) = X ++ [.int .u8 92, .int .u8 92] := by rw [← HX.out]; simp [Lib.byteCells]
            rw [e1, e2]
            exact hown2
          case measure => simp [intOf]; omega
        · skip
          by_cases h8 : c = 8
          · subst h8
            clear h34 h92
            have HC : Hid (qByte 8 = [92, 98]) := (by show qByte 8 = [92, 98]; decide)
            go_wp2_with (first | (at_builtin; refine Tryz.app_new rfl _ _ rfl B u0 N X (by rfl) wr hown hBr [.int .u8 92, .int .u8 98] 2 rfl (by rfl) (by decide) (by omega) (by simp [Value.oneCell']) ?_; intro v2 w2 hown2 hbe2) | fail)
            go_roundw
            case rel =>
              refine ⟨k + 1, by omega, by go_num, ?_, HBE.out.trans hbe2⟩
              rw [HQ.out, HC.out]
              have e1 : n + (34 :: (qBytes (s.data.toList.take k) ++ [92, 98])).length = N + 2 := by rw [← HN.out]; simp; omega
              have e2 : xs ++ Lib.byteCells (34 :: (qBytes (s.data.toList.take k) ++ [92, 98])) = X ++ [.int .u8 92, .int .u8 98] := by rw [← HX.out]; simp [Lib.byteCells]
              rw [e1, e2]
              exact hown2
            case measure => simp [intOf]; omega
          · skip
            by_cases h12 : c = 12
            · subst h12
              clear h34 h92 h8
              have HC : Hid (qByte 12 = [92, 102]) := (by show qByte 12 = [92, 102]; decide)
              go_wp2_with (first | (at_builtin; refine Tryz.app_new rfl _ _ rfl B u0 N X (by rfl) wr hown hBr [.int .u8 92, .int .u8 102] 2 rfl (by rfl) (by decide) (by omega) (by simp [Value.oneCell']) ?_; intro v2 w2 hown2 hbe2) | fail)
              go_roundw
              case rel =>
                refine ⟨k + 1, by omega, by go_num, ?_, HBE.out.trans hbe2⟩
                rw [HQ.out, HC.out]
                have e1 : n + (34 :: (qBytes (s.data.toList.take k) ++ [92, 102])).length = N + 2 := by rw [← HN.out]; simp; omega
                have e2 : xs ++ Lib.byteCells (34 :: (qBytes (s.data.toList.take k) ++ [92, 102])) = X ++ [.int .u8 92, .int .u8 102] := by rw [← HX.out]; simp [Lib.byteCells]
                rw [e1, e2]
                exact hown2
              case measure => simp [intOf]; omega
            · skip
              by_cases h10 : c = 10
              · subst h10
                clear h34 h92 h8 h12
                have HC : Hid (qByte 10 = [92, 110]) := (by show qByte 10 = [92, 110]; decide)
                go_wp2_with (first | (at_builtin; refine Tryz.app_new rfl _ _ rfl B u0 N X (by rfl) wr hown hBr [.int .u8 92, .int .u8 110] 2 rfl (by rfl) (by decide) (by omega) (by simp [Value.oneCell']) ?_; intro v2 w2 hown2 hbe2) | fail)
                go_roundw
                case rel =>
                  refine ⟨k + 1, by omega, by go_num, ?_, HBE.out.trans hbe2⟩
                  rw [HQ.out, HC.out]
                  have e1 : n + (34 :: (qBytes (s.data.toList.take k) ++ [92, 110])).length = N + 2 := by rw [← HN.out]; simp; omega
                  have e2 : xs ++ Lib.byteCells (34 :: (qBytes (s.data.toList.take k) ++ [92, 110])) = X ++ [.int .u8 92, .int .u8 110] := by rw [← HX.out]; simp [Lib.byteCells]
                  rw [e1, e2]
                  exact hown2
                case measure => simp [intOf]; omega
              · skip
                by_cases h13 : c = 13
                · subst h13
                  clear h34 h92 h8 h12 h10
                  have HC : Hid (qByte 13 = [92, 114]) := (by show qByte 13 = [92, 114]; decide)
                  go_wp2_with (first | (at_builtin; refine Tryz.app_new rfl _ _ rfl B u0 N X (by rfl) wr hown hBr [.int .u8 92, .int .u8 114] 2 rfl (by rfl) (by decide) (by omega) (by simp [Value.oneCell']) ?_; intro v2 w2 hown2 hbe2) | fail)
                  go_roundw
                  case rel =>
                    refine ⟨k + 1, by omega, by go_num, ?_, HBE.out.trans hbe2⟩
                    rw [HQ.out, HC.out]
                    have e1 : n + (34 :: (qBytes (s.data.toList.take k) ++ [92, 114])).length = N + 2 := by rw [← HN.out]; simp; omega
                    have e2 : xs ++ Lib.byteCells (34 :: (qBytes (s.data.toList.take k) ++ [92, 114])) = X ++ [.int .u8 92, .int .u8 114] := by rw [← HX.out]; simp [Lib.byteCells]
                    rw [e1, e2]
                    exact hown2
                  case measure => simp [intOf]; omega
                · skip
                  by_cases h9 : c = 9
                  · subst h9
                    clear h34 h92 h8 h12 h10 h13
                    have HC : Hid (qByte 9 = [92, 116]) := (by show qByte 9 = [92, 116]; decide)
                    go_wp2_with (first | (at_builtin; refine Tryz.app_new rfl _ _ rfl B u0 N X (by rfl) wr hown hBr [.int .u8 92, .int .u8 116] 2 rfl (by rfl) (by decide) (by omega) (by simp [Value.oneCell']) ?_; intro v2 w2 hown2 hbe2) | fail)
                    go_roundw
                    case rel =>
                      refine ⟨k + 1, by omega, by go_num, ?_, HBE.out.trans hbe2⟩
                      rw [HQ.out, HC.out]
                      have e1 : n + (34 :: (qBytes (s.data.toList.take k) ++ [92, 116])).length = N + 2 := by rw [← HN.out]; simp; omega
                      have e2 : xs ++ Lib.byteCells (34 :: (qBytes (s.data.toList.take k) ++ [92, 116])) = X ++ [.int .u8 92, .int .u8 116] := by rw [← HX.out]; simp [Lib.byteCells]
                      rw [e1, e2]
                      exact hown2
                    case measure => simp [intOf]; omega
                  · skip
                    have n34 : (((c.toNat : Nat) : Int) == 34) = false := beq_eq_false_iff_ne.2 fun e => h34 (UInt8.toNat_inj.1 (by show c.toNat = 34; omega))
                    have n92 : (((c.toNat : Nat) : Int) == 92) = false := beq_eq_false_iff_ne.2 fun e => h92 (UInt8.toNat_inj.1 (by show c.toNat = 92; omega))
                    have n8 : (((c.toNat : Nat) : Int) == 8) = false := beq_eq_false_iff_ne.2 fun e => h8 (UInt8.toNat_inj.1 (by show c.toNat = 8; omega))
                    have n12 : (((c.toNat : Nat) : Int) == 12) = false := beq_eq_false_iff_ne.2 fun e => h12 (UInt8.toNat_inj.1 (by show c.toNat = 12; omega))
                    have n10 : (((c.toNat : Nat) : Int) == 10) = false := beq_eq_false_iff_ne.2 fun e => h10 (UInt8.toNat_inj.1 (by show c.toNat = 10; omega))
                    have n13 : (((c.toNat : Nat) : Int) == 13) = false := beq_eq_false_iff_ne.2 fun e => h13 (UInt8.toNat_inj.1 (by show c.toNat = 13; omega))
                    have n9 : (((c.toNat : Nat) : Int) == 9) = false := beq_eq_false_iff_ne.2 fun e => h9 (UInt8.toNat_inj.1 (by show c.toNat = 9; omega))
                    by_cases h32 : c < 32
                    · obtain ⟨a, ha⟩ : ∃ a, a = c.toNat / 16 := ⟨_, rfl⟩
                      obtain ⟨d, hd⟩ : ∃ d, d = c.toNat % 16 := ⟨_, rfl⟩
                      have n32 : (c.toNat : Int) < 32 := by have h := h32; rw [UInt8.lt_iff_toNat_lt] at h; have e : (32 : UInt8).toNat = 32 := rfl; omega
                      have hd16 : d < 16 := by omega
                      have ha16 : a < 16 := by omega
                      have hd0 : (0 : Int) ≤ (d : Int) := by omega
                      have hd1 : (d : Int) < 16 := by omega
                      have ha0 : (0 : Int) ≤ (a : Int) := by omega
                      have ha1 : (a : Int) < 16 := by omega
                      have hsh : (c.toNat : Int) / 16 = (a : Int) := by omega
                      have hmd : (c.toNat : Int) % 16 = (d : Int) := by omega
                      have hwa : IntKind.u8.wrap (a : Int) = (a : Int) := by rw [IntKind.wrap_u8]; omega
                      have hwd : IntKind.u8.wrap (d : Int) = (d : Int) := by rw [IntKind.wrap_u8]; omega
                      have htd : (c.toNat : Int).tdiv 16 = (a : Int) := by rw [Int.tdiv_eq_ediv_of_nonneg (by omega)]; exact hsh
                      have htm : (c.toNat : Int).tmod 16 = (d : Int) := by rw [Int.tmod_eq_emod_of_nonneg (by omega)]; exact hmd
                      have HC : Hid (qByte c = [92, 117, 48, 48, (⟨#[48, 49, 50, 51, 52, 53, 54, 55, 56, 57, 97, 98, 99, 100, 101, 102]⟩ : ByteArray)[a]'ha16, (⟨#[48, 49, 50, 51, 52, 53, 54, 55, 56, 57, 97, 98, 99, 100, 101, 102]⟩ : ByteArray)[d]'hd16]) := (by
                        show qByte c = _
                        unfold qByte
                        rw [if_neg (by rintro (e | e); exact h34 e; exact h92 e), if_neg h8, if_neg h12, if_neg h10, if_neg h13, if_neg h9, if_pos h32, ← ha, ← hd, Jv.hex_at a ha16, Jv.hex_at d hd16]
                        simp [List.getD_eq_getElem?_getD])
                      clear ha hd h34 h92 h8 h12 h10 h13 h9 h32
                      go_wp2_with fail
                      go_region_law (first
                        | (refine step_append_lies _ (by rfl) _ _ _ (by rfl) B 5 i0 _ 1 1 Tryz.underlying22 hi0 hz0 hz1 hz2 rfl (by omega) u0 N X (by rfl) (Jv.row_alloc (Jv.row_kept (w' := wr.drew) hown (fun _ _ _ => rfl)) _) ⟨wr.heap.size, 0, none⟩ 6 6 _ (by rfl) (by rfl) (World.news_of_block (t := 5) (fr := (0, 0)) (heap_alloc_new wr.drew _)) (by simp [Value.oneCell']) (by omega) (by unfold maxLen; omega) (by omega) (by simp; omega) (wr.heap.size + 1) (by simp) ?_; intro g cap w' hown2 hg2 hat hlt)
                        | fail)
                      all_goals
                        have HB2 : Hid (Below B wr w') := Jv.below_grown (w1 := wr) ⟨hg2.os, hg2.tape, hg2.output, hg2.size, hg2.block⟩ hBr (Jv.row_block hown)
                        go_wp2
                        go_roundw
                        case rel =>
                          refine ⟨k + 1, by omega, by go_num, ?_, HBE.out.trans HB2.out⟩
                          rw [HQ.out, HC.out]
                          have e1 : n + (34 :: (qBytes (s.data.toList.take k) ++ [92, 117, 48, 48, (⟨#[48, 49, 50, 51, 52, 53, 54, 55, 56, 57, 97, 98, 99, 100, 101, 102]⟩ : ByteArray)[a]'ha16, (⟨#[48, 49, 50, 51, 52, 53, 54, 55, 56, 57, 97, 98, 99, 100, 101, 102]⟩ : ByteArray)[d]'hd16])).length = N + 6 := by rw [← HN.out]; simp; omega
                          have e2 : xs ++ Lib.byteCells (34 :: (qBytes (s.data.toList.take k) ++ [92, 117, 48, 48, (⟨#[48, 49, 50, 51, 52, 53, 54, 55, 56, 57, 97, 98, 99, 100, 101, 102]⟩ : ByteArray)[a]'ha16, (⟨#[48, 49, 50, 51, 52, 53, 54, 55, 56, 57, 97, 98, 99, 100, 101, 102]⟩ : ByteArray)[d]'hd16])) = X ++ Lib.byteCells [92, 117, 48, 48, (⟨#[48, 49, 50, 51, 52, 53, 54, 55, 56, 57, 97, 98, 99, 100, 101, 102]⟩ : ByteArray)[a]'ha16, (⟨#[48, 49, 50, 51, 52, 53, 54, 55, 56, 57, 97, 98, 99, 100, 101, 102]⟩ : ByteArray)[d]'hd16] := by rw [← HX.out]; simp [Lib.byteCells]
                          rw [e1, e2]
                          exact hown2
                        case measure => simp [intOf]; omega
                    · have HC : Hid (qByte c = [c]) := Jv.qByte_plain h32 h34 h92
                      have n32 : (32 : Int) ≤ (c.toNat : Int) := by have h := h32; rw [UInt8.lt_iff_toNat_lt] at h; have e : (32 : UInt8).toNat = 32 := rfl; omega
                      clear h34 h92 h8 h12 h10 h13 h9 h32
                      go_wp2_with (first | (at_builtin; refine Tryz.app_new rfl _ _ rfl B u0 N X (by rfl) wr hown hBr [.int .u8 c.toNat] 1 rfl (by rfl) (by decide) (by omega) (by simp [Value.oneCell']) ?_; intro v2 w2 hown2 hbe2) | fail)
                      go_roundw
                      case rel =>
                        refine ⟨k + 1, by omega, by go_num, ?_, HBE.out.trans hbe2⟩
                        rw [HQ.out, HC.out]
                        have e1 : n + (34 :: (qBytes (s.data.toList.take k) ++ [c])).length = N + 1 := by rw [← HN.out]; simp; omega
                        have e2 : xs ++ Lib.byteCells (34 :: (qBytes (s.data.toList.take k) ++ [c])) = X ++ [.int .u8 c.toNat] := by rw [← HX.out]; simp [Lib.byteCells]
                        rw [e1, e2]
                        exact hown2
                      case measure => simp [intOf]; omega
    · obtain rfl : k = s.size := by omega
      have HSL : Hid (s.data.toList.take s.size = s.data.toList) := List.take_of_length_le (by rw [Array.length_toList]; exact Nat.le_refl _)
      go_wp2_with (first | (at_builtin; refine Tryz.app_new rfl _ _ rfl B u0 N X (by rfl) wr hown hBr [.int .u8 34] 1 rfl (by rfl) (by decide) (by omega) (by simp [Value.oneCell']) ?_; intro v2 w2 hown2 hbe2) | fail)
      go_ret
      refine ⟨v2, rfl, ?_, HBE.out.trans hbe2⟩
      have hN := HN.out
      have hX := HX.out
      rw [HSL.out] at hN hX
      have e1 : n + (qText s).length = N + 1 := by rw [← hN]; simp [qText]; omega
      have e2 : xs ++ Lib.byteCells (qText s) = X ++ [.int .u8 34] := by rw [← hX]; simp [Lib.byteCells, qText]
      rw [e1, e2]
      exact hown2
end Go.Proofs
namespace Go.Jv
open Go.RowKit
def tenL : ByteArray := ⟨#[48, 49, 50, 51, 52, 53, 54, 55, 56, 57]⟩
theorem ten_at : ∀ d, d < 10 → tenL.extract d (d + 1) = ⟨#[UInt8.ofNat (48 + d)]⟩ := by decide
theorem dec_dz (n : Nat) : Lib.decDigits n = dz (n / 10) ++ [UInt8.ofNat (48 + n % 10)] := by
  by_cases h : n = 0
  · subst h; rw [Lib.decDigits, dif_pos (by decide)]; rfl
  · rw [← dz_step n h]; unfold dz; rw [if_neg h]
theorem cat2 (a b : List UInt8) : (⟨a.toArray⟩ : ByteArray) ++ ⟨b.toArray⟩ = ⟨(a ++ b).toArray⟩ := by
  apply ByteArray.ext
  simp [ByteArray.data_append]
end Go.Jv
namespace Go.Proofs
open Go.RowKit Go.Jv
set_option maxRecDepth 20000 in
set_option maxHeartbeats 2000000 in
theorem Tryz.rdigits_any (n : Nat) (hn : n ≤ 9223372036854775807) (w : World) :
    Calls Tryz.prog 84 #[.int .i64 n] w fun e w' => e = .returned (.string ⟨(Lib.itoa n).toArray⟩) ∧ w' = w := by
  rw [Lib.itoa_nonneg]
  obtain ⟨d, hd⟩ : ∃ d, n % 10 = d := ⟨_, rfl⟩
  obtain ⟨m0, hm0⟩ : ∃ m, n / 10 = m := ⟨_, rfl⟩
  have HD : Hid (Lib.decDigits n = dz m0 ++ [UInt8.ofNat (48 + d)]) := (by rw [← hd, ← hm0]; exact dec_dz n)
  have hmd : (n : Int) % 10 = (d : Int) := by omega
  have htm : (n : Int).tmod 10 = (d : Int) := by rw [Int.tmod_eq_emod_of_nonneg (by omega)]; exact hmd
  have hdv : (n : Int) / 10 = (m0 : Int) := by omega
  have htd : (n : Int).tdiv 10 = (m0 : Int) := by rw [Int.tdiv_eq_ediv_of_nonneg (by omega)]; exact hdv
  have d0 : (0 : Int) ≤ (d : Int) := by omega
  have d1 : (d : Int) < 10 := by omega
  have HT : Hid (tenL.extract d (d + 1) = ⟨#[UInt8.ofNat (48 + d)]⟩) := ten_at d (by omega)
  have hmn : m0 ≤ 9223372036854775807 := by omega
  clear hd hm0
  go_enter Tryz.func84, Tryz.ntmps84
  go_wp2
  have HL : Hid ((Lib.decDigits n).length ≤ 21) := (by
    have := Lib.itoa_length_le (n : Int) (by omega) (by omega)
    rw [Lib.itoa_nonneg] at this
    exact this)
  go_loopw [0, 3] (fun nv sv wr => ∃ (m : Nat) (s : List UInt8), nv = .int .i64 m ∧ sv = .string ⟨s.toArray⟩ ∧ m ≤ 9223372036854775807 ∧ Lib.decDigits n = dz m ++ s ∧ wr = w) (fun nv _ _ => (intOf nv).toNat)
  case atStart => exact ⟨m0, [UInt8.ofNat (48 + d)], rfl, by have h := HT.out; unfold tenL at h; rw [h], hmn, HD.out, rfl⟩
  case round =>
    obtain ⟨m, s, rfl, rfl, hm, hs, rfl⟩ := hrel
    have hsl : s.length ≤ 21 := by have := HL.out; rw [hs, List.length_append] at this; omega
    have hsz : (⟨s.toArray⟩ : ByteArray).size = s.length := by show s.toArray.size = _; simp
    have HS : Hid (Lib.decDigits n = dz m ++ s) := hs
    clear hs hmd htm hdv htd d0 d1 HT HD
    by_cases h0 : m = 0
    · subst h0
      have HS2 : Hid (Lib.decDigits n = s) := (by have h := HS.out; have e : dz 0 = [] := rfl; rw [e, List.nil_append] at h; exact h)
      clear HS
      go_wp2
      go_ret
      exact ⟨by rw [HS2.out]; rfl, rfl⟩
    · obtain ⟨d2, hd⟩ : ∃ d, m % 10 = d := ⟨_, rfl⟩
      obtain ⟨m2, hm2⟩ : ∃ m', m / 10 = m' := ⟨_, rfl⟩
      have HD2 : Hid (dz m = dz m2 ++ [UInt8.ofNat (48 + d2)]) := (by rw [← hd, ← hm2]; exact dz_step m h0)
      have hmd : (m : Int) % 10 = (d2 : Int) := by omega
      have htm : (m : Int).tmod 10 = (d2 : Int) := by rw [Int.tmod_eq_emod_of_nonneg (by omega)]; exact hmd
      have hdv : (m : Int) / 10 = (m2 : Int) := by omega
      have htd : (m : Int).tdiv 10 = (m2 : Int) := by rw [Int.tdiv_eq_ediv_of_nonneg (by omega)]; exact hdv
      have d0 : (0 : Int) ≤ (d2 : Int) := by omega
      have d1 : (d2 : Int) < 10 := by omega
      have g0 : (0 : Int) < (m : Int) := by omega
      have HT : Hid (tenL.extract d2 (d2 + 1) = ⟨#[UInt8.ofNat (48 + d2)]⟩) := ten_at d2 (by omega)
      have HML : Hid (m2 < m ∧ m2 ≤ 9223372036854775807) := ⟨by omega, by omega⟩
      clear hd hm2 h0
      go_wp2
      go_roundw
      case rel => exact ⟨m2, UInt8.ofNat (48 + d2) :: s, rfl, by have h := HT.out; unfold tenL at h; rw [h, show (⟨#[UInt8.ofNat (48 + d2)]⟩ : ByteArray) = ⟨[UInt8.ofNat (48 + d2)].toArray⟩ from rfl, cat2]; rfl, HML.out.2, by rw [HS.out, HD2.out, List.append_assoc]; rfl, trivial⟩
      case measure => have := HML.out; simp [intOf]; omega
end Go.Proofs
namespace Go.Proofs
open Go.RowKit Go.Jv
/-- What the document's 'write' does with a value. -/
def Tryz.RPr (v : V) : Prop := ∀ (B n : Nat) (bv : Value) (xs : List Value) (w : World) (x : Nat), Tryz.Td w (fun g => g < B) v x → w.ownsRow B 5 1 bv n xs → B ≤ w.heap.size → n + 6 * (pr v).length ≤ 900000000 →
    Calls Tryz.prog 60 #[.pointer (some ⟨x, 0, none⟩), bv] w fun en w' => Tryz.Put B n xs (pr v) w en w'
set_option maxRecDepth 20000 in
set_option maxHeartbeats 4000000 in
theorem Tryz.rpr_scalar (v : V) (hv : ∀ l, v ≠ .list l) (hv2 : ∀ ks l, v ≠ .obj ks l) : Tryz.RPr v := by
  intro B n bv xs w x hTr hrow hB hlen
  cases v with
  | null =>
    obtain ⟨_, hvb⟩ := hTr
    have hk := Tryz.rKind hvb
    go_enter Tryz.func60, Tryz.ntmps60
    go_wp2_with (first | (go_at_call 31; refine hk.mono ?_; rintro e1 w1 ⟨rfl, rfl⟩) | (at_builtin; refine Tryz.app_str rfl _ _ rfl B bv n xs (by rfl) _ hrow hB ⟨#[110, 117, 108, 108]⟩ (by rfl) (by show n + 4 ≤ _; omega) ?_; intro v' w' hown hbe) | fail)
    go_ret
    exact ⟨v', rfl, hown, hbe⟩
  | bool t =>
    obtain ⟨_, hvb⟩ := hTr
    have hk := Tryz.rKind hvb
    have hc1 := hvb.c1
    clear hvb
    cases t
    · go_enter Tryz.func60, Tryz.ntmps60
      go_wp2_with (first | (go_at_call 31; refine hk.mono ?_; rintro e1 w1 ⟨rfl, rfl⟩) | (at_builtin; refine Tryz.app_str rfl _ _ rfl B bv n xs (by rfl) _ hrow hB ⟨#[102, 97, 108, 115, 101]⟩ (by rfl) (by show n + 5 ≤ _; omega) ?_; intro v' w' hown hbe) | fail)
      go_ret
      exact ⟨v', rfl, hown, hbe⟩
    · go_enter Tryz.func60, Tryz.ntmps60
      go_wp2_with (first | (go_at_call 31; refine hk.mono ?_; rintro e1 w1 ⟨rfl, rfl⟩) | (at_builtin; refine Tryz.app_str rfl _ _ rfl B bv n xs (by rfl) _ hrow hB ⟨#[116, 114, 117, 101]⟩ (by rfl) (by show n + 4 ≤ _; omega) ?_; intro v' w' hown hbe) | fail)
      go_ret
      exact ⟨v', rfl, hown, hbe⟩
  | int m =>
    obtain ⟨⟨hxB, hm1, hm2⟩, hvb⟩ := hTr
    have hxB : x < B := hxB
    unfold maxInt at hm1 hm2
    have hk := (Tryz.rKind hvb).mono fun e w' (h : e = .returned (.int .i64 2) ∧ w' = w) => (And.intro h.1 h.2.symm : e = .returned (.int .i64 2) ∧ w = w')
    have hc2 := hvb.c2
    clear hvb
    have hpl : (pr (.int m)).length = (Lib.itoa m).length := rfl
    rw [hpl] at hlen
    show Calls _ _ _ _ fun en w' => Tryz.Put B n xs (Lib.itoa m) w en w'
    by_cases hm : m < 0
    · obtain ⟨k, rfl⟩ : ∃ k : Nat, m = -(k : Int) := ⟨m.natAbs, by omega⟩
      have HIT : Hid (Lib.itoa (-(k : Int)) = 45 :: Lib.decDigits k) := Lib.itoa_neg k (by omega)
      rw [HIT.out] at hlen ⊢
      have kd : ∀ W, Calls Tryz.prog 84 #[.int .i64 k] W fun e w' => e = .returned (.string ⟨(Lib.decDigits k).toArray⟩) ∧ w' = W := fun W => (by have h := Tryz.rdigits_any k (by omega) W; rw [Lib.itoa_nonneg] at h; exact h)
      have k0 : -(k : Int) < 0 := hm
      have k1 : (1 : Int) ≤ (k : Int) := by omega
      have k2 : (k : Int) ≤ 9223372036854775807 := by omega
      have hdl : (⟨(Lib.decDigits k).toArray⟩ : ByteArray).size = (Lib.decDigits k).length := by show (Lib.decDigits k).toArray.size = _; simp
      have hlen2 : n + 1 + (Lib.decDigits k).length ≤ 140737488355328 := by simp at hlen; omega
      have hn9 : n ≤ 900000000 := by omega
      clear hlen hpl hm hm1 hm2
      generalize Lib.decDigits k = L at *
      go_enter Tryz.func60, Tryz.ntmps60
      go_upto_region 11 with (first | (go_at_call 31; refine hk.mono ?_; rintro e1 w1 ⟨rfl, rfl⟩) | (at_builtin; refine Tryz.app_new rfl _ _ rfl B bv n xs rfl _ hrow hB [.int .u8 45] 1 rfl rfl (by decide) (by omega) (by simp [Value.oneCell']) ?_; intro v1 w1 hown1 hbe1) | fail)
      have hc3 := (hbe1.cell (p := ⟨x, 2, none⟩) hxB).trans hc2
      have HBE : Hid (Below B w w1) := hbe1
      have hB1 : B ≤ w1.heap.size := Nat.le_trans hB hbe1.size
      clear hbe1 hc2
      go_wp2_with (first | (go_at_call 84; refine (kd _).mono ?_; rintro e2 w2 ⟨rfl, rfl⟩) | (at_builtin; refine Tryz.app_str rfl _ _ rfl B v1 (n + 1) _ (by rfl) _ hown1 hB1 ⟨L.toArray⟩ (by rfl) (by rw [hdl]; omega) ?_; intro v' w' hown hbe) | fail)
      go_ret
      refine ⟨v', rfl, ?_, HBE.out.trans hbe⟩
      have e1 : n + (45 :: L).length = n + 1 + (⟨L.toArray⟩ : ByteArray).size := by rw [hdl]; simp; omega
      have e2 : xs ++ Lib.byteCells (45 :: L) = xs ++ [.int .u8 45] ++ Lib.byteCells (⟨L.toArray⟩ : ByteArray).data.toList := by simp [Lib.byteCells]
      rw [e1, e2]
      exact hown
    · obtain ⟨k, rfl⟩ : ∃ k : Nat, m = (k : Int) := ⟨m.toNat, by omega⟩
      rw [Lib.itoa_nonneg] at hlen ⊢
      have kd : ∀ W, Calls Tryz.prog 84 #[.int .i64 k] W fun e w' => e = .returned (.string ⟨(Lib.decDigits k).toArray⟩) ∧ w' = W := fun W => (by have h := Tryz.rdigits_any k (by omega) W; rw [Lib.itoa_nonneg] at h; exact h)
      have k1 : (0 : Int) ≤ (k : Int) := by omega
      have hdl : (⟨(Lib.decDigits k).toArray⟩ : ByteArray).size = (Lib.decDigits k).length := by show (Lib.decDigits k).toArray.size = _; simp
      have hlen2 : n + (Lib.decDigits k).length ≤ 140737488355328 := by omega
      clear hlen hpl hm hm1 hm2
      generalize Lib.decDigits k = L at *
      go_enter Tryz.func60, Tryz.ntmps60
      go_wp2_with (first | (go_at_call 31; refine hk.mono ?_; rintro e1 w1 ⟨rfl, rfl⟩) | (go_at_call 84; refine (kd _).mono ?_; rintro e2 w2 ⟨rfl, rfl⟩) | (at_builtin; refine Tryz.app_str rfl _ _ rfl B bv n xs (by rfl) _ hrow hB ⟨L.toArray⟩ (by rfl) (by rw [hdl]; omega) ?_; intro v' w' hown hbe) | fail)
      go_ret
      refine ⟨v', rfl, ?_, hbe⟩
      rw [hdl] at hown
      exact hown
  | text s =>
    obtain ⟨_, hvb⟩ := hTr
    have hk := Tryz.rKind hvb
    have hc3 := hvb.c3
    have hql : s.size ≤ (pr (.text s)).length := Jv.qText_len s
    have hap := Tryz.rquote_any B n bv xs w hrow hB s (by omega)
    clear hvb
    go_enter Tryz.func60, Tryz.ntmps60
    go_wp2_with (first | (go_at_call 31; refine hk.mono ?_; rintro e1 w1 ⟨rfl, rfl⟩) | (go_at_call 85; refine hap.mono ?_; rintro e2 w2 ⟨v', rfl, hown, hbe⟩) | fail)
    go_ret
    exact ⟨v', rfl, hown, hbe⟩
  | list l => exact absurd rfl (hv l)
  | obj ks l => exact absurd rfl (hv2 ks l)
end Go.Proofs
