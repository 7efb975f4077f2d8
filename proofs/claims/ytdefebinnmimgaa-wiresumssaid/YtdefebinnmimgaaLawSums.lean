/-
  WireSums: the walk.
-/
import Derived.Test.YtdefebinnmimgaaVl
import Derived.Deep.DeepCutAuto
namespace Go.Proofs
open Go.RowKit Go.Wi
theorem Wi.app_bytes (b : List UInt8) : (ByteArray.mk b.toArray) ++ (ByteArray.mk #[0, 0, 0, 0]) = ⟨(b ++ List.replicate 4 0).toArray⟩ := by
  apply ByteArray.ext
  simp [ByteArray.data_append]
theorem Try.sumOf {w : World} {g : Nat} {c b : List UInt8} (h : w.heap[g]? = some (.cells (Lib.byteCells c).toArray 5 (0, 0))) (hl : c.length = b.length) (hb : b.length ≤ 140737488351232) :
    Calls Try.prog 10 #[.slice (some ⟨g, 0, none⟩) b.length b.length] w fun e w' => e = .returned (.int .u32 (Wi.sum c)) ∧ w' = w := by
  have h1 := Try.sum_any (Wi.bs_block h b.length b.length (by omega) (by omega)) (by rw [List.length_take]; omega)
  rw [List.take_of_length_le (by omega)] at h1
  exact h1
theorem Wi.sums_eq {b : List UInt8} {k i t : Nat} {c : List UInt8} {x : Bool} (h : Turned b k i t c) (hi : i ≤ 32) (hk : k + i ≤ 8 * b.length) (hx : x = true ↔ ∃ m, m < i ∧ t.testBit m = true) : (((Wi.sum c : Nat) : Int) != ((Wi.sum b : Nat) : Int)) = x := by
  have h1 := (turned_sum h hi hk).trans hx.symm
  by_cases e : Wi.sum c = Wi.sum b
  · have : ¬ x = true := fun e1 => h1.2 e1 e
    simp [e, Bool.eq_false_iff.2 this]
  · rw [h1.1 e]
    simp
    omega
theorem Wi.xor_shl (x r : Nat) (hx : x < 256) (hr : r < 8) : bits .xor .u8 (x : Int) (2 ^ min r 8 % 256) = (((UInt8.ofNat (x ^^^ 2 ^ r)).toNat : Nat) : Int) ∧ (UInt8.ofNat (x ^^^ 2 ^ r)).toNat = x ^^^ 2 ^ r := by
  have h1 : 2 ^ r < 256 := Nat.pow_lt_pow_right (a := 2) (m := r) (n := 8) (by decide) hr
  have h2 : x ^^^ 2 ^ r < 256 := Nat.xor_lt_two_pow (n := 8) hx h1
  have h3 : (UInt8.ofNat (x ^^^ 2 ^ r)).toNat = x ^^^ 2 ^ r := by rw [UInt8.toNat_ofNat', Nat.mod_eq_of_lt h2]
  have h4 := u8_xor_nat x (2 ^ r) hx h1
  refine ⟨?_, h3⟩
  rw [h3, ← h4, Nat.min_eq_left (by omega)]
  have h5 : ∀ y : Nat, y < 256 → ((y : Int) % 256) = y := fun y hy => by omega
  have h6 := h5 (2 ^ r) h1
  have : ((2 ^ r : Nat) : Int) = (2 : Int) ^ r := by simp
  rw [this] at h6
  rw [h6, this]
set_option maxRecDepth 4000 in
set_option maxHeartbeats 4000000 in
theorem Try.wireSumsWalk (v : Value) (b : List UInt8) (K : Int) (T : Nat) (w : World) (hB : Bs w v b) (hlen : b.length ≤ 140737488351232) (hK : -9223372036854775808 ≤ K ∧ K ≤ 9223372036854775807) (ht : T < 4294967296) :
    Calls Try.prog 3 #[v, .int .i64 K, .int .u32 T] w fun e w' => e = .returned (.bool true) ∧ Below w.heap.size w w' := by
  have h0 := Try.shown_any w
  obtain ⟨ad, cap, rfl, hcap, hn, h1⟩ := hB.ex
  have HB : Hid (Bs w (.slice ad b.length cap) b) := hB
  have Hlen : Hid (b.length ≤ 140737488351232) := hlen
  have HK : Hid (-9223372036854775808 ≤ K ∧ K ≤ 9223372036854775807) := hK
  have Ht : Hid (T < 4294967296) := ht
  have hap := Wi.app_bytes b
  clear hB hlen hK ht h1 hn
  go_enter Try.func3, Try.ntmps3
  have hn8 : wrap64 (8 * (b.length : Int)) = ((8 * b.length : Nat) : Int) := by have := Hlen.out; unfold wrap64; omega
  go_upto_if 52 with (first
    | (go_at_call 9; refine h0.mono ?_; clear h0; rintro e w1 ⟨rfl, hb1⟩; have HB1 : Hid (Bs w1 (.slice ad b.length cap) b) := Wi.Bs.up HB.out hb1)
    | (at_make; refine Try.makeB rfl _ _ rfl _ (b.length + 4) rfl rfl (by have := Hlen.out; first | omega | (unfold wrap64; omega)) (by have := Hlen.out; omega) ?_; intro w2 hg2 hb2; have HB2 : Hid (Bs w2 (.slice ad b.length cap) b) := Wi.Bs.up HB1.out hb2; obtain ⟨w3, hrun3, hg3, hb3⟩ := Try.copyB w1.heap.size (List.replicate (b.length + 4) 0) (b.length + 4) hg2 (b.length + 4) (by simp) HB2.out (by simp) w1.heap.size w1 hb2 (Nat.le_refl _); have hD : b ++ (List.replicate (b.length + 4) 0).drop b.length = b ++ List.replicate 4 0 := (by rw [List.drop_replicate, show b.length + 4 - b.length = 4 by omega]); rw [hD] at hg3; have hs3 : Calls Try.prog 10 #[.slice (some ⟨w1.heap.size, 0, none⟩) b.length (b.length + 4)] w3 fun e w' => e = .returned (.int .u32 (Wi.sum b)) ∧ w' = w3 := (by have h := Try.sum_any (Wi.bs_block hg3 b.length (b.length + 4) (by simp) (by omega)) (by have := Hlen.out; rw [List.length_take]; omega); rw [List.take_left'] at h; exact h; rfl); have HB3 : Hid (Bs w3 (.slice ad b.length cap) b) := Wi.Bs.up HB1.out hb3; have hr3 := Try.refSum_any HB3.out (by have := Hlen.out; omega); have hcv2 := Try.conv_bs HB3.out; have hcv1 : (convert 22 9 (.slice (some ⟨w1.heap.size, 0, none⟩) (b.length + 4) (b.length + 4))).run Try.prog w3 = .ok (.string (⟨b.toArray⟩ ++ ⟨#[0, 0, 0, 0]⟩)) w3 := (by have h := Try.conv_bs (Wi.bs_block hg3 (b.length + 4) (b.length + 4) (by simp) (by omega)); rw [List.take_of_length_le (by simp)] at h; rw [hap]; exact h); clear hD hg2 hb2 HB2)
    | (go_at_call 10; refine hs3.mono ?_; clear hs3; rintro e w4 ⟨rfl, rfl⟩)
    | (go_at_call 11; refine hr3.mono ?_; clear hr3; rintro e w5 ⟨rfl, rfl⟩)
    | fail)
  all_goals try (exfalso; have := Hlen.out; omega)
  · go_wp2
    go_ret
    exact ⟨rfl, hb1.trans (hb3.mono hb1.size)⟩
  · rename_i hb0
    have hbl : 0 < b.length := List.length_pos_iff.2 hb0
    have h80 : (8 * (b.length : Int) == 0) = false := by simp [hb0]
    by_cases ht0 : T = 0
    · have htb : ((T : Int) == 0) = true := by simp [ht0]
      clear ht0
      simp only [h80, htb, Bool.or_true]
      go_wp2
      go_ret
      exact ⟨rfl, hb1.trans (hb3.mono hb1.size)⟩
    · have htb : ((T : Int) == 0) = false := by simp [ht0]
      simp only [h80, htb, Bool.or_false]
      clear hcv1 hcv2 hrun3 hap
      have hgle : w.heap.size ≤ w1.heap.size := hb1.size
      generalize w1.heap.size = g1 at *
      go_upto_if 55 with (fail)
      go_cut [11] (fun v wx => ∃ k0 : Nat, v = .int .i64 k0 ∧ k0 ≤ 9223372036854775807 ∧ wx = w5)
      case first =>
        by_cases hK0 : K < 0
        · have e1 : wrap64 (K + 1) = K + 1 := by have := HK.out; unfold wrap64; omega
          have e2 : wrap64 (-(K + 1)) = ((-(K + 1)).toNat : Nat) := by have := HK.out; unfold wrap64; omega
          go_wp2
          go_meet
          case rel => exact ⟨(-(K + 1)).toNat, by rw [← e2], by have := HK.out; omega, rfl⟩
        · go_wp2
          go_meet
          case rel => exact ⟨K.toNat, by congr 1; omega, by have := HK.out; omega, rfl⟩
      case rest =>
        obtain ⟨k0, rfl, hk0, rfl⟩ := hcut
        have q1 : ((k0 : Int).tmod (8 * (b.length : Int))) = ((k0 % (8 * b.length) : Nat) : Int) := by
          rw [show (8 * (b.length : Int)) = ((8 * b.length : Nat) : Int) by omega]; rfl
        have q2 : ((k0 : Int).tmod ((8 * b.length : Nat) : Int)) = ((k0 % (8 * b.length) : Nat) : Int) := rfl
        have hkn : k0 % (8 * b.length) < 8 * b.length := Nat.mod_lt _ (by omega)
        generalize k0 % (8 * b.length) = k at *
        have HBW : Hid (Below w.heap.size w wc ∧ w.heap.size ≤ wc.heap.size) := ⟨hb1.trans (hb3.mono hgle), Nat.le_trans hb1.size hb3.size⟩
        clear hk0 hgle
        go_wp2_with (first
          | (at_make; refine Try.makeB rfl _ _ rfl _ b.length rfl rfl rfl (by have := Hlen.out; omega) ?_; intro w6 hg6 hb6; have HB6 : Hid (Bs w6 (.slice ad b.length cap) b) := Wi.Bs.up HB3.out hb6; obtain ⟨w7, hrun7, hg7, hb7⟩ := Try.copyB wc.heap.size (List.replicate b.length 0) b.length hg6 b.length (by simp) HB6.out (by simp) wc.heap.size wc hb6 (Nat.le_refl _); have hD7 : b ++ (List.replicate b.length 0).drop b.length = b := (by simp); rw [hD7] at hg7; clear hD7 hg6 hb6 HB6)
          | fail)
        have HBL : Hid (w.heap.size ≤ wc.heap.size) := HBW.out.2
        have HBW1 : Hid (Below w.heap.size w wc) := HBW.out.1
        clear hrun7 HBW
        generalize wc.heap.size = g7 at *
        have hT32 : ∀ j, bits .and .u32 ((T : Int) / 2 ^ j) 1 = (((T.testBit j).toNat : Nat) : Int) := fun j => by
          have h1 := u32_and_nat (T / 2 ^ j) 1 (Nat.lt_of_le_of_lt (Nat.div_le_self _ _) Ht.out) (by decide)
          rw [nat_mask1] at h1
          have h2 := Wi.bit_shr T j
          have h3 : ((T / 2 ^ j : Nat) : Int) = (T : Int) / 2 ^ j := by simp
          rw [h3] at h1
          rw [← h2, show (1 : Int) = ((1 : Nat) : Int) from rfl, h1]
          simp
        clear hb0 hbl h80 ht0 htb hg3 hb3 hb1 HB1 HB hcap q1 q2 hn8
        go_loopw [13, 14] (fun ch i wr => ∃ (j : Nat) (c : List UInt8) (x : Bool), ch = .bool x ∧ i = .int .i64 j ∧ j ≤ 32 ∧ k + j ≤ 8 * b.length ∧ Turned b k j T c ∧ (x = true ↔ ∃ m, m < j ∧ T.testBit m = true) ∧ wr.heap[g7]? = some (.cells (Lib.byteCells c).toArray 5 (0, 0)) ∧ Below g7 wc wr) (fun _ i _ => 32 - (intOf i).toNat)
        case atStart => exact ⟨0, b, false, rfl, rfl, by omega, by omega, turned_0 b k T, by simp, hg7, hb7⟩
        case round =>
          obtain ⟨j, c, x, rfl, rfl, hj, hkj, hTu, hx, hgr, hbr⟩ := hrel
          have HTu : Hid (Turned b k j T c) := hTu
          have Hx : Hid (x = true ↔ ∃ m, m < j ∧ T.testBit m = true) := hx
          have Hgr : Hid (wr.heap[g7]? = some (.cells (Lib.byteCells c).toArray 5 (0, 0))) := hgr
          have hzw : wrap64 ((k : Int) + j) = ((k + j : Nat) : Int) := by have := Hlen.out; unfold wrap64; omega
          clear hTu hx hgr
          by_cases hj32 : j < 32
          · have q3 : (j : Int) < 32 := by omega
            by_cases hkn2 : k + j < 8 * b.length
            · have q4 : ((k : Int) + (j : Int)) < 8 * (b.length : Int) := by omega
              have hTj := hT32 j
              cases hb : T.testBit j
              · rw [hb] at hTj
                simp only [Bool.toNat_false] at hTj
                go_wp2
                go_roundw
                case rel => exact ⟨j + 1, c, x, rfl, by go_num, by omega, by omega, turned_skip HTu.out hb, by
                    rw [Hx.out]
                    constructor
                    · rintro ⟨m, h1, h2⟩; exact ⟨m, by omega, h2⟩
                    · rintro ⟨m, h1, h2⟩
                      by_cases e : m = j
                      · subst e; rw [hb] at h2; cases h2
                      · exact ⟨m, by omega, h2⟩, Hgr.out, hbr⟩
                case measure => simp [intOf]; omega
              · rw [hb] at hTj
                simp only [Bool.toNat_true] at hTj
                have hcl := HTu.out.1
                have hqi : (k + j) / 8 < c.length := by omega
                obtain ⟨cx, hcx8, hcx⟩ : ∃ cx, cx < 256 ∧ c[(k + j) / 8]? = some (UInt8.ofNat cx) := ⟨c[(k + j) / 8].toNat, c[(k + j) / 8].toNat_lt, by rw [List.getElem?_eq_getElem hqi]; simp⟩
                have hcell : wr.cell? ⟨g7, (k + j) / 8, none⟩ = some (.int .u8 cx) := by
                  rw [cell_of_row _ _ _ _ _ _ Hgr.out]
                  have := byteCell hqi
                  rw [List.getElem?_toArray, this]
                  rw [List.getElem?_eq_getElem hqi] at hcx
                  rw [Option.some.inj hcx, UInt8.toNat_ofNat', Nat.mod_eq_of_lt (by omega)]
                have hfz : wr.frozen? ⟨g7, (k + j) / 8, none⟩ = false := frozen_of_row _ _ _ _ _ Hgr.out
                have q5 : (((k + j) / 8 : Nat) : Int) < (b.length : Int) := by omega
                have hcs : ((k : Int) + (j : Int)) = ((k + j : Nat) : Int) := by omega
                have hdv : wrap64 (((k : Int) + (j : Int)).tdiv 8) = (((k + j) / 8 : Nat) : Int) := by
                  have := Hlen.out
                  rw [hcs, show ((k + j : Nat) : Int).tdiv 8 = (((k + j) / 8 : Nat) : Int) from rfl]; unfold wrap64; omega
                have hmd : ((k : Int) + (j : Int)).tmod 8 = (((k + j) % 8 : Nat) : Int) := by rw [hcs]; rfl
                clear hcs
                obtain ⟨qq, hqq⟩ : ∃ qq, qq = (k + j) / 8 := ⟨_, rfl⟩
                obtain ⟨rr, hrr⟩ : ∃ rr, rr = (k + j) % 8 := ⟨_, rfl⟩
                rw [← hqq] at hcell hfz q5 hdv hqi hcx
                rw [← hrr] at hmd
                have hr8 : rr < 8 := by omega
                have hxv := Wi.xor_shl cx rr hcx8 hr8
                have Hxv : Hid (bits .xor .u8 (cx : Int) (2 ^ min rr 8 % 256) = (((UInt8.ofNat (cx ^^^ 2 ^ rr)).toNat : Nat) : Int)) := hxv.1
                have HTn : Hid (Turned b k (j + 1) T (c.set qq (UInt8.ofNat (cx ^^^ 2 ^ rr)))) := (by
                  have h1 := turned_step HTu.out hb (UInt8.ofNat (cx ^^^ 2 ^ rr)) cx (by rw [← hqq]; exact hcx) hcx8 (by rw [hxv.2, hrr])
                  rw [← hqq] at h1
                  exact h1)
                have Hgn : Hid (∀ z : Int, z = (((UInt8.ofNat (cx ^^^ 2 ^ rr)).toNat : Nat) : Int) → (wr.setCell ⟨g7, qq, none⟩ (.int .u8 z)).heap[g7]? = some (.cells (Lib.byteCells (c.set qq (UInt8.ofNat (cx ^^^ 2 ^ rr)))).toArray 5 (0, 0))) := fun z hz => by
                  rw [heap_setCell_same wr g7 qq _ 5 _ Hgr.out, hz]
                  simp [Lib.byteCells, List.map_set]
                clear hcx hcl hxv hqq hrr hr8 hcx8
                go_wp2
                go_region
                go_wp2
                go_roundw
                case rel => exact ⟨j + 1, _, true, rfl, by go_num, by omega, by omega, HTn.out, ⟨fun _ => ⟨j, by omega, hb⟩, fun _ => rfl⟩, Hgn.out _ Hxv.out, hbr.trans ⟨rfl, rfl, rfl, by simp, fun m hm => Below.heap_setCell wr ⟨g7, qq, none⟩ _ m (by show m ≠ g7; omega)⟩⟩
                case measure => simp [intOf]; omega
            · have q4 : ¬ ((k : Int) + (j : Int)) < 8 * (b.length : Int) := by omega
              have hs7 := Try.sumOf Hgr.out HTu.out.1 Hlen.out
              have hfin := Wi.sums_eq HTu.out hj hkj Hx.out
              clear hT32 hg7 hb7
              go_wp2_with (first | (go_at_call 10; refine hs7.mono ?_; clear hs7; rintro e w8 ⟨rfl, rfl⟩) | fail)
              go_ret
              refine ⟨?_, HBW1.out.trans (hbr.mono HBL.out)⟩
              simp
          · have q3 : ¬ (j : Int) < 32 := by omega
            have hs7 := Try.sumOf Hgr.out HTu.out.1 Hlen.out
            have hfin := Wi.sums_eq HTu.out hj hkj Hx.out
            clear hT32 hg7 hb7
            go_wp2_with (first | (go_at_call 10; refine hs7.mono ?_; clear hs7; rintro e w8 ⟨rfl, rfl⟩) | fail)
            go_ret
            refine ⟨?_, HBW1.out.trans (hbr.mono HBL.out)⟩
            simp
end Go.Proofs
