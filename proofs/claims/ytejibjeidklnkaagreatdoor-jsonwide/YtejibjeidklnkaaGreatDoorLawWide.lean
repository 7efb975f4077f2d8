/-
  JsonWide, walked.
-/
import Derived.Test.YtejibjeidklnkaaGreatDoorJtr
import Derived.Test.YtejibjeidklnkaaGreatDoorJpb
import Derived.Test.YtejibjeidklnkaaGreatDoorJcu
namespace Go.Proofs
open Go.RowKit Go.Jv
/-- The blanks that the law puts in. -/
def Jv.bt (j : Nat) : ByteArray := [(⟨#[]⟩ : ByteArray), ⟨#[32]⟩, ⟨#[10]⟩, ⟨#[9, 13]⟩].getD j ⟨#[]⟩
def Jv.bts (li : List Int) (j : Nat) : List UInt8 := (Jv.bt (Jv.atv li j % 4)).data.toList
theorem Jv.bts_ok (li : List Int) (j : Nat) : Bl (Jv.bts li j) ∧ (Jv.bts li j).length ≤ 2 := by
  unfold Jv.bts
  have : Jv.atv li j % 4 = 0 ∨ Jv.atv li j % 4 = 1 ∨ Jv.atv li j % 4 = 2 ∨ Jv.atv li j % 4 = 3 := by omega
  rcases this with h | h | h | h <;> rw [h] <;> exact ⟨by unfold Bl; decide, by decide⟩
theorem Jv.bthen5 {w w1 w2 : World} (h1 : Below w.heap.size w w1) (h2 : Below w1.heap.size w1 w2) : Below w.heap.size w w2 := h1.trans (h2.mono h1.size)
set_option maxRecDepth 100000 in
set_option maxHeartbeats 4000000 in
theorem Tryz.jsonWideWalk0 (rv bv : Value) (la lb : List Int) (w : World) (hA : Jv.Iv w rv la) (hB : Jv.Iv w bv lb) (ha : la.length ≤ 9223372036854775807) (hb : lb.length ≤ 9223372036854775807) (hT : Tryz.Tb w) :
    Calls Tryz.prog 3 #[rv, bv] w fun e w' => e = .returned (.bool true) ∧ Below w.heap.size w w' := by
  obtain ⟨ad, cap, rfl, -⟩ := hA.ex
  obtain ⟨ad2, cap2, rfl, -⟩ := hB.ex
  have hw := Tryz.awake_any w hT
  have htk := fun W (hW : Below w.heap.size w W) => Tryz.tokens_any ha 4 (by omega) W 0 (hA.up hW) (by decide)
  have HT : Hid (Tryz.Tb w) := hT
  have HB : Hid (Jv.Iv w (.slice ad2 lb.length cap2) lb) := hB
  clear hA hB hT
  go_enter Tryz.func3, Tryz.ntmps3
  go_wp2_with (first
    | (go_at_call 5; refine hw.mono ?_; clear hw; rintro e1 w1 ⟨rfl, hb1⟩; have h1 := htk w1 hb1)
    | (go_at_call 6; refine h1.mono ?_; clear h1 htk; rintro e2 w2 ⟨v, l, sv, rfl, hrl, htw, hcn, hbn, hb2⟩
       have hl0 := Jv.tw_pos htw
       obtain ⟨gl, ccl, rfl, -, -⟩ := hrl.form hl0)
    | fail)
  have hcl : ∀ j (hj : j < l.length), w2.cell? ⟨gl, j, none⟩ = some (.string l[j]) := fun j hj => by
    have := hrl.cells (g := gl) rfl j (.string l[j]) (by simp [Jv.tks, hj])
    rcases Nat.eq_zero_or_pos j with rfl | h0
    · exact this
    · rw [← this]
      congr 1
      simp [Addr.add]
      omega
  have hgl := (Jv.row_lt hrl gl rfl).2
  have HCL : Hid _ := hcl
  have hl521 : l.length ≤ 521 := hcn
  have hf2096 : (flat l).length ≤ 2096 := hbn
  have hb12 : Hid (Below w.heap.size w w2) := hb1.trans (hb2.mono hb1.size)
  have HTW : Hid (TW 4 v l) := htw
  clear hcl hrl hcn hbn htw
  go_loopw [7, 8, 9] (fun a b k wr => ∃ (j : Nat) (x y : ByteArray), k = .int .i64 j ∧ j ≤ l.length ∧ a = .string x ∧ b = .string y ∧ x.data.toList = flat (l.take j) ∧ y.data.toList = inter (Jv.bts lb) 0 (l.take j) ∧ Below w2.heap.size w2 wr) (fun _ _ k _ => l.length - (intOf k).toNat)
  case atStart => exact ⟨0, ⟨#[]⟩, ⟨#[]⟩, rfl, Nat.zero_le _, rfl, rfl, by simp [flat], by simp [inter], Below.refl _ _⟩
  case round =>
    obtain ⟨j, x, y, rfl, hj, rfl, rfl, hx, hy, hbr⟩ := hrel
    by_cases hjl : j < l.length
    · have q1 : (j : Int) < (l.length : Int) := by omega
      have hc := (hbr.cell (p := ⟨gl, j, none⟩) hgl).trans (HCL.out j hjl)
      have hat := fun W (hW : Below w2.heap.size w2 W) => Tryz.at_any (HB.out.up (hb12.out.trans (hW.mono hb12.out.size))) j (by omega) hb
      obtain ⟨q, hq1, hq2, hq3⟩ : ∃ q : Nat, q < 4 ∧ (Jv.atv lb j : Int) % 4 = (q : Int) ∧ Jv.bts lb j = (Jv.bt q).data.toList := ⟨Jv.atv lb j % 4, Nat.mod_lt _ (by omega), by omega, rfl⟩
      generalize Jv.atv lb j = c at *
      have hlj : (flat (l.take j)).length + l[j].size ≤ 2096 := by
        have h0 : (flat (l.take j ++ ([l[j]] ++ l.drop (j + 1)))).length ≤ 2096 := by
          rw [List.singleton_append, List.getElem_cons_drop, List.take_append_drop]
          exact hf2096
        rw [flat_app, flat_app, List.length_append, List.length_append, show flat [l[j]] = l[j].data.toList by simp [flat]] at h0
        rw [Lib.size_eq]
        omega
      have hxs : x.size ≤ 2096 := by rw [Lib.size_eq, hx]; omega
      have hys : y.size ≤ 3200 := by
        have h0 := inter_len (Jv.bts lb) (fun j => (Jv.bts_ok lb j).2) (l.take j) 0
        have h1 : (l.take j).length ≤ 521 := by rw [List.length_take]; omega
        rw [Lib.size_eq, hy]
        omega
      have q5 : ¬ 9223372036854775807 < x.size + l[j].size := by omega
      have hglr : gl < wr.heap.size := Nat.lt_of_lt_of_le hgl hbr.size
      have hcA : ∀ X, (wr.alloc X).cell? ⟨gl, j, none⟩ = some (.string l[j]) := fun X => (((Below.refl wr.heap.size wr).alloc (Nat.le_refl _) X).cell (p := ⟨gl, j, none⟩) hglr).trans hc
      have hcB : ∀ X, (wr.drew.alloc X).cell? ⟨gl, j, none⟩ = some (.string l[j]) := hcA
      have hcD : ∀ X, (wr.alloc X).drew.cell? ⟨gl, j, none⟩ = some (.string l[j]) := hcA
      have hcE : wr.drew.cell? ⟨gl, j, none⟩ = some (.string l[j]) := hc
      have hq : q = 0 ∨ q = 1 ∨ q = 2 ∨ q = 3 := by omega
      have HX : Hid (x.data.toList = flat (l.take j)) := hx
      have HY : Hid (y.data.toList = inter (Jv.bts lb) 0 (l.take j)) := hy
      have hfin : ∀ (B : ByteArray) (W : World), Jv.bts lb j = B.data.toList → Below w2.heap.size w2 W → ∃ (j' : Nat) (x' y' : ByteArray), (Value.int .i64 ((j : Int) + 1)) = .int .i64 j' ∧ j' ≤ l.length ∧ Value.string (x ++ l[j]) = .string x' ∧ Value.string (y ++ B ++ l[j]) = .string y' ∧ x'.data.toList = flat (l.take j') ∧ y'.data.toList = inter (Jv.bts lb) 0 (l.take j') ∧ Below w2.heap.size w2 W := fun B W hB hW => by
        refine ⟨j + 1, _, _, rfl, by omega, rfl, rfl, ?_, ?_, hW⟩
        · rw [List.take_succ_eq_append_getElem hjl, flat_app, ByteArray.data_append, Array.toList_append, HX.out]
          simp [flat]
        · rw [List.take_succ_eq_append_getElem hjl, inter_app, ByteArray.data_append, ByteArray.data_append, Array.toList_append, Array.toList_append, HY.out]
          have : (l.take j).length = j := by rw [List.length_take]; omega
          rw [this]
          simp [inter, hB]
      have HF : Hid (∀ (B : ByteArray) (W : World), Jv.bts lb j = B.data.toList → Below w2.heap.size w2 W → ∃ (j' : Nat) (x' y' : ByteArray), (Value.int .i64 ((j : Int) + 1)) = .int .i64 j' ∧ j' ≤ l.length ∧ Value.string (x ++ l[j]) = .string x' ∧ Value.string (y ++ B ++ l[j]) = .string y' ∧ x'.data.toList = flat (l.take j') ∧ y'.data.toList = inter (Jv.bts lb) 0 (l.take j') ∧ Below w2.heap.size w2 W) := hfin
      clear hx hy hfin
      have HQ : Hid (Jv.bts lb j = (Jv.bt q).data.toList) := hq3
      clear hq3
      go_wp2
      rcases hq with rfl | rfl | rfl | rfl
      · have r1 : (c : Int) % 4 = 0 := by omega
        have r2 : (c : Int).tmod 4 = 0 := by rw [Int.tmod_eq_emod_of_nonneg (by omega)]; exact r1
        have r3 : ((c : Int) % 4).toNat = 0 := by omega
        clear hq2
        have q6 : ¬ 9223372036854775807 < y.size + (⟨#[]⟩ : ByteArray).size := by show ¬ _ < y.size + 0; omega
        have q7 : ¬ 9223372036854775807 < (y ++ (⟨#[]⟩ : ByteArray)).size + l[j].size := by rw [ByteArray.size_append]; show ¬ _ < y.size + 0 + _; omega
        go_region_with (first
          | (go_at_call 7; refine (hat _ (by first | exact hbr | exact hbr.drew | exact hbr.alloc hbr.size _ | exact (hbr.alloc hbr.size _).drew | exact hbr.drew.alloc hbr.size _)).mono ?_; rintro e3 w3 ⟨rfl, rfl⟩)
          | fail)
        all_goals
          go_wp2
          go_roundw
          case rel => exact HF.out ⟨#[]⟩ _ HQ.out (by first | exact hbr | exact hbr.drew | exact hbr.alloc hbr.size _ | exact (hbr.alloc hbr.size _).drew | exact hbr.drew.alloc hbr.size _)
          case measure => simp [intOf]; omega
      · have r1 : (c : Int) % 4 = 1 := by omega
        have r2 : (c : Int).tmod 4 = 1 := by rw [Int.tmod_eq_emod_of_nonneg (by omega)]; exact r1
        have r3 : ((c : Int) % 4).toNat = 1 := by omega
        clear hq2
        have q6 : ¬ 9223372036854775807 < y.size + (⟨#[32]⟩ : ByteArray).size := by show ¬ _ < y.size + 1; omega
        have q7 : ¬ 9223372036854775807 < (y ++ (⟨#[32]⟩ : ByteArray)).size + l[j].size := by rw [ByteArray.size_append]; show ¬ _ < y.size + 1 + _; omega
        go_region_with (first
          | (go_at_call 7; refine (hat _ (by first | exact hbr | exact hbr.drew | exact hbr.alloc hbr.size _ | exact (hbr.alloc hbr.size _).drew | exact hbr.drew.alloc hbr.size _)).mono ?_; rintro e3 w3 ⟨rfl, rfl⟩)
          | fail)
        all_goals
          go_wp2
          go_roundw
          case rel => exact HF.out ⟨#[32]⟩ _ HQ.out (by first | exact hbr | exact hbr.drew | exact hbr.alloc hbr.size _ | exact (hbr.alloc hbr.size _).drew | exact hbr.drew.alloc hbr.size _)
          case measure => simp [intOf]; omega
      · have r1 : (c : Int) % 4 = 2 := by omega
        have r2 : (c : Int).tmod 4 = 2 := by rw [Int.tmod_eq_emod_of_nonneg (by omega)]; exact r1
        have r3 : ((c : Int) % 4).toNat = 2 := by omega
        clear hq2
        have q6 : ¬ 9223372036854775807 < y.size + (⟨#[10]⟩ : ByteArray).size := by show ¬ _ < y.size + 1; omega
        have q7 : ¬ 9223372036854775807 < (y ++ (⟨#[10]⟩ : ByteArray)).size + l[j].size := by rw [ByteArray.size_append]; show ¬ _ < y.size + 1 + _; omega
        go_region_with (first
          | (go_at_call 7; refine (hat _ (by first | exact hbr | exact hbr.drew | exact hbr.alloc hbr.size _ | exact (hbr.alloc hbr.size _).drew | exact hbr.drew.alloc hbr.size _)).mono ?_; rintro e3 w3 ⟨rfl, rfl⟩)
          | fail)
        all_goals
          go_wp2
          go_roundw
          case rel => exact HF.out ⟨#[10]⟩ _ HQ.out (by first | exact hbr | exact hbr.drew | exact hbr.alloc hbr.size _ | exact (hbr.alloc hbr.size _).drew | exact hbr.drew.alloc hbr.size _)
          case measure => simp [intOf]; omega
      · have r1 : (c : Int) % 4 = 3 := by omega
        have r2 : (c : Int).tmod 4 = 3 := by rw [Int.tmod_eq_emod_of_nonneg (by omega)]; exact r1
        have r3 : ((c : Int) % 4).toNat = 3 := by omega
        clear hq2
        have q6 : ¬ 9223372036854775807 < y.size + (⟨#[9, 13]⟩ : ByteArray).size := by show ¬ _ < y.size + 2; omega
        have q7 : ¬ 9223372036854775807 < (y ++ (⟨#[9, 13]⟩ : ByteArray)).size + l[j].size := by rw [ByteArray.size_append]; show ¬ _ < y.size + 2 + _; omega
        go_region_with (first
          | (go_at_call 7; refine (hat _ (by first | exact hbr | exact hbr.drew | exact hbr.alloc hbr.size _ | exact (hbr.alloc hbr.size _).drew | exact hbr.drew.alloc hbr.size _)).mono ?_; rintro e3 w3 ⟨rfl, rfl⟩)
          | fail)
        all_goals
          go_wp2
          go_roundw
          case rel => exact HF.out ⟨#[9, 13]⟩ _ HQ.out (by first | exact hbr | exact hbr.drew | exact hbr.alloc hbr.size _ | exact (hbr.alloc hbr.size _).drew | exact hbr.drew.alloc hbr.size _)
          case measure => simp [intOf]; omega
    · have q1 : ¬ (j : Int) < (l.length : Int) := by omega
      obtain rfl : j = l.length := by omega
      rw [List.take_length] at hx hy
      have hat := fun W (hW : Below w2.heap.size w2 W) => Tryz.at_any (HB.out.up (hb12.out.trans (hW.mono hb12.out.size))) l.length (by omega) hb
      have hys : y.size ≤ 3200 := by
        have h0 := inter_len (Jv.bts lb) (fun j => (Jv.bts_ok lb j).2) l 0
        rw [Lib.size_eq, hy]
        omega
      have hpar : ∀ B : ByteArray, Jv.bts lb l.length = B.data.toList → parse (y ++ B) = .ok v := fun B hB => by
        have e : y ++ B = ⟨(inter (Jv.bts lb) 0 l ++ Jv.bts lb l.length).toArray⟩ := by
          apply ByteArray.ext
          apply Array.toList_inj.1
          simp [hy, hB]
        rw [e]
        refine tw_parse HTW.out.rise.rise.rise.rise.rise.rise (Jv.bts lb) (fun j => (Jv.bts_ok lb j).1) _ (Jv.bts_ok lb _).1 0 ?_
        have h1 := (Jv.bts_ok lb l.length).2
        rw [List.length_append, ← hy, ← Lib.size_eq]
        omega
      have hpr : (⟨(pr v).toArray⟩ : ByteArray) = x := by
        apply ByteArray.ext
        apply Array.toList_inj.1
        rw [hx, HTW.out.fl]
      have hpl : (pr v).length ≤ 100000000 := by rw [← HTW.out.fl]; omega
      have hpt := fun (W : World) (y : Nat) hy hW => Tryz.print_any v W y hy hW hpl
      rw [hpr] at hpt
      obtain ⟨q, hq1, hq2, hq3⟩ : ∃ q : Nat, q < 4 ∧ (Jv.atv lb l.length : Int) % 4 = (q : Int) ∧ Jv.bts lb l.length = (Jv.bt q).data.toList := ⟨Jv.atv lb l.length % 4, Nat.mod_lt _ (by omega), by omega, rfl⟩
      generalize Jv.atv lb l.length = c at *
      have hTr := HT.out.below (Jv.bthen5 hb12.out hbr) HT.out.size
      have hbd := Jv.bthen5 hb12.out hbr
      have hq : q = 0 ∨ q = 1 ∨ q = 2 ∨ q = 3 := by omega
      have HPT : Hid (∀ (W : World) (z : Nat), Tryz.Tr W (fun g => g < W.heap.size) v z → Tryz.Tb W → Calls Tryz.prog 9 #[.pointer (some ⟨z, 0, none⟩)] W fun en w' => en = .returned (.string x) ∧ Below W.heap.size W w') := hpt
      clear hx hy hpr hpl hpt HTW HCL hl521 hf2096 hj hl0 hgl
      rcases hq with rfl | rfl | rfl | rfl
      · obtain ⟨Y, hY⟩ : ∃ Y : ByteArray, y ++ ⟨#[]⟩ = Y := ⟨_, rfl⟩
        have hpo := hpar ⟨#[]⟩ hq3
        have hYz : (y ++ ⟨#[]⟩).size ≤ 4000 := by rw [ByteArray.size_append]; show y.size + 0 ≤ _; omega
        rw [hY] at hpo hYz
        have r1 : (c : Int) % 4 = 0 := by omega
        have r2 : (c : Int).tmod 4 = 0 := by rw [Int.tmod_eq_emod_of_nonneg (by omega)]; exact r1
        have r3 : ((c : Int) % 4).toNat = 0 := by omega
        have hc1 := fun c W hW => Tryz.parse_ok Y _ hpo c W (by omega) hW
        have hsb := Tryz.conv_sb Y
        clear hq2 hq3 hpar hpo
        go_upto_region 13 with (first
          | (go_at_call 7; refine (hat _ (hbr.alloc hbr.size _)).mono ?_; clear hat; rintro e3 w3 ⟨rfl, rfl⟩)
          | fail)
        have hbA := fun X => Jv.bthen5 hb12.out (hbr.alloc hbr.size X)
        generalize hW1 : wr.alloc _ = W1
        have hbW : Below w.heap.size w W1 := by rw [← hW1]; exact hbA _
        clear hbA hW1 hbd hTr
        have hTW := HT.out.below hbW HT.out.size
        go_wp2_with (first
          | (go_at_call 8; refine (hc1 _ _ hTW).mono ?_; clear hc1; rintro e8 w8 ⟨y3, rfl, htr, hb8⟩
             have hb9 : Below w.heap.size w w8 := Jv.bthen5 hbW hb8
             clear hb8
             have hp8 := HPT.out w8 y3 (Tryz.Tr_mono (fun _ _ h => h) _ _ htr) (HT.out.below hb9 HT.out.size))
          | (go_at_call 9; refine hp8.mono ?_; clear hp8; rintro e9 w9 ⟨rfl, hb10⟩)
          | fail)
        go_ret
        exact ⟨rfl, Jv.bthen5 hb9 hb10⟩
      · obtain ⟨Y, hY⟩ : ∃ Y : ByteArray, y ++ ⟨#[32]⟩ = Y := ⟨_, rfl⟩
        have hpo := hpar ⟨#[32]⟩ hq3
        have hYz : (y ++ ⟨#[32]⟩).size ≤ 4000 := by rw [ByteArray.size_append]; show y.size + 1 ≤ _; omega
        rw [hY] at hpo hYz
        have r1 : (c : Int) % 4 = 1 := by omega
        have r2 : (c : Int).tmod 4 = 1 := by rw [Int.tmod_eq_emod_of_nonneg (by omega)]; exact r1
        have r3 : ((c : Int) % 4).toNat = 1 := by omega
        have hc1 := fun c W hW => Tryz.parse_ok Y _ hpo c W (by omega) hW
        have hsb := Tryz.conv_sb Y
        clear hq2 hq3 hpar hpo
        go_upto_region 13 with (first
          | (go_at_call 7; refine (hat _ (hbr.alloc hbr.size _)).mono ?_; clear hat; rintro e3 w3 ⟨rfl, rfl⟩)
          | fail)
        have hbA := fun X => Jv.bthen5 hb12.out (hbr.alloc hbr.size X)
        generalize hW1 : wr.alloc _ = W1
        have hbW : Below w.heap.size w W1 := by rw [← hW1]; exact hbA _
        clear hbA hW1 hbd hTr
        have hTW := HT.out.below hbW HT.out.size
        go_wp2_with (first
          | (go_at_call 8; refine (hc1 _ _ hTW).mono ?_; clear hc1; rintro e8 w8 ⟨y3, rfl, htr, hb8⟩
             have hb9 : Below w.heap.size w w8 := Jv.bthen5 hbW hb8
             clear hb8
             have hp8 := HPT.out w8 y3 (Tryz.Tr_mono (fun _ _ h => h) _ _ htr) (HT.out.below hb9 HT.out.size))
          | (go_at_call 9; refine hp8.mono ?_; clear hp8; rintro e9 w9 ⟨rfl, hb10⟩)
          | fail)
        go_ret
        exact ⟨rfl, Jv.bthen5 hb9 hb10⟩
      · obtain ⟨Y, hY⟩ : ∃ Y : ByteArray, y ++ ⟨#[10]⟩ = Y := ⟨_, rfl⟩
        have hpo := hpar ⟨#[10]⟩ hq3
        have hYz : (y ++ ⟨#[10]⟩).size ≤ 4000 := by rw [ByteArray.size_append]; show y.size + 1 ≤ _; omega
        rw [hY] at hpo hYz
        have r1 : (c : Int) % 4 = 2 := by omega
        have r2 : (c : Int).tmod 4 = 2 := by rw [Int.tmod_eq_emod_of_nonneg (by omega)]; exact r1
        have r3 : ((c : Int) % 4).toNat = 2 := by omega
        have hc1 := fun c W hW => Tryz.parse_ok Y _ hpo c W (by omega) hW
        have hsb := Tryz.conv_sb Y
        clear hq2 hq3 hpar hpo
        go_upto_region 13 with (first
          | (go_at_call 7; refine (hat _ (hbr.alloc hbr.size _)).mono ?_; clear hat; rintro e3 w3 ⟨rfl, rfl⟩)
          | fail)
        have hbA := fun X => Jv.bthen5 hb12.out (hbr.alloc hbr.size X)
        generalize hW1 : wr.alloc _ = W1
        have hbW : Below w.heap.size w W1 := by rw [← hW1]; exact hbA _
        clear hbA hW1 hbd hTr
        have hTW := HT.out.below hbW HT.out.size
        go_wp2_with (first
          | (go_at_call 8; refine (hc1 _ _ hTW).mono ?_; clear hc1; rintro e8 w8 ⟨y3, rfl, htr, hb8⟩
             have hb9 : Below w.heap.size w w8 := Jv.bthen5 hbW hb8
             clear hb8
             have hp8 := HPT.out w8 y3 (Tryz.Tr_mono (fun _ _ h => h) _ _ htr) (HT.out.below hb9 HT.out.size))
          | (go_at_call 9; refine hp8.mono ?_; clear hp8; rintro e9 w9 ⟨rfl, hb10⟩)
          | fail)
        go_ret
        exact ⟨rfl, Jv.bthen5 hb9 hb10⟩
      · obtain ⟨Y, hY⟩ : ∃ Y : ByteArray, y ++ ⟨#[9, 13]⟩ = Y := ⟨_, rfl⟩
        have hpo := hpar ⟨#[9, 13]⟩ hq3
        have hYz : (y ++ ⟨#[9, 13]⟩).size ≤ 4000 := by rw [ByteArray.size_append]; show y.size + 2 ≤ _; omega
        rw [hY] at hpo hYz
        have r1 : (c : Int) % 4 = 3 := by omega
        have r2 : (c : Int).tmod 4 = 3 := by rw [Int.tmod_eq_emod_of_nonneg (by omega)]; exact r1
        have r3 : ((c : Int) % 4).toNat = 3 := by omega
        have hc1 := fun c W hW => Tryz.parse_ok Y _ hpo c W (by omega) hW
        have hsb := Tryz.conv_sb Y
        clear hq2 hq3 hpar hpo
        go_upto_region 13 with (first
          | (go_at_call 7; refine (hat _ (hbr.alloc hbr.size _)).mono ?_; clear hat; rintro e3 w3 ⟨rfl, rfl⟩)
          | fail)
        have hbA := fun X => Jv.bthen5 hb12.out (hbr.alloc hbr.size X)
        generalize hW1 : wr.alloc _ = W1
        have hbW : Below w.heap.size w W1 := by rw [← hW1]; exact hbA _
        clear hbA hW1 hbd hTr
        have hTW := HT.out.below hbW HT.out.size
        go_wp2_with (first
          | (go_at_call 8; refine (hc1 _ _ hTW).mono ?_; clear hc1; rintro e8 w8 ⟨y3, rfl, htr, hb8⟩
             have hb9 : Below w.heap.size w w8 := Jv.bthen5 hbW hb8
             clear hb8
             have hp8 := HPT.out w8 y3 (Tryz.Tr_mono (fun _ _ h => h) _ _ htr) (HT.out.below hb9 HT.out.size))
          | (go_at_call 9; refine hp8.mono ?_; clear hp8; rintro e9 w9 ⟨rfl, hb10⟩)
          | fail)
        go_ret
        exact ⟨rfl, Jv.bthen5 hb9 hb10⟩
theorem Tryz.jsonWideWalk {w : World} (rv : Value) (hA : ∃ la, Jv.Iv w rv la ∧ la.length ≤ 9223372036854775807) (bv : Value) (hB : ∃ la, Jv.Iv w bv la ∧ la.length ≤ 9223372036854775807) (hT : Tryz.Tb w) :
    Calls Tryz.prog 3 #[rv, bv] w fun e w' => e = .returned (.bool true) ∧ Below w.heap.size w w' := by
  obtain ⟨la, h1, h2⟩ := hA
  obtain ⟨lb, h3, h4⟩ := hB
  exact Tryz.jsonWideWalk0 rv bv la lb w h1 h3 h2 h4 hT
end Go.Proofs
