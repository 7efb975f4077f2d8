/-
  JsonCut, walked.
-/
import Derived.Test.YtejibjeidklnkaaGreatDoorJtr
import Derived.Test.YtejibjeidklnkaaGreatDoorJcu
import Derived.Test.YtejibjeidklnkaaGreatDoorJpb
import Derived.Test.YtejibjeidklnkaaGreatDoorJzf
namespace Go.Proofs
open Go.RowKit Go.Jv
theorem Jv.bthen4 {w w1 w2 : World} (h1 : Below w.heap.size w w1) (h2 : Below w1.heap.size w1 w2) : Below w.heap.size w w2 := h1.trans (h2.mono h1.size)
/-- What JsonCut asks of the text. -/
structure Jv.Cuts (S : ByteArray) (v : V) (n : Nat) : Prop where
  pre : ∃ p, p ≤ n ∧ parse (S.extract 0 n) = .bad p 20
  more : parse (S ++ ⟨#[93]⟩) = .bad S.size 20
  ok : parse S = .ok v
  pr : (⟨(pr v).toArray⟩ : ByteArray) = S
theorem Jv.cuts_of {v : V} {l : List ByteArray} (h : TW 4 v l) (S : ByteArray) (hS : S.data.toList = 91 :: (flat l ++ [93])) (hz : S.size ≤ 4000) (n : Nat) (hn : n < S.size) : Jv.Cuts S (.list [v]) n := by
  have hg : Gd 10 (.list [v]) := by
    rw [Gd]
    refine ⟨by simp, fun x hx => ?_⟩
    simp at hx
    subst hx
    exact h.rise.rise.rise.rise.rise.gd
  have hp : pr (.list [v]) = S.data.toList := by
    rw [hS, h.fl, Jv.pr, prL, prL]
    simp [comma]
  have hzl : S.size = (pr (.list [v])).length := by rw [hp, Lib.size_eq]
  have e1 : (⟨(pr (.list [v])).toArray⟩ : ByteArray) = S := by rw [hp]
  refine ⟨?_, ?_, ?_, e1⟩
  · have hk : pr (.list [v]) = S.data.toList.take n ++ S.data.toList.drop n := by rw [hp, List.take_append_drop]
    have hne : S.data.toList.drop n ≠ [] := fun e => by
      have := sx_len S n
      rw [e] at this
      simp at this
      omega
    have hl : (S.data.toList.take n).length ≤ 4096 := by rw [List.length_take]; omega
    obtain ⟨p, hp1, hp2⟩ := parse_cut hg hk hne hl
    have ex : S.extract 0 n = ⟨(S.data.toList.take n).toArray⟩ := by
      have e := sub_sx (t := S) (p := 0) (l := S.data.toList.take n) (r := S.data.toList.drop n) (by simp)
      rw [List.length_take, ← Lib.size_eq, Nat.min_eq_left (by omega), Nat.zero_add] at e
      exact e
    exact ⟨p, by rw [List.length_take] at hp1; omega, by rw [ex]; exact hp2⟩
  · have := parse_more hg (by rw [← hzl]; omega)
    have ex : S ++ ⟨#[93]⟩ = ⟨(pr (.list [v]) ++ [93]).toArray⟩ := by
      rw [hp]
      apply ByteArray.ext
      apply Array.toList_inj.1
      simp
    rw [ex, this, ← hzl]
    rfl
  · rw [← e1]
    exact parse_pr hg (by rw [← hzl]; omega)
set_option maxRecDepth 100000 in
set_option maxHeartbeats 4000000 in
theorem Tryz.jsonCutWalk0 (rv : Value) (la : List Int) (cut : Int) (w : World) (hA : Jv.Iv w rv la) (ha : la.length ≤ 9223372036854775807) (hcut : -9223372036854775808 ≤ cut ∧ cut ≤ 9223372036854775807) (hT : Tryz.Tb w) :
    Calls Tryz.prog 4 #[rv, .int .i64 cut] w fun e w' => e = .returned (.bool true) ∧ Below w.heap.size w w' := by
  obtain ⟨ad, cap, rfl, -⟩ := hA.ex
  have hw := Tryz.awake_any w hT
  have htk := fun W (hW : Below w.heap.size w W) => Tryz.tokens_any ha 4 (by omega) W 0 (hA.up hW) (by decide)
  have hpk := Tryz.pick_any cut hcut.1 hcut.2
  have HT : Hid (Tryz.Tb w) := hT
  clear hA hT
  go_enter Tryz.func4, Tryz.ntmps4
  go_wp2_with (first
    | (go_at_call 5; refine hw.mono ?_; clear hw; rintro e1 w1 ⟨rfl, hb1⟩; have h1 := htk w1 hb1)
    | (go_at_call 6; refine h1.mono ?_; clear h1 htk; rintro e2 w2 ⟨v, l, sv, rfl, hrl, htw, hcn, hbn, hb2⟩
       have hl0 := Jv.tw_pos htw
       obtain ⟨gl, ccl, rfl, -, -⟩ := hrl.form hl0)
    | fail)
  have hcl : ∀ j (hj : j < l.length), w2.cell? ⟨gl, j, none⟩ = some (.string l[j]) := fun j hj => by
    have := hrl.cells (g := gl) rfl j (.string l[j]) (by simp [Jv.tks, hj])
    rcases Nat.eq_zero_or_pos j with rfl | h0
    · exact this
    · rw [← this]
      congr 1
      simp [Addr.add]
      omega
  have HCL : Hid (∀ j (hj : j < l.length), w2.cell? ⟨gl, j, none⟩ = some (.string l[j])) := hcl
  have hl521 : l.length ≤ 521 := hcn
  have hf2096 : (flat l).length ≤ 2096 := hbn
  have hb12 : Below w.heap.size w w2 := hb1.trans (hb2.mono hb1.size)
  have HTW : Hid (TW 4 v l) := htw
  clear hcl hrl hcn hbn htw hb1 hb2
  go_loopw [7, 8] (fun a k wr => ∃ (j : Nat) (x : ByteArray), k = .int .i64 j ∧ j ≤ l.length ∧ a = .string x ∧ x.data.toList = 91 :: flat (l.take j) ∧ wr = w2) (fun _ k _ => l.length - (intOf k).toNat)
  case atStart => exact ⟨0, ⟨#[91]⟩, rfl, Nat.zero_le _, rfl, by simp [flat], rfl⟩
  case round =>
    obtain ⟨j, x, rfl, hj, rfl, hx, hwr⟩ := hrel
    obtain rfl := hwr.symm
    have hlj : (flat (l.take j)).length ≤ 2096 := by
      have h0 : (flat (l.take j ++ l.drop j)).length ≤ 2096 := by rw [List.take_append_drop]; exact hf2096
      rw [flat_app, List.length_append] at h0
      omega
    have hxs : x.size ≤ 2097 := by rw [Lib.size_eq, hx]; simp; omega
    by_cases hjl : j < l.length
    · have q1 : (j : Int) < (l.length : Int) := by omega
      have hc := HCL.out j hjl
      have hx2 : flat (l.take (j + 1)) = flat (l.take j) ++ l[j].data.toList := by
        rw [List.take_succ_eq_append_getElem hjl, flat_app]
        simp [flat]
      have hls : l[j].size ≤ 2096 := by
        have h0 : (flat (l.take (j + 1) ++ l.drop (j + 1))).length ≤ 2096 := by rw [List.take_append_drop]; exact hf2096
        rw [flat_app, List.length_append, hx2, List.length_append] at h0
        rw [Lib.size_eq]
        omega
      have q5 : ¬ 9223372036854775807 < x.size + l[j].size := by omega
      have HX : Hid _ := hx
      have HX2 : Hid _ := hx2
      clear hx hx2
      generalize l[j] = y at *
      go_wp2
      go_roundw
      case rel => exact ⟨j + 1, x ++ y, by go_num, by omega, rfl, by rw [HX2.out]; simp [HX.out], trivial⟩
      case measure => simp [intOf]; omega
    · have q1 : ¬ (j : Int) < (l.length : Int) := by omega
      obtain rfl : j = l.length := by omega
      obtain ⟨S, hS⟩ : ∃ S : ByteArray, S = x ++ ⟨#[93]⟩ := ⟨_, rfl⟩
      have hSl : S.data.toList = 91 :: (flat l ++ [93]) := by rw [hS, ByteArray.data_append]; simp [hx]
      have hSz : S.size = x.size + 1 := by rw [hS, ByteArray.size_append]; rfl
      have hk := hpk S.size (by omega) (by omega)
      have hkl := pk_lt cut S.size (by omega)
      have hcs := Jv.cuts_of HTW.out S hSl (by omega) (pk cut S.size) hkl
      generalize pk cut S.size = n at *
      obtain ⟨⟨p, hpn, hpp⟩, hpm, hpo, hpr⟩ := hcs
      have hS4 : S.size ≤ 4000 := by omega
      have hPz : (S.extract 0 n).size ≤ 4000 := by simp [ByteArray.size_extract]; omega
      have hQz : (S ++ ⟨#[93]⟩).size ≤ 4001 := by rw [ByteArray.size_append]; show S.size + 1 ≤ _; omega
      obtain ⟨P, hP⟩ : ∃ P : ByteArray, S.extract 0 n = P := ⟨_, rfl⟩
      obtain ⟨Q, hQ⟩ : ∃ Q : ByteArray, S ++ ⟨#[93]⟩ = Q := ⟨_, rfl⟩
      rw [hP] at hpp hPz
      rw [hQ] at hpm hQz
      have hS' := hS.symm
      have hc1 := fun c W hW => Tryz.parse_bad P _ _ hpp c W (by omega) hW
      have hc2 := fun c W hW => Tryz.parse_bad Q _ _ hpm c W (by omega) hW
      have hc3 := fun c W hW => Tryz.parse_ok S _ hpo c W (by omega) hW
      have hpt := fun (W : World) (y : Nat) hy hW => Tryz.print_any (.list [v]) W y hy hW (by
        have : (⟨(pr (.list [v])).toArray⟩ : ByteArray).size = (pr (.list [v])).length := by simp [ByteArray.size]
        rw [hpr] at this
        omega)
      rw [hpr] at hpt
      have hsb1 := Tryz.conv_sb P
      have hsb2 := Tryz.conv_sb Q
      have hsb3 := Tryz.conv_sb S
      have hT2 := HT.out.below hb12 HT.out.size
      have r1 : (n : Int) ≤ (S.size : Int) := by omega
      have r2 : (p : Int) ≤ (n : Int) := by omega
      have r3 : (0 : Int) ≤ (p : Int) := by omega
      clear hSz hSl hpk hpp hpm hpo HTW HCL hx hS hpr hf2096 hl521 hlj hj hl0 q1 hkl hpn
      have HC2 : Hid (∀ (c : Nat) (W : World), Tryz.Tb W → Calls Tryz.prog 8 #[.slice (some ⟨W.heap.size, 0, none⟩) Q.size c] (Lib.bytesWorld W 5 Q) fun en w' =>
        ∃ y, en = .returned (.tuple #[.pointer none, .iface 40 (.pointer (some ⟨y, 0, none⟩))]) ∧ w'.cell? ⟨y, 0, none⟩ = some (.int .i64 S.size) ∧ w'.cell? ⟨y, 1, none⟩ = some (.int .i64 (20 : Nat)) ∧ Below W.heap.size W w') := hc2
      have HC3 : Hid (∀ (c : Nat) (W : World), Tryz.Tb W → Calls Tryz.prog 8 #[.slice (some ⟨W.heap.size, 0, none⟩) S.size c] (Lib.bytesWorld W 5 S) fun en w' =>
        ∃ x, en = .returned (.tuple #[.pointer (some ⟨x, 0, none⟩), .nilIface]) ∧ Tryz.Tr w' (fun g => W.heap.size ≤ g) (.list [v]) x ∧ Below W.heap.size W w') := hc3
      clear hc2 hc3
      go_upto_region 14 with (first
        | (go_at_call 10; refine (hk _).mono ?_; clear hk; rintro e3 w3 ⟨rfl, hw3⟩; obtain rfl := hw3.symm)
        | (go_at_call 8; refine (hc1 _ _ hT2).mono ?_; clear hc1; rintro e4 w4 ⟨y1, rfl, hy0, hy1, hb4⟩; have hT4 := hT2.below hb4 hT2.size; have hf1 := Tryz.lawFault_some w4 y1 p 20 hy0 hy1 (by omega))
        | (go_at_call 11; refine hf1.mono ?_; clear hf1; rintro e5 w5 ⟨rfl, hw5⟩; have hb5 : Below w2.heap.size w2 w5 := (by obtain ⟨k5, rfl⟩ := hw5; exact Jv.belowN hb4 _); clear hw5)
        | fail)
      clear hb4 hT4 hy0 hy1
      have hT5 := hT2.below hb5 hT2.size
      have hc2 := HC2.out
      go_upto_region 16 with (first
        | (go_at_call 8; refine (hc2 _ _ hT5).mono ?_; clear hc2; rintro e6 w6 ⟨y2, rfl, hz0, hz1, hb6⟩; have hT6 := hT5.below hb6 hT5.size; have hf2 := Tryz.lawFault_some w6 y2 S.size 20 hz0 hz1 (by omega))
        | (go_at_call 11; refine hf2.mono ?_; clear hf2; rintro e7 w7 ⟨rfl, hw7⟩; have hb7 : Below w5.heap.size w5 w7 := (by obtain ⟨k7, rfl⟩ := hw7; exact Jv.belowN hb6 _); clear hw7)
        | fail)
      clear hb6 hT6 hz0 hz1
      have hT7 := hT5.below hb7 hT5.size
      have hc3 := HC3.out
      go_wp2_with (first
        | (go_at_call 8; refine (hc3 _ _ hT7).mono ?_; clear hc3; rintro e8 w8 ⟨y3, rfl, htr, hb8⟩; have hT8 := hT7.below hb8 hT7.size; have hp8 := hpt w8 y3 (Tryz.Tr_mono (fun _ _ h => h) _ _ htr) hT8)
        | (go_at_call 9; refine hp8.mono ?_; clear hp8; rintro e9 w9 ⟨rfl, hb9⟩)
        | fail)
      go_ret
      exact ⟨rfl, Jv.bthen4 (Jv.bthen4 (Jv.bthen4 (Jv.bthen4 hb12 hb5) hb7) hb8) hb9⟩
theorem Tryz.jsonCutWalk {w : World} (rv : Value) (hA : ∃ la, Jv.Iv w rv la ∧ la.length ≤ 9223372036854775807) (cut : Int) (hcut : -9223372036854775808 ≤ cut ∧ cut ≤ 9223372036854775807) (hT : Tryz.Tb w) :
    Calls Tryz.prog 4 #[rv, .int .i64 cut] w fun e w' => e = .returned (.bool true) ∧ Below w.heap.size w w' := by
  obtain ⟨la, h1, h2⟩ := hA
  exact Tryz.jsonCutWalk0 rv la cut w h1 h2 hcut hT
end Go.Proofs
