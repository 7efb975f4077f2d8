/-
  The search among keys; 'key'.
-/
import Derived.Test.YtejibjeidklnkaaGreatDoorJc
import Derived.Test.YtejibjeidklnkaaGreatDoorShelf2
namespace Go.Proofs
open Go.RowKit Go.Jv
theorem Jv.bsGo_congr {f g : Nat → Bool} (h : ∀ t, f t = g t) (n lo hi : Nat) : Lib.bsGo f n lo hi = Lib.bsGo g n lo hi := by
  have : f = g := funext h
  rw [this]
theorem Jv.bsGo_le (f : Nat → Bool) : ∀ (n lo hi : Nat), lo ≤ hi → Lib.bsGo f n lo hi ≤ hi
  | 0, lo, hi, h => h
  | n + 1, lo, hi, h => by
    rw [Lib.bsGo]
    split
    · split
      · exact Jv.bsGo_le f n _ _ (by omega)
      · have := Jv.bsGo_le f n lo ((lo + hi) / 2) (by omega); omega
    · exact h
theorem Jv.place_le (ks : List ByteArray) (k : ByteArray) : place ks k ≤ ks.length := Jv.bsGo_le _ _ _ _ (Nat.zero_le _)
theorem Tryz.search_any {w : World} {lo : Nat} {kv : Value} {ks : List ByteArray} (h : w.ownsRow lo 9 1 kv ks.length (ks.map Value.string)) (hk : ks.length ≤ 64) (x : ByteArray) :
    Calls Tryz.prog 62 #[kv, .string x] w fun e w' => e = .returned (.tuple #[.int .i64 (place ks x : Nat), .bool (decide (ks[place ks x]? = some x))]) ∧ ∃ q, w' = w.drewN q := by
  rcases h.2 with ⟨rfl, h0⟩ | ⟨g, cap, cur, rfl, hBg, hg, hnc, hcm, hcz, htk⟩
  · have e : ks = [] := List.eq_nil_of_length_eq_zero h0
    subst e
    refine (Any2.slices_BinarySearch_string_empty Tryz.laysB26 none 0 x w).mono ?_
    rintro e w' ⟨rfl, hw⟩
    refine ⟨?_, ?_⟩
    · rfl
    · first | exact hw | exact ⟨0, hw⟩
  · simp only [Nat.mul_one] at htk
    have hc : ∀ j, j < ks.length → w.cell? ⟨g, 0 + j, none⟩ = some (.string ((fun t => ks.getD t emp) j)) := fun j hj => by
      rw [Nat.zero_add, cell_of_row _ _ j _ _ _ hg, ← Array.getElem?_toList]
      have h1 : (ks.map Value.string)[j]? = some (.string (ks.getD j emp)) := by
        rw [List.getElem?_map, List.getElem?_eq_getElem hj]
        simp [List.getD_eq_getElem?_getD, hj]
      rw [← htk, List.getElem?_take, if_pos (by simpa using hj)] at h1
      exact h1
    have hp : Lib.bsGo (fun t => Op.bytesLess ((fun t => ks.getD t emp) t).toList x.toList) ks.length 0 ks.length = place ks x := by
      unfold place
      exact Jv.bsGo_congr (fun t => by rw [ByteArray.toList_eq, ByteArray.toList_eq]) _ _ _
    refine (Any2.slices_BinarySearch_string Tryz.laysB26 g 0 ks.length cap (fun t => ks.getD t emp) x w (by omega) hc).mono ?_
    rintro e w' ⟨rfl, hw⟩
    refine ⟨?_, hw⟩
    rw [hp]
    congr 6
    rw [decide_eq_decide]
    constructor
    · rintro ⟨h1, h2⟩
      rw [List.getElem?_eq_getElem h1]
      simp [List.getD_eq_getElem?_getD, h1] at h2
      rw [h2]
    · intro h1
      have h2 := (List.getElem?_eq_some_iff.1 h1).1
      refine ⟨h2, ?_⟩
      show ks.getD _ _ = x
      rw [List.getD_eq_getElem?_getD, h1]; rfl
set_option maxHeartbeats 4000000 in
theorem Tryz.key_any {w : World} {b : Nat} {t : ByteArray} {p o lo : Nat} {kv : Value} {ks : List ByteArray} (h : Rd w b t p o) (hT : Tryz.Tb w) (hbg : 8 ≤ b) (hrow : w.ownsRow lo 9 1 kv ks.length (ks.map Value.string)) (hlo : b < lo) (hks : ks.length ≤ 64) :
    Calls Tryz.prog 48 #[.pointer (some ⟨b, 0, none⟩), kv] w fun en w' =>
      (∃ k q, key t p ks = .ok (k, q) ∧ en = .returned (.tuple #[.string k, .int .i64 (place ks k : Nat)]) ∧ Rd w' b t q o ∧ Wk b w w') ∨ (∃ p' e, key t p ks = .bad p' e ∧ Bad 40 p' e en w' ∧ Wk b w w') := by
  have hp := h.hp
  have ht := h.ht
  have HROW : Hid (w.ownsRow lo 9 1 kv ks.length (ks.map Value.string)) := hrow
  clear hrow
  by_cases hlt : p < t.size
  · have hnn := Jv.next_at hlt
    have hnx := Tryz.next_ok h hlt
    have HR : Hid (Rd w b t p o) := h
    obtain ⟨c0, c1, c2, f0, f1, f2, hb, -, -, -⟩ := h
    by_cases hc : t.get! p = 34
    · rw [hc] at hnn hnx
      have hnx' : Calls Tryz.prog 25 #[.pointer (some ⟨b, 0, none⟩)] w fun en w' => en = .returned (.int .u8 34) ∧ ∃ n, w' = w.drewN n := hnx
      have hK : key t p ks = (Go.Jv.quoted t p).bind fun x => if ks[place ks x.1]? = some x.1 then .bad p eTwice else (Go.Jv.take t (blanks t x.2) 58).bind fun q => .ok (x.1, blanks t q) := by
        unfold key; rw [hnn]; simp [R.bind]
      have HK : Hid (key t p ks = _) := hK
      have hqu := fun n => Tryz.quoted_any (HR.out.drewN n) (hT.drewN n) hbg
      clear hK hnn hnx hc
      go_enter Tryz.func48, Tryz.ntmps48
      go_wp2_with (first | (go_at_call 25; refine hnx'.mono ?_; rintro e1 w1 ⟨rfl, n, rfl⟩) | fail)
      refine (hqu _).mono ?_
      rintro e3 w3 (⟨s, q, hq, rfl, hR3, hW3⟩ | ⟨p1, e1, hq, ⟨y, hy, rfl, hy0, hy1⟩, hk3⟩)
      · have hW3' : Wk b w w3 := Jv.wk_from hW3 rfl rfl rfl rfl
        have hrow3 := Jv.row_wk HROW.out hW3' hlo
        have hse := Tryz.search_any hrow3 hks s
        have HK2 : Hid (key t p ks = if ks[place ks s]? = some s then .bad p eTwice else (Go.Jv.take t (blanks t q) 58).bind fun r => .ok (s, blanks t r)) := HK.out.trans (by rw [hq]; rfl)
        have HR3 : Hid (Rd w3 b t q o) := hR3
        have hb3 := hR3.hb
        clear HK hq hR3
        by_cases htw : ks[place ks s]? = some s
        · have HX : Hid (key t p ks = .bad p eTwice) := HK2.out.trans (if_pos htw)
          rw [decide_eq_true htw] at hse
          clear htw HK2
          go_wp2_with (first | (go_at_call 62; refine hse.mono ?_; rintro e4 w4 ⟨rfl, m, rfl⟩) | (go_at_call 12; refine (Tryz.fault_any _ _ _).mono ?_; rintro e9 w9 ⟨rfl, rfl⟩) | fail)
          have hq := Jv.bad_new (T := 40) (U := 48) (n := m) (p := p) (e := 24) hb3
          exact ⟨rfl, Or.inr ⟨_, _, HX.out, hq.1, hW3'.trans hq.2⟩⟩
        · have HX : Hid (key t p ks = (Go.Jv.take t (blanks t q) 58).bind fun r => .ok (s, blanks t r)) := HK2.out.trans (if_neg htw)
          rw [decide_eq_false htw] at hse
          clear htw HK2
          go_wp2_with (first | (go_at_call 62; refine hse.mono ?_; rintro e4 w4 ⟨rfl, m, rfl⟩) | fail)
          refine (Tryz.blanks_any (HR3.out.drewN m)).mono ?_
          rintro e5 w5 ⟨rfl, hR5, hW5⟩
          have hW5' : Wk b w w5 := hW3'.trans (Jv.wk_from hW5 rfl rfl rfl rfl)
          have hle := Jv.blanks_le t q HR3.out.hp
          by_cases hcol : blanks t q < t.size ∧ t.get! (blanks t q) = 58
          · have htk : Calls Tryz.prog 41 #[.pointer (some ⟨b, 0, none⟩), .int .u8 58] w5 fun en w' => en = .returned (.tuple #[]) ∧ Rd w' b t (blanks t q + 1) o ∧ Wk b w5 w' := Tryz.take_ok (c := 58) hR5 hcol.1 hcol.2
            have HY : Hid (key t p ks = .ok (s, blanks t (blanks t q + 1))) := HX.out.trans (by rw [Jv.take_at hcol.1 hcol.2]; rfl)
            clear HX hcol hle hR5
            go_wp2_with (first | (go_at_call 41; refine htk.mono ?_; rintro e6 w6 ⟨rfl, hR6, hW6⟩) | fail)
            refine (Tryz.blanks_any hR6).mono ?_
            rintro e7 w7 ⟨rfl, hR7, hW7⟩
            go_wp2
            go_ret2
            exact Or.inl ⟨s, _, HY.out, rfl, hR7, (hW5'.trans hW6).trans hW7⟩
          · have HY : Hid (key t p ks = .bad (blanks t q) eSyntax) := HX.out.trans (by rw [Jv.take_not hcol]; rfl)
            have htk : Calls Tryz.prog 41 #[.pointer (some ⟨b, 0, none⟩), .int .u8 58] w5 fun en w' => Bad 40 (blanks t q) eSyntax en w' ∧ Wk b w5 w' := by
              by_cases hl : blanks t q < t.size
              · exact Tryz.take_other (c := 58) hR5 hl (fun h => hcol ⟨hl, h⟩)
              · have hs : blanks t q = t.size := by omega
                rw [hs] at hR5 ⊢
                exact Tryz.take_end (c := 58) hR5
            clear HX hcol hle hR5
            go_wp2_with (first | (go_at_call 41; refine htk.mono ?_; rintro e6 w6 ⟨⟨y, hy, rfl, hy0, hy1⟩, hk3⟩) | fail)
            exact ⟨rfl, Or.inr ⟨_, _, HY.out, ⟨y, hy, rfl, hy0, hy1⟩, hW5'.trans hk3⟩⟩
      · exact ⟨rfl, Or.inr ⟨_, _, HK.out.trans (by rw [hq]; rfl), ⟨y, hy, rfl, hy0, hy1⟩, Jv.wk_from hk3 rfl rfl rfl rfl⟩⟩
    · have hcn : ¬ ((t.get! p).toNat : Int) = 34 := Jv.u8_ne hc
      have hK : key t p ks = .bad p eSyntax := by unfold key; rw [hnn]; simp only [R.bind]; rw [if_pos hc]
      have HX : Hid (key t p ks = .bad p eSyntax) := hK
      generalize t.get! p = c at *
      clear hK hnn hc
      go_enter Tryz.func48, Tryz.ntmps48
      go_wp2_with (first | (go_at_call 25; refine hnx.mono ?_; rintro e1 w1 ⟨rfl, n, rfl⟩) | (go_at_call 12; refine (Tryz.fault_any _ _ _).mono ?_; rintro e9 w9 ⟨rfl, rfl⟩) | fail)
      have hq := Jv.bad_new (T := 40) (U := 48) (n := n) (p := p) (e := 20) hb
      exact ⟨rfl, Or.inr ⟨_, _, HX.out, hq.1, hq.2⟩⟩
  · obtain rfl : p = t.size := by omega
    have hK : key t t.size ks = .bad t.size eSyntax := by unfold key; rw [Jv.next_end hlt]; rfl
    have HX : Hid (key t t.size ks = .bad t.size eSyntax) := hK
    have hnx := Tryz.next_bad h
    obtain ⟨c0, c1, c2, f0, f1, f2, hb, -, -, -⟩ := h
    clear hK
    go_enter Tryz.func48, Tryz.ntmps48
    go_wp2_with (first | (go_at_call 25; refine hnx.mono ?_; rintro e1 w1 ⟨⟨y, hy, rfl, hy0, hy1⟩, hk3⟩) | fail)
    exact ⟨rfl, Or.inr ⟨_, _, HX.out, ⟨y, hy, rfl, hy0, hy1⟩, hk3⟩⟩
end Go.Proofs
