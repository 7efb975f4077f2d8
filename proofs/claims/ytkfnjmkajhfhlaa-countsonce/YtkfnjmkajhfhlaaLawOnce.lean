/-
  CountsOnce: its walk.
-/
import Derived.Test.YtkfnjmkajhfhlaaCi
import Derived.Test.YtkfnjmkajhfhlaaStrs
namespace Go.Proofs
open Go.RowKit Go.Wi Go.Ct
theorem Ct.place_add (s : St) (r e x : ByteArray) (hp : place s.ev e = none) : place (s.add r e).ev x = if x = e then some (s.ev.length + 1) else place s.ev x := by
  simp only [St.add, place_app]
  by_cases h : x = e
  · subst h; simp [hp]
  · have : ¬ e = x := fun q => h q.symm
    simp [this, h]
theorem Ct.fnd_new (s : St) (r e r' : ByteArray) (hp : place s.ev e = none) : fnd (s.add r e) r' e = if r = r' then s.ev.length + 1 else 0 := by
  unfold fnd
  rw [Ct.place_add s r e e hp]
  simp [St.add]
set_option maxHeartbeats 16000000 in
set_option maxRecDepth 20000 in
theorem Try.countsOnceWalk (rv : Value) (rs : List ByteArray) (ev : Value) (es : List ByteArray) (w : World) (hR : Strs w rv rs) (hRb : ∀ X ∈ rs, X.size ≤ 140737488351232) (hE : Strs w ev es) (hEb : ∀ X ∈ es, X.size ≤ 140737488351232) :
    Calls Try.prog 3 #[rv, ev] w fun z w' => z = .returned (.bool true) ∧ Below w.heap.size w w' := by
  have haw := Try.awake_any w
  obtain ⟨hrm, ra, rc, rb, ro, rfl, hr2, hr3⟩ := hR
  obtain ⟨hem, ea, ec, eb, eo, rfl, he2, he3⟩ := hE
  have HR2 : Hid _ := hr2
  have HR3 : Hid _ := hr3
  have HE2 : Hid _ := he2
  have HE3 : Hid _ := he3
  have HRB : Hid _ := hRb
  have HEB : Hid _ := hEb
  clear hr2 hr3 he2 he3 hRb hEb
  generalize hrl : rs.length = rl at *
  generalize hel : es.length = el at *
  go_enter Try.func3, Try.ntmps3
  go_wp2_with (first
    | (go_at_call 6; refine haw.mono ?_; clear haw; rintro z w1 ⟨rfl, hb1⟩; have hnew := Try.new_f w1; have HB1 : Hid _ := hb1; clear hb1)
    | (go_at_call 7; refine hnew.mono ?_; clear hnew; rintro z w2 ⟨b, rfl, hB2, hb2⟩; have HBF : Hid (Try.Bf w.heap.size w2 b St.new 0) := hB2.floor HB1.out.size; have HB2 : Hid (Below w.heap.size w w2) := HB1.out.trans (hb2.mono HB1.out.size); clear hB2 hb2)
    | fail)
  go_loopw [7, 8] (fun nv iv wr => ∃ (i : Nat) (s : St) (nb : Nat), iv = .int .i64 i ∧ nv = .int .i64 (s.ev.length : Nat) ∧ i ≤ el ∧ i ≤ 1000 ∧ nb ≤ i ∧ s.ev.length ≤ i ∧ Try.Bf w.heap.size wr b s nb ∧ (∀ e, place s.ev e = none ↔ e ∉ es.take i) ∧ (∀ r u k, s.nt r u k = none) ∧ Below w.heap.size w wr) (fun _ iv _ => 1000 - (intOf iv).toNat)
  case atStart => exact ⟨0, St.new, 0, rfl, rfl, by omega, by omega, by omega, by simp [St.new], HBF.out, fun e => by simp [St.new, place], fun _ _ _ => rfl, HB2.out⟩
  case round =>
    obtain ⟨i, s, nb, rfl, rfl, hi1, hi2, hnb, hsl, hB, hpl, hnt, hbel⟩ := hrel
    clear HBF HB2 HB1
    generalize hsl2 : s.ev.length = sl at *
    by_cases hc : i < el ∧ i < 1000
    · have q1 : (i : Int) < (el : Int) := by omega
      have q2 : (i : Int) < 1000 := by omega
      obtain ⟨x, hx⟩ : ∃ x, es[i]? = some x := ⟨_, List.getElem?_eq_getElem (by omega)⟩
      have hxb : x.size ≤ 140737488351232 := HEB.out x (List.mem_of_getElem? hx)
      have HB : Hid _ := hB
      have HPL : Hid _ := hpl
      have HNT : Hid _ := hnt
      have HBEL : Hid _ := hbel
      clear hB hpl hnt hbel
      obtain ⟨rfl, hebl⟩ := HE2.out (by omega)
      have cx : ∀ W, Below w.heap.size w W → W.cell? ⟨eb, eo + i, none⟩ = some (.string x) := fun W hW => (hW.cell (p := ⟨eb, eo + i, none⟩) hebl).trans (HE3.out i x hx)
      obtain ⟨r, hrb, hr0⟩ : ∃ r : ByteArray, r.size ≤ 140737488351232 ∧ ((¬ (i : Int) < (rl : Int) ∧ r = ⟨#[]⟩) ∨ ((i : Int) < (rl : Int) ∧ ra = some ⟨rb, ro, none⟩ ∧ wr.cell? ⟨rb, ro + i, none⟩ = some (.string r))) := by
        by_cases hir : i < rl
        · obtain ⟨y, hy⟩ : ∃ y, rs[i]? = some y := ⟨_, List.getElem?_eq_getElem (by omega)⟩
          have h2 := HR2.out (by omega)
          exact ⟨y, HRB.out y (List.mem_of_getElem? hy), .inr ⟨by omega, h2.1, (HBEL.out.cell (p := ⟨rb, ro + i, none⟩) h2.2).trans (HR3.out i y hy)⟩⟩
        · exact ⟨⟨#[]⟩, by decide, .inl ⟨by omega, rfl⟩⟩
      have CX : Hid _ := cx
      clear cx
      have hq : (¬ (i : Int) < (rl : Int) ∧ r = ⟨#[]⟩) ∨ ((i : Int) < (rl : Int) ∧ ra = some ⟨rb, ro, none⟩ ∧ wr.cell? ⟨rb, ro + i, none⟩ = some (.string r)) := hr0
      clear hr0
      rcases hq with ⟨q3, hr0⟩ | ⟨q3, rfl, cr⟩
      all_goals
        go_wp2
        go_loopw [10, 11] (fun kv jv wr' => ∃ (j : Nat) (kn : Bool), jv = .int .i64 j ∧ j ≤ i ∧ kv = .bool kn ∧ (kn = true ↔ x ∈ es.take j) ∧ Try.Bf w.heap.size wr' b s nb ∧ Below w.heap.size w wr') (fun _ jv _ => i - (intOf jv).toNat)
        case atStart => exact ⟨0, false, rfl, by omega, rfl, by simp, HB.out, HBEL.out⟩
        case round =>
          obtain ⟨j, kn, rfl, hji, rfl, hkn, hBj, hbelj⟩ := hrel
          clear HB HBEL
          have cxi := CX.out _ hbelj
          by_cases hj : j < i
          · have q4 : (j : Int) < (i : Int) := by omega
            obtain ⟨y, hy⟩ : ∃ y, es[j]? = some y := ⟨_, List.getElem?_eq_getElem (by omega)⟩
            have cy := (hbelj.cell (p := ⟨eb, eo + j, none⟩) hebl).trans (HE3.out j y hy)
            have htk : es.take (j + 1) = es.take j ++ [y] := by rw [List.take_add_one, hy]; rfl
            have HBJ : Hid _ := hBj
            have HBELJ : Hid _ := hbelj
            have HTK : Hid _ := htk
            clear hBj hbelj htk
            cases kn with
            | true =>
              have HKM : Hid (x ∈ es.take j) := hkn.1 rfl
              clear hkn
              go_wp2
              go_quiet (fail)
              go_wp2
              go_roundw
              case rel => exact ⟨j + 1, true, by go_num, by omega, rfl, by rw [HTK.out]; simp [HKM.out], HBJ.out.below (Wi.belowN (Below.refl _ _) _), Wi.belowN HBELJ.out _⟩
              case measure => simp [intOf]; omega
            | false =>
              have hnk : x ∉ es.take j := fun e => by have := hkn.2 e; cases this
              have HNK : Hid _ := hnk
              clear hnk hkn
              by_cases hxy : y = x
              · subst hxy
                go_wp2
                go_quiet (fail)
                go_wp2
                go_roundw
                case rel => exact ⟨j + 1, true, by go_num, by omega, rfl, by rw [HTK.out]; simp, HBJ.out.below (Wi.belowN (Below.refl _ _) _), Wi.belowN HBELJ.out _⟩
                case measure => simp [intOf]; omega
              · have hne := Ct.str_ne hxy
                go_wp2
                go_quiet (fail)
                go_wp2
                go_roundw
                case rel => exact ⟨j + 1, false, by go_num, by omega, rfl, by rw [HTK.out]; simp only [List.mem_append, List.mem_singleton, Bool.false_eq_true, false_iff, not_or]; exact ⟨HNK.out, Ne.symm hxy⟩, HBJ.out.below (Wi.belowN (Below.refl _ _) _), Wi.belowN HBELJ.out _⟩
                case measure => simp [intOf]; omega
          · obtain rfl : j = i := by omega
            try rw [← hr0]
            try clear hr0
            have htk : es.take (j + 1) = es.take j ++ [x] := by rw [List.take_add_one, hx]; rfl
            have HTK : Hid _ := htk
            have hbw := hbelj.size
            clear htk
            cases kn with
            | true =>
              have hmem := hkn.1 rfl
              obtain ⟨k, hk⟩ : ∃ k, place s.ev x = some k := by
                cases h : place s.ev x with
                | none => exact absurd hmem ((HPL.out x).1 h)
                | some k => exact ⟨k, rfl⟩
              have hev := Try.known_f hBj r x (by unfold maxLen; omega) hk
              have HMEM : Hid _ := hmem
              have HBJ : Hid _ := hBj
              have HBELJ : Hid _ := hbelj
              clear hkn hmem hBj hbelj hk
              go_wp2_with (first
                | (go_at_call 8; refine hev.mono ?_; clear hev; rintro z w5 ⟨rfl, rfl⟩)
                | fail)
              go_roundw
              case rel => exact ⟨j + 1, s, nb, by go_num, by rw [hsl2], by omega, by omega, by omega, by omega, HBJ.out, fun e => by rw [HPL.out e, HTK.out]; simp; rintro h rfl; exact h HMEM.out, HNT.out, HBELJ.out⟩
              case measure => simp [intOf]; omega
            | false =>
              have hnm : x ∉ es.take j := fun e => by have := hkn.2 e; cases this
              have hpn := (HPL.out x).2 hnm
              have hev := Try.event_f hBj (by unfold maxLen; omega) r x (by unfold maxLen; omega) hpn (by omega)
              have hf1 : fnd (s.add r x) (r ++ ⟨#[120]⟩) x = 0 := by
                rw [Ct.fnd_new s r x _ hpn, if_neg]
                intro e
                have h7 := congrArg ByteArray.size e
                have h8 : (r ++ ⟨#[120]⟩ : ByteArray).size = r.size + 1 := by rw [ByteArray.size_append]; rfl
                omega
              have hf2 : fnd (s.add r x) r x ≠ 0 := by rw [Ct.fnd_new s r x _ hpn, if_pos rfl]; omega
              have HF1 : Hid _ := hf1
              have HF2 : Hid _ := hf2
              have HNM : Hid _ := hnm
              have HPN : Hid _ := hpn
              have HBELJ : Hid _ := hbelj
              clear hkn hnm hBj hbelj hpn hf1 hf2
              rw [hsl2] at hev
              go_wp2_with (first
                | (go_at_call 8; refine hev.mono ?_; clear hev; rintro z w5 ⟨rfl, hB5, hb5⟩; have cx5 := CX.out _ (HBELJ.out.trans hb5); have hno1 := Try.noteBad_f hB5 Ct.tA (r ++ ⟨#[120]⟩) x (by unfold maxLen; omega) true false ⟨#[]⟩ (.inl HF1.out); rw [if_pos HF1.out] at hno1; have HB5 : Hid _ := hb5; clear hB5 hb5)
                | (go_at_call 9; refine hno1.mono ?_; clear hno1; rintro z w6 ⟨rfl, hB6, hb6⟩; have cx6 := CX.out _ ((HBELJ.out.trans HB5.out).trans hb6); have hno2 := Try.noteBad_f hB6 Ct.tA r x (by unfold maxLen; omega) false true ⟨#[]⟩ (.inr rfl); rw [if_neg HF2.out] at hno2; have HB6 : Hid _ := hb6; clear hB6 hb6)
                | (go_at_call 9; refine hno2.mono ?_; clear hno2; rintro z w7 ⟨rfl, hB7, hb7⟩; have HB7 : Hid _ := hb7; have HBF7 : Hid _ := hB7; clear hB7 hb7)
                | fail)
              go_roundw
              case rel =>
                refine ⟨j + 1, s.add r x, nb + 1, by go_num, by simp [St.add, hsl2], by omega, by omega, by omega, by simp [St.add]; omega, HBF7.out, fun e => ?_, HNT.out, ((HBELJ.out.trans HB5.out).trans HB6.out).trans HB7.out⟩
                rw [Ct.place_add s r x e HPN.out, HTK.out, List.mem_append]
                by_cases hex : e = x
                · simp [hex]
                · rw [if_neg hex, HPL.out e]; simp [hex]
              case measure => simp [intOf]; omega
    · have hrot := Try.rotate_f hB (by omega)
      have HNT : Hid _ := hnt
      have HBEL : Hid _ := hbel
      clear hB hpl hnt hbel
      have hq : ¬ ((i : Int) < (el : Int)) ∨ ((i : Int) < (el : Int) ∧ ¬ ((i : Int) < 1000)) := by omega
      rcases hq with q1 | ⟨q1, q2⟩
      all_goals
        go_wp2_with (first
          | (go_at_call 10; refine hrot.mono ?_; clear hrot; rintro z w4 ⟨⟨L, rfl, hL1, hL2⟩, hB4, hb4⟩; obtain rfl : L = [] := (by cases L with | nil => rfl | cons y l => exact absurd ((hL2 y).1 (by simp)) (by rw [HNT.out]; simp)))
          | fail)
        go_ret
        exact ⟨rfl, HBEL.out.trans hb4⟩
end Go.Proofs
