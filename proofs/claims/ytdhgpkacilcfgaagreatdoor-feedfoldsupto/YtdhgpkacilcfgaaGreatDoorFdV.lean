/-
  FEED: Since, in part.
-/
import Derived.Test.YtdhgpkacilcfgaaGreatDoorFdU
namespace Go.Proofs
open Go.RowKit Go.Wi Go.Fd Go.Sort
set_option maxRecDepth 20000 in
set_option maxHeartbeats 2000000 in
theorem Tryz.since_part {w : World} {own : ByteArray → Nat → Prop} {p : ByteArray → Nat} {hb mb n : Nat} {F : ByteArray → Option Sh} (h : Tryz.Hb w own p hb mb n F) (hT : Tryz.Tb w) (u : ByteArray) (hu : u.size ≤ maxLen) (s : ByteArray) {k : Nat} (hk : Fd.At s k) (h1 : ((F u).getD sh0).1 - 50 ≤ k) (h2 : k ≤ ((F u).getD sh0).1) {t : List Cn} (ht : ((F u).getD sh0).2[k - (((F u).getD sh0).1 - 50)]? = some t) :
    Calls Tryz.prog 8 #[.pointer (some ⟨hb, 0, none⟩), .string u, .string s] w fun e w' => ∃ V G l, e = .returned (.tuple #[V, G, .bool false, .string (Fd.fmt ((F u).getD sh0).1), .int .i64 0]) ∧ ((F u).getD sh0).2.getLast? = some l ∧ w'.ownsRow w.heap.size 39 3 V (changed l t).length (cnCells (changed l t)) ∧ w'.ownsRow w.heap.size 9 1 G (goneL l t).length ((goneL l t).map Value.string) ∧ Below w.heap.size w w' := by
  have hsh := Tryz.shelf_any h u hu
  have hmx : Tryz.prog.follows .mixedOrders = true := by kernel_rfl
  have HT : Hid (Tryz.Tb w) := hT
  have hq : (s.toList == ([] : List UInt8)) = false := by
    rw [beq_eq_false_iff_ne]
    intro e
    refine Fd.fmt_ne k ?_
    rw [← hk.2]
    exact toList_inj (by rw [e, ByteArray.toList_eq])
  clear h hT
  generalize ((F u).getD sh0) = NS at *
  obtain ⟨N, S⟩ := NS
  simp only at *
  have HK : Hid (Fd.At s k ∧ N - 50 ≤ k ∧ k ≤ N ∧ S[k - (N - 50)]? = some t) := ⟨hk, h1, h2, ht⟩
  clear hk h1 h2 ht
  go_enter Tryz.func8, Tryz.ntmps8
  go_upto_region 2 with (first
    | (go_at_call 18; refine hsh.mono ?_; clear hsh; rintro e w1 ⟨sb, own0, rfl, hS, ho1, ho2, ho3, hb1⟩)
    | fail)
  have HSf : Hid (Tryz.Sf w1 own0 sb N S) := hS
  have HB1 : Hid (Below w.heap.size w w1) := hb1
  clear ho1 ho2 ho3 hS hb1
  have FIN : Hid (∀ (w3 : World), Below w1.heap.size w1 w3 → ∃ v l, S.getLast? = some l ∧ Tryz.Reg w3 sb N v l) := fun w3 hb3 => by
    obtain ⟨v, hR⟩ := (HSf.out.below hb3 (Nat.le_refl _)).reg ((HT.out.past HB1.out).past hb3)
    exact ⟨v, _, List.getLast?_eq_some_getLast HSf.out.pos, hR⟩
  have hkn := Tryz.knows_at HSf.out (HT.out.past HB1.out) HK.out.1
  rw [decide_eq_true HK.out.2.2.1] at hkn
  go_upto_region 4 with (first
    | (go_at_call 21; refine hkn.mono ?_; clear hkn; rintro e w2 ⟨rfl, hb2⟩)
    | fail)
  have hjl : k - (N - 50) < S.length := (List.getElem?_eq_some_iff.1 HK.out.2.2.2).1
  have hjt : S[k - (N - 50)] = t := (List.getElem?_eq_some_iff.1 HK.out.2.2.2).2
  have hf := Tryz.find_kept (HSf.out.below hb2 (Nat.le_refl _)) ((HT.out.past HB1.out).past hb2) HK.out.1 HK.out.2.1 HK.out.2.2.1 hjl
  rw [hjt] at hf
  have HTm : Hid (t ∈ S) := by show t ∈ S; rw [← hjt]; exact List.getElem_mem hjl
  clear hjl hjt
  go_upto_region 7 with (first
    | (go_at_call 22; refine hf.mono ?_; clear hf; rintro e w3 ⟨U, rfl, hU1, hU2, hb3⟩)
    | fail)
  have HU3 : Hid (Cs w3 U t ∧ (∀ k, U.ownBlock = some k → k < w3.heap.size) ∧ t.length ≤ 4398046511104) := ⟨hU1.past hb3, fun k e => Nat.lt_of_lt_of_le (HSf.out.lt k (hU2 k e)) (Nat.le_trans hb2.size hb3.size), HSf.out.few t HTm.out⟩
  have hb3' := Fd.bel_on hb2 hb2.size hb3
  clear hb2 hb3 hU1 hU2
  have hb3 := hb3'
  clear hb3'
  obtain ⟨v, l, hgl, hR⟩ := FIN.out w3 hb3
  have HGL : Hid (S.getLast? = some l) := hgl
  have HB3 : Hid (Below w.heap.size w w3) := Fd.bel_on HB1.out HB1.out.size hb3
  have hpr : ∀ W : World, (W.cell? ⟨sb, 0, none⟩ = some (.int .i64 (N : Int)) ∧ Below w3.heap.size w3 W) → Calls Tryz.prog 24 #[.pointer (some ⟨sb, 0, none⟩)] W fun e w' => e = .returned v ∧ Below W.heap.size W w' ∧ w'.cell? ⟨sb, 0, none⟩ = some (.int .i64 (N : Int)) ∧ Below w3.heap.size w3 w' := fun W hS => hR.pr W hS.2
  have hpl : ∀ W : World, (W.cell? ⟨sb, 0, none⟩ = some (.int .i64 (N : Int)) ∧ Below w3.heap.size w3 W) → Calls Tryz.prog 25 #[.int .i64 (N : Int)] W fun e w' => e = .returned (.string (Fd.fmt N)) ∧ Below W.heap.size W w' ∧ w'.cell? ⟨sb, 0, none⟩ = some (.int .i64 (N : Int)) ∧ Below w3.heap.size w3 w' := fun W hS => hR.pl W hS.2
  have hdr : w3.drew.cell? ⟨sb, 0, none⟩ = some (.int .i64 (N : Int)) ∧ Below w3.heap.size w3 w3.drew := ⟨hR.nm, (Below.refl _ w3).drew⟩
  have hch : ∀ W : World, (W.cell? ⟨sb, 0, none⟩ = some (.int .i64 (N : Int)) ∧ Below w3.heap.size w3 W) → Calls Tryz.prog 26 #[v, U] W fun e w' => ∃ V', e = .returned V' ∧ w'.ownsRow w3.heap.size 39 3 V' (changed l t).length (cnCells (changed l t)) ∧ Below W.heap.size W w' ∧ w'.cell? ⟨sb, 0, none⟩ = some (.int .i64 (N : Int)) ∧ Below w3.heap.size w3 w' := fun W hS => hR.ch HU3.out.1 HU3.out.2.1 HU3.out.2.2 W hS.2
  have hgo : ∀ W : World, (W.cell? ⟨sb, 0, none⟩ = some (.int .i64 (N : Int)) ∧ Below w3.heap.size w3 W) → Calls Tryz.prog 27 #[v, U] W fun e w' => ∃ V', e = .returned V' ∧ w'.ownsRow w3.heap.size 9 1 V' (goneL l t).length ((goneL l t).map Value.string) ∧ Below W.heap.size W w' ∧ w'.cell? ⟨sb, 0, none⟩ = some (.int .i64 (N : Int)) ∧ Below w3.heap.size w3 w' := fun W hS => hR.go HU3.out.1 HU3.out.2.1 HU3.out.2.2 W hS.2
  clear hR FIN HSf HB1 HT HU3 hgl hb3
  go_region_held3 (fun W => W.cell? ⟨sb, 0, none⟩ = some (.int .i64 (N : Int)) ∧ Below w3.heap.size w3 W) (first | assumption | exact hdr)
    (first
      | (go_at_call 24; refine (hpr _ (by assumption)).mono ?_; rintro e W1 ⟨rfl, hb11, hS11⟩)
      | (go_at_call 26; refine (hch _ (by assumption)).mono ?_; rintro e W2 ⟨V2, rfl, hr22, hb22, hS22⟩)
      | (go_at_call 27; refine (hgo _ (by assumption)).mono ?_; rintro e W4 ⟨V4, rfl, hr44, hb44, hS44⟩)
      | (go_at_call 25; refine (hpl _ (by assumption)).mono ?_; rintro e W3 ⟨rfl, hb33, hS33⟩)
      | fail)
  all_goals
    clear hpr hpl hch hgo hdr
    go_wp2
    refine bodyPost_ret (Fd.results_tmp5 rfl _ _ _) rfl ?_
    refine ⟨_, _, l, rfl, HGL.out, Fd.row_mono (by repeat (first | assumption | refine Fd.row_on ?_ (by assumption))) HB3.out.size, Fd.row_mono (by repeat (first | assumption | refine Fd.row_on ?_ (by assumption))) HB3.out.size, Fd.bel_on HB3.out HB3.out.size (Fd.snd (by assumption))⟩
end Go.Proofs
