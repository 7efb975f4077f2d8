/-
  FEED: Since, whole and in part.
-/
import Derived.Test.YtdhgpkacilcfgaaGreatDoorFdT
namespace Go.Proofs
open Go.RowKit Go.Wi Go.Fd Go.Sort
theorem Fd.results_tmp5 {fn : Func} {t u v x y : Tmp} (h : fn.results = #[.tmp t, .tmp u, .tmp v, .tmp x, .tmp y]) (tmps : Array Value) (P : Program) (w : World) :
    (results fn tmps).run P w = .ok (.tuple #[tmps.getD t undef, tmps.getD u undef, tmps.getD v undef, tmps.getD x undef, tmps.getD y undef]) w := by
  simp [results, h]
theorem Fd.row_on {w w' : World} {B n k : Nat} {T : TypeId} {V : Value} {cs : List Value} (h : w.ownsRow B T k V n cs) (g : Below w.heap.size w w') : w'.ownsRow B T k V n cs := Fd.row_past h g (Nat.le_refl _)
theorem Fd.bel_on {C : Nat} {w w1 w' : World} (h : Below C w w1) (hC : C ≤ w1.heap.size) (g : Below w1.heap.size w1 w') : Below C w w' := h.trans (g.mono hC)
theorem Fd.snd {a b : Prop} (h : a ∧ b) : b := h.2
/-- 'Clone' of the present sheet, wherever the region has come to. -/
theorem Tryz.Reg.cl {w : World} {sb N : Nat} {v : Value} {l : List Cn} (h : Tryz.Reg w sb N v l) (W : World) (hW : Below w.heap.size w W) :
    Calls Tryz.prog 23 #[v] W fun e w' => ∃ V', e = .returned V' ∧ w'.ownsRow w.heap.size 39 3 V' l.length (cnCells l) ∧ Below W.heap.size W w' ∧ w'.cell? ⟨sb, 0, none⟩ = some (.int .i64 (N : Int)) ∧ Below w.heap.size w w' := by
  refine (Tryz.clone_sh (h.vl.1.past hW) (fun k e => Nat.lt_of_lt_of_le (h.vl.2.1 k e) hW.size) h.vl.2.2).mono ?_
  rintro e w' ⟨V', rfl, hr, hb⟩
  have hb2 := Fd.bel_on hW hW.size hb
  exact ⟨V', rfl, Fd.row_mono hr hW.size, hb, (hb2.cell (p := ⟨sb, 0, none⟩) h.sbl).trans h.nm, hb2⟩
theorem Tryz.Reg.ch {w : World} {sb N : Nat} {v : Value} {l : List Cn} (h : Tryz.Reg w sb N v l) {U : Value} {t : List Cn} (hU : Cs w U t) (hU2 : ∀ k, U.ownBlock = some k → k < w.heap.size) (ht : t.length ≤ 4398046511104) (W : World) (hW : Below w.heap.size w W) :
    Calls Tryz.prog 26 #[v, U] W fun e w' => ∃ V', e = .returned V' ∧ w'.ownsRow w.heap.size 39 3 V' (changed l t).length (cnCells (changed l t)) ∧ Below W.heap.size W w' ∧ w'.cell? ⟨sb, 0, none⟩ = some (.int .i64 (N : Int)) ∧ Below w.heap.size w w' := by
  refine (Tryz.changed_any (h.vl.1.past hW) (fun k e => Nat.lt_of_lt_of_le (h.vl.2.1 k e) hW.size) (hU.past hW) (fun k e => Nat.lt_of_lt_of_le (hU2 k e) hW.size) h.vl.2.2 ht).mono ?_
  rintro e w' ⟨V', rfl, hr, hb⟩
  have hb2 := Fd.bel_on hW hW.size hb
  exact ⟨V', rfl, Fd.row_mono hr hW.size, hb, (hb2.cell (p := ⟨sb, 0, none⟩) h.sbl).trans h.nm, hb2⟩
theorem Tryz.Reg.go {w : World} {sb N : Nat} {v : Value} {l : List Cn} (h : Tryz.Reg w sb N v l) {U : Value} {t : List Cn} (hU : Cs w U t) (hU2 : ∀ k, U.ownBlock = some k → k < w.heap.size) (ht : t.length ≤ 4398046511104) (W : World) (hW : Below w.heap.size w W) :
    Calls Tryz.prog 27 #[v, U] W fun e w' => ∃ V', e = .returned V' ∧ w'.ownsRow w.heap.size 9 1 V' (goneL l t).length ((goneL l t).map Value.string) ∧ Below W.heap.size W w' ∧ w'.cell? ⟨sb, 0, none⟩ = some (.int .i64 (N : Int)) ∧ Below w.heap.size w w' := by
  refine (Tryz.gone_any (h.vl.1.past hW) (fun k e => Nat.lt_of_lt_of_le (h.vl.2.1 k e) hW.size) (hU.past hW) (fun k e => Nat.lt_of_lt_of_le (hU2 k e) hW.size) h.vl.2.2 ht).mono ?_
  rintro e w' ⟨V', rfl, hr, hb⟩
  have hb2 := Fd.bel_on hW hW.size hb
  exact ⟨V', rfl, Fd.row_mono hr hW.size, hb, (hb2.cell (p := ⟨sb, 0, none⟩) h.sbl).trans h.nm, hb2⟩
set_option maxRecDepth 20000 in
set_option maxHeartbeats 1000000 in
theorem Tryz.since_whole {w : World} {own : ByteArray → Nat → Prop} {p : ByteArray → Nat} {hb mb n : Nat} {F : ByteArray → Option Sh} (h : Tryz.Hb w own p hb mb n F) (hT : Tryz.Tb w) (u : ByteArray) (hu : u.size ≤ maxLen) (s : ByteArray) (hs : s = ⟨#[]⟩ ∨ ∃ k, Fd.At s k ∧ k < ((F u).getD sh0).1 - 50) :
    Calls Tryz.prog 8 #[.pointer (some ⟨hb, 0, none⟩), .string u, .string s] w fun e w' => ∃ V l, e = .returned (.tuple #[V, .slice none 0 0, .bool true, .string (Fd.fmt ((F u).getD sh0).1), .int .i64 0]) ∧ ((F u).getD sh0).2.getLast? = some l ∧ w'.ownsRow w.heap.size 39 3 V l.length (cnCells l) ∧ Below w.heap.size w w' := by
  have hsh := Tryz.shelf_any h u hu
  have hmx : Tryz.prog.follows .mixedOrders = true := by kernel_rfl
  have HT : Hid (Tryz.Tb w) := hT
  have HS : Hid (s = ⟨#[]⟩ ∨ ∃ k, Fd.At s k ∧ k < ((F u).getD sh0).1 - 50) := hs
  clear h hT hs
  generalize ((F u).getD sh0) = NS at *
  obtain ⟨N, S⟩ := NS
  simp only at *
  go_enter Tryz.func8, Tryz.ntmps8
  go_upto_region 2 with (first
    | (go_at_call 18; refine hsh.mono ?_; clear hsh; rintro e w1 ⟨sb, own0, rfl, hS, ho1, ho2, ho3, hb1⟩)
    | fail)
  have HSf : Hid (Tryz.Sf w1 own0 sb N S) := hS
  have HB1 : Hid (Below w.heap.size w w1) := hb1
  clear ho1 ho2 ho3 hS hb1
  have fin : ∀ (w3 : World), Below w1.heap.size w1 w3 → ∃ v l, S.getLast? = some l ∧ Tryz.Reg w3 sb N v l := fun w3 hb3 => by
    obtain ⟨v, hR⟩ := (HSf.out.below hb3 (Nat.le_refl _)).reg ((HT.out.past HB1.out).past hb3)
    exact ⟨v, _, List.getLast?_eq_some_getLast HSf.out.pos, hR⟩
  have FIN : Hid (∀ (w3 : World), Below w1.heap.size w1 w3 → ∃ v l, S.getLast? = some l ∧ Tryz.Reg w3 sb N v l) := fin
  clear fin
  by_cases hse : s = ⟨#[]⟩
  · subst hse
    have hf := Tryz.find_none (sb := sb) (HT.out.past HB1.out) Fd.at_empty (by decide)
    go_upto_region 6 with (first
      | (go_at_call 22; refine hf.mono ?_; clear hf; rintro e w3 ⟨rfl, hb3⟩)
      | fail)
    obtain ⟨v, l, hgl, hR⟩ := FIN.out w3 hb3
    have HGL : Hid (S.getLast? = some l) := hgl
    have HB3 : Hid (Below w.heap.size w w3) := Fd.bel_on HB1.out HB1.out.size hb3
    have hpr : ∀ W : World, (W.cell? ⟨sb, 0, none⟩ = some (.int .i64 (N : Int)) ∧ Below w3.heap.size w3 W) → Calls Tryz.prog 24 #[.pointer (some ⟨sb, 0, none⟩)] W fun e w' => e = .returned v ∧ Below W.heap.size W w' ∧ w'.cell? ⟨sb, 0, none⟩ = some (.int .i64 (N : Int)) ∧ Below w3.heap.size w3 w' := fun W hS => hR.pr W hS.2
    have hpl : ∀ W : World, (W.cell? ⟨sb, 0, none⟩ = some (.int .i64 (N : Int)) ∧ Below w3.heap.size w3 W) → Calls Tryz.prog 25 #[.int .i64 (N : Int)] W fun e w' => e = .returned (.string (Fd.fmt N)) ∧ Below W.heap.size W w' ∧ w'.cell? ⟨sb, 0, none⟩ = some (.int .i64 (N : Int)) ∧ Below w3.heap.size w3 w' := fun W hS => hR.pl W hS.2
    have hdr : w3.drew.cell? ⟨sb, 0, none⟩ = some (.int .i64 (N : Int)) ∧ Below w3.heap.size w3 w3.drew := ⟨hR.nm, (Below.refl _ w3).drew⟩
    have hcl : ∀ W : World, (W.cell? ⟨sb, 0, none⟩ = some (.int .i64 (N : Int)) ∧ Below w3.heap.size w3 W) → Calls Tryz.prog 23 #[v] W fun e w' => ∃ V', e = .returned V' ∧ w'.ownsRow w3.heap.size 39 3 V' l.length (cnCells l) ∧ Below W.heap.size W w' ∧ w'.cell? ⟨sb, 0, none⟩ = some (.int .i64 (N : Int)) ∧ Below w3.heap.size w3 w' := fun W hS => hR.cl W hS.2
    clear hR FIN HSf HB1 HT HS hgl hb3
    go_region_held3 (fun W => W.cell? ⟨sb, 0, none⟩ = some (.int .i64 (N : Int)) ∧ Below w3.heap.size w3 W) (first | assumption | exact hdr)
      (first
        | (go_at_call 24; refine (hpr _ (by assumption)).mono ?_; rintro e W1 ⟨rfl, hb11, hS11⟩)
        | (go_at_call 23; refine (hcl _ (by assumption)).mono ?_; rintro e W2 ⟨V2, rfl, hr22, hb22, hS22⟩)
        | (go_at_call 25; refine (hpl _ (by assumption)).mono ?_; rintro e W3 ⟨rfl, hb33, hS33⟩)
        | fail)
    all_goals
      clear hpr hpl hcl hdr
      go_wp2
      refine bodyPost_ret (Fd.results_tmp5 rfl _ _ _) rfl ?_
      refine ⟨_, l, rfl, HGL.out, Fd.row_mono (by repeat (first | assumption | refine Fd.row_on ?_ (by assumption))) HB3.out.size, Fd.bel_on HB3.out HB3.out.size (Fd.snd (by assumption))⟩
  · have hq : (s.toList == ([] : List UInt8)) = false := by
      rw [beq_eq_false_iff_ne]
      intro e
      exact hse (toList_inj (by rw [e, ByteArray.toList_eq]))
    obtain ⟨k, hk1, hk2⟩ := HS.out.resolve_left hse
    have hkn := Tryz.knows_at HSf.out (HT.out.past HB1.out) hk1
    rw [decide_eq_true (by omega)] at hkn
    go_upto_region 4 with (first
      | (go_at_call 21; refine hkn.mono ?_; clear hkn; rintro e w2 ⟨rfl, hb2⟩)
      | fail)
    have hf := Tryz.find_old (HSf.out.below hb2 (Nat.le_refl _)) ((HT.out.past HB1.out).past hb2) hk1 (.inl hk2)
    go_upto_region 6 with (first
      | (go_at_call 22; refine hf.mono ?_; clear hf; rintro e w3 ⟨rfl, hb3⟩)
      | fail)
    have hb3' := Fd.bel_on hb2 hb2.size hb3
    clear hb2 hb3
    have hb3 := hb3'
    clear hb3'
    obtain ⟨v, l, hgl, hR⟩ := FIN.out w3 hb3
    have HGL : Hid (S.getLast? = some l) := hgl
    have HB3 : Hid (Below w.heap.size w w3) := Fd.bel_on HB1.out HB1.out.size hb3
    have hpr : ∀ W : World, (W.cell? ⟨sb, 0, none⟩ = some (.int .i64 (N : Int)) ∧ Below w3.heap.size w3 W) → Calls Tryz.prog 24 #[.pointer (some ⟨sb, 0, none⟩)] W fun e w' => e = .returned v ∧ Below W.heap.size W w' ∧ w'.cell? ⟨sb, 0, none⟩ = some (.int .i64 (N : Int)) ∧ Below w3.heap.size w3 w' := fun W hS => hR.pr W hS.2
    have hpl : ∀ W : World, (W.cell? ⟨sb, 0, none⟩ = some (.int .i64 (N : Int)) ∧ Below w3.heap.size w3 W) → Calls Tryz.prog 25 #[.int .i64 (N : Int)] W fun e w' => e = .returned (.string (Fd.fmt N)) ∧ Below W.heap.size W w' ∧ w'.cell? ⟨sb, 0, none⟩ = some (.int .i64 (N : Int)) ∧ Below w3.heap.size w3 w' := fun W hS => hR.pl W hS.2
    have hdr : w3.drew.cell? ⟨sb, 0, none⟩ = some (.int .i64 (N : Int)) ∧ Below w3.heap.size w3 w3.drew := ⟨hR.nm, (Below.refl _ w3).drew⟩
    have hcl : ∀ W : World, (W.cell? ⟨sb, 0, none⟩ = some (.int .i64 (N : Int)) ∧ Below w3.heap.size w3 W) → Calls Tryz.prog 23 #[v] W fun e w' => ∃ V', e = .returned V' ∧ w'.ownsRow w3.heap.size 39 3 V' l.length (cnCells l) ∧ Below W.heap.size W w' ∧ w'.cell? ⟨sb, 0, none⟩ = some (.int .i64 (N : Int)) ∧ Below w3.heap.size w3 w' := fun W hS => hR.cl W hS.2
    clear hR FIN HSf HB1 HT HS hgl hb3
    go_region_held3 (fun W => W.cell? ⟨sb, 0, none⟩ = some (.int .i64 (N : Int)) ∧ Below w3.heap.size w3 W) (first | assumption | exact hdr)
      (first
        | (go_at_call 24; refine (hpr _ (by assumption)).mono ?_; rintro e W1 ⟨rfl, hb11, hS11⟩)
        | (go_at_call 23; refine (hcl _ (by assumption)).mono ?_; rintro e W2 ⟨V2, rfl, hr22, hb22, hS22⟩)
        | (go_at_call 25; refine (hpl _ (by assumption)).mono ?_; rintro e W3 ⟨rfl, hb33, hS33⟩)
        | fail)
    all_goals
      clear hpr hpl hcl hdr
      go_wp2
      refine bodyPost_ret (Fd.results_tmp5 rfl _ _ _) rfl ?_
      refine ⟨_, l, rfl, HGL.out, Fd.row_mono (by repeat (first | assumption | refine Fd.row_on ?_ (by assumption))) HB3.out.size, Fd.bel_on HB3.out HB3.out.size (Fd.snd (by assumption))⟩
end Go.Proofs
