/-
  Laid together by packg.py of LawJSames.
-/
import Derived.Test.YtcakkkafanpjaaaGreatDoorQaY
import Derived.Test.YtcakkkafanpjaaaGreatDoorQbB
namespace Go.Proofs
open Go.RowKit Go.Jv
/-- The value of a text; of a wrong one null. -/
def Jv.valOf (t : ByteArray) : V := match parse t with | .ok v => v | .bad _ _ => .null
theorem Jv.valOf_gd (t : ByteArray) : Gd 10 (Jv.valOf t) ∧ (pr (Jv.valOf t)).length ≤ 4096 := by
  unfold Jv.valOf
  cases h : parse t with
  | ok v =>
    obtain ⟨h1, h2, h3⟩ := parse_gd h
    exact ⟨h1, by show (pr v).length ≤ 4096; omega⟩
  | bad p e => exact ⟨trivial, by show (pr V.null).length ≤ 4096; decide⟩
theorem Jv.pr_inj {v u : V} (hv : Gd 10 v) (hu : Gd 10 u) (lv : (pr v).length ≤ 4096) (lu : (pr u).length ≤ 4096) (h : pr v = pr u) : v = u := by
  have h1 := parse_pr hv lv
  have h2 := parse_pr hu lu
  rw [h, h2] at h1
  injection h1 with h1
  exact h1.symm
theorem Tryz.read_p (bv : Value) (t : ByteArray) (w : World) (hB : Jv.By w bv t) (hs : t.size ≤ 140737488351232) (hT : Tryz.Tb w) :
    Calls Tryz.prog 9 #[bv] w fun en w' => ∃ p1 p2, en = .returned (.tuple #[.pointer p1, .pointer p2, .bool true]) ∧ Tryz.Tp w' (fun g => w.heap.size ≤ g) (Jv.valOf t) p1 ∧ Below w.heap.size w w' := by
  refine (Tryz.read_any bv t w hB hs hT).mono ?_
  rintro en w' ⟨hb, h | h⟩
  · obtain ⟨p, e, h1, h2⟩ := h
    exact ⟨_, _, h2, by show Jv.valOf t = .null; unfold Jv.valOf; rw [h1], hb⟩
  · obtain ⟨v, x, y, h1, h2, h3, -⟩ := h
    exact ⟨_, _, h2, ⟨x, rfl, by rw [show Jv.valOf t = v by unfold Jv.valOf; rw [h1]]; exact h3⟩, hb⟩
/-- A Boolean that says whether. -/
structure Jv.Says (b : Bool) (p : Prop) : Prop where
  out : b = true ↔ p
theorem Tryz.same_b {w : World} {p q : Option Addr} {v u : V} {ok1 ok2 : Nat → Prop} (E : Bool) (hE : Jv.Says E (v = u)) (hx : Tryz.Tp w ok1 v p) (hy : Tryz.Tp w ok2 u q) :
    Calls Tryz.prog 10 #[.pointer p, .pointer q] w fun e w' => e = .returned (.bool E) ∧ Below w.heap.size w w' :=
  (Tryz.same_p hx hy).mono fun e w' ⟨⟨b, h1, h2⟩, h3⟩ => ⟨by rw [h1, show b = E by rw [Bool.eq_iff_iff, h2, hE.out]], h3⟩
/-- What all steps of the law keep: the two values, the tables. -/
structure Tryz.Two (w w' : World) (v u : V) (p q : Option Addr) : Prop where
  a : Tryz.Tp w' (fun g => g < w'.heap.size) v p
  b : Tryz.Tp w' (fun g => g < w'.heap.size) u q
  t : Tryz.Tb w'
  be : Below w.heap.size w w'
theorem Tryz.Two.go {w w1 w2 : World} {v u : V} {p q : Option Addr} (h : Tryz.Two w w1 v u p q) (hb : Below w1.heap.size w1 w2) : Tryz.Two w w2 v u p q :=
  ⟨Tryz.Tp_mono (fun _ _ h => h) (Tryz.Tp_keep (fun g _ hl => hb.block g hl) hb.size h.a), Tryz.Tp_mono (fun _ _ h => h) (Tryz.Tp_keep (fun g _ hl => hb.block g hl) hb.size h.b), h.t.below hb h.t.size, h.be.trans (hb.mono h.be.size)⟩
set_option maxRecDepth 100000 in
set_option maxHeartbeats 8000000 in
theorem Tryz.jsonSames_go (E1 E0 : Bool) (av bv : Value) (t s : ByteArray) (w : World) (hA : Jv.By w av t) (hB : Jv.By w bv s) (ht : t.size ≤ 140737488351232) (hs : s.size ≤ 140737488351232) (hT : Tryz.Tb w) (h1 : E1 = true ↔ Jv.valOf t = Jv.valOf s) (h0 : E0 = true ↔ Jv.valOf t = .null) :
    Calls Tryz.prog 4 #[av, bv] w fun e w' => e = .returned (.bool true) ∧ Below w.heap.size w w' := by
  have ha := Tryz.awake_any w hT
  have hr1 := fun W (hW : Below w.heap.size w W) => Tryz.read_p av t W (hA.up hW) ht (hT.below hW hT.size)
  have hr2 := fun W (hW : Below w.heap.size w W) => Tryz.read_p bv s W (hB.up hW) hs (hT.below hW hT.size)
  obtain ⟨g1, l1⟩ := Jv.valOf_gd t
  obtain ⟨g2, l2⟩ := Jv.valOf_gd s
  have hpq : pr (Jv.valOf t) = pr (Jv.valOf s) → Jv.valOf t = Jv.valOf s := Jv.pr_inj g1 g2 l1 l2
  have hpr1 := fun W p q (h : Tryz.Two w W (Jv.valOf t) (Jv.valOf s) p q) => Tryz.print_p h.a h.t (by omega)
  have hpr2 := fun W p q (h : Tryz.Two w W (Jv.valOf t) (Jv.valOf s) p q) => Tryz.print_p h.b h.t (by omega)
  have HT : Hid (Tryz.Tb w) := hT
  have hk : E0 = true ↔ Jv.kindV (Jv.valOf t) = 0 := h0.trans ⟨fun e => by rw [e]; rfl, Jv.kind_null⟩
  have hPQ : (⟨(pr (Jv.valOf t)).toArray⟩ : ByteArray) = ⟨(pr (Jv.valOf s)).toArray⟩ ↔ E1 = true := by
    rw [h1]
    refine ⟨fun e => hpq ?_, fun e => by rw [e]⟩
    have := congrArg (fun b : ByteArray => b.data.toList) e
    simpa using this
  generalize (⟨(pr (Jv.valOf t)).toArray⟩ : ByteArray) = P at *
  generalize (⟨(pr (Jv.valOf s)).toArray⟩ : ByteArray) = Q at *
  have H1 : Hid (Jv.Says E1 (Jv.valOf t = Jv.valOf s)) := ⟨h1⟩
  have H0 : Hid (Jv.Says E0 (Jv.valOf t = .null)) := ⟨h0⟩
  have hkk := fun W p q (h : Tryz.Two w W (Jv.valOf t) (Jv.valOf s) p q) => Tryz.kind_p h.a
  clear hA hB hT g1 g2 l1 l2 hpq h1 h0
  generalize Jv.valOf t = v at *
  generalize Jv.valOf s = u at *
  generalize Jv.kindV v = k at *
  cases E1 with
  | true =>
    have e1 : P = Q := hPQ.2 rfl
    subst e1
    clear hPQ
    cases E0 with
    | true =>
      have e0 : k = 0 := hk.1 rfl
      subst e0
      clear hk
      go_enter Tryz.func4, Tryz.ntmps4
      go_wp2_with (first
        | (go_at_call 8; refine ha.mono ?_; clear ha; rintro e1 w1 ⟨rfl, hb1⟩; have hc1 := hr1 w1 hb1; have HB1 : Hid (Below w.heap.size w w1) := hb1; clear hr1 hb1)
        | (go_at_call 9; refine hc1.mono ?_; clear hc1; rintro e2 w2 ⟨p1, q1, rfl, htp, hb2⟩
           have hb12 : Below w.heap.size w w2 := HB1.out.trans (hb2.mono HB1.out.size)
           have hc2 := hr2 w2 hb12
           have HTP : Hid (Tryz.Tp w2 (fun g => w1.heap.size ≤ g) v p1) := htp
           have HB2 : Hid (Below w.heap.size w w2) := hb12
           clear hr2 htp hb2 hb12)
        | (go_at_call 9; refine hc2.mono ?_; clear hc2; rintro e3 w3 ⟨p2, q2, rfl, htp, hb3⟩
           have hb13 : Below w.heap.size w w3 := HB2.out.trans (hb3.mono HB2.out.size)
           have tw : Tryz.Two w w3 v u p1 p2 := ⟨Tryz.Tp_mono (fun _ _ h => h) (Tryz.Tp_keep (fun g _ hl => hb3.block g hl) hb3.size HTP.out), Tryz.Tp_mono (fun _ _ h => h) htp, HT.out.below hb13 HT.out.size, hb13⟩
           have hs1 := Tryz.same_b _ H1.out tw.a tw.b
           have TW3 : Hid (Tryz.Two w w3 v u p1 p2) := tw
           clear tw htp hb3 hb13)
        | (go_at_call 10; refine hs1.mono ?_; clear hs1; rintro e4 w4 ⟨rfl, hb4⟩
           have tw := TW3.out.go hb4
           have hs2 := Tryz.same_b _ (Jv.Says.mk (H1.out.out.trans eq_comm)) tw.b tw.a
           have TW4 : Hid (Tryz.Two w w4 v u p1 p2) := tw
           clear tw hb4)
        | (go_at_call 10; refine hs2.mono ?_; clear hs2; rintro e5 w5 ⟨rfl, hb5⟩
           have tw := TW4.out.go hb5
           have hs3 := Tryz.same_b true (Jv.Says.mk (by simp)) tw.a tw.a
           have TW5 : Hid (Tryz.Two w w5 v u p1 p2) := tw
           clear tw hb5)
        | (go_at_call 10; refine hs3.mono ?_; clear hs3; rintro e6 w6 ⟨rfl, hb6⟩
           have tw := TW5.out.go hb6
           have hs4 := Tryz.same_b (q := none) (u := .null) (ok2 := fun _ => True) _ H0.out tw.a rfl
           have TW6 : Hid (Tryz.Two w w6 v u p1 p2) := tw
           clear tw hb6)
        | (go_at_call 10; refine hs4.mono ?_; clear hs4; rintro e7 w7 ⟨rfl, hb7⟩
           have tw := TW6.out.go hb7
           have hs5 := hpr1 w7 _ _ tw
           have TW7 : Hid (Tryz.Two w w7 v u p1 p2) := tw
           clear tw hb7 hpr1)
        | (go_at_call 11; refine hs5.mono ?_; clear hs5; rintro e8 w8 ⟨rfl, hb8⟩
           have tw := TW7.out.go hb8
           have hs6 := hpr2 w8 _ _ tw
           have TW8 : Hid (Tryz.Two w w8 v u p1 p2) := tw
           clear tw hb8 hpr2)
        | (go_at_call 11; refine hs6.mono ?_; clear hs6; rintro e9 w9 ⟨rfl, hb9⟩
           have tw := TW8.out.go hb9
           have hs7 := hkk w9 _ _ tw
           have HBE : Hid (Below w.heap.size w w9) := tw.be
           clear tw hb9 hkk)
        | (go_at_call 12; refine hs7.mono ?_; clear hs7; rintro e10 w10 ⟨rfl, h10⟩; have h10 := h10.symm; subst h10)
        | fail)
      go_ret
      exact ⟨rfl, HBE.out⟩
    | false =>
      have e0 : ¬ k = 0 := fun e => by cases hk.2 e
      have e2 : (k == 0) = false := by simpa using e0
      clear hk
      go_enter Tryz.func4, Tryz.ntmps4
      go_wp2_with (first
        | (go_at_call 8; refine ha.mono ?_; clear ha; rintro e1 w1 ⟨rfl, hb1⟩; have hc1 := hr1 w1 hb1; have HB1 : Hid (Below w.heap.size w w1) := hb1; clear hr1 hb1)
        | (go_at_call 9; refine hc1.mono ?_; clear hc1; rintro e2 w2 ⟨p1, q1, rfl, htp, hb2⟩
           have hb12 : Below w.heap.size w w2 := HB1.out.trans (hb2.mono HB1.out.size)
           have hc2 := hr2 w2 hb12
           have HTP : Hid (Tryz.Tp w2 (fun g => w1.heap.size ≤ g) v p1) := htp
           have HB2 : Hid (Below w.heap.size w w2) := hb12
           clear hr2 htp hb2 hb12)
        | (go_at_call 9; refine hc2.mono ?_; clear hc2; rintro e3 w3 ⟨p2, q2, rfl, htp, hb3⟩
           have hb13 : Below w.heap.size w w3 := HB2.out.trans (hb3.mono HB2.out.size)
           have tw : Tryz.Two w w3 v u p1 p2 := ⟨Tryz.Tp_mono (fun _ _ h => h) (Tryz.Tp_keep (fun g _ hl => hb3.block g hl) hb3.size HTP.out), Tryz.Tp_mono (fun _ _ h => h) htp, HT.out.below hb13 HT.out.size, hb13⟩
           have hs1 := Tryz.same_b _ H1.out tw.a tw.b
           have TW3 : Hid (Tryz.Two w w3 v u p1 p2) := tw
           clear tw htp hb3 hb13)
        | (go_at_call 10; refine hs1.mono ?_; clear hs1; rintro e4 w4 ⟨rfl, hb4⟩
           have tw := TW3.out.go hb4
           have hs2 := Tryz.same_b _ (Jv.Says.mk (H1.out.out.trans eq_comm)) tw.b tw.a
           have TW4 : Hid (Tryz.Two w w4 v u p1 p2) := tw
           clear tw hb4)
        | (go_at_call 10; refine hs2.mono ?_; clear hs2; rintro e5 w5 ⟨rfl, hb5⟩
           have tw := TW4.out.go hb5
           have hs3 := Tryz.same_b true (Jv.Says.mk (by simp)) tw.a tw.a
           have TW5 : Hid (Tryz.Two w w5 v u p1 p2) := tw
           clear tw hb5)
        | (go_at_call 10; refine hs3.mono ?_; clear hs3; rintro e6 w6 ⟨rfl, hb6⟩
           have tw := TW5.out.go hb6
           have hs4 := Tryz.same_b (q := none) (u := .null) (ok2 := fun _ => True) _ H0.out tw.a rfl
           have TW6 : Hid (Tryz.Two w w6 v u p1 p2) := tw
           clear tw hb6)
        | (go_at_call 10; refine hs4.mono ?_; clear hs4; rintro e7 w7 ⟨rfl, hb7⟩
           have tw := TW6.out.go hb7
           have hs5 := hpr1 w7 _ _ tw
           have TW7 : Hid (Tryz.Two w w7 v u p1 p2) := tw
           clear tw hb7 hpr1)
        | (go_at_call 11; refine hs5.mono ?_; clear hs5; rintro e8 w8 ⟨rfl, hb8⟩
           have tw := TW7.out.go hb8
           have hs6 := hpr2 w8 _ _ tw
           have TW8 : Hid (Tryz.Two w w8 v u p1 p2) := tw
           clear tw hb8 hpr2)
        | (go_at_call 11; refine hs6.mono ?_; clear hs6; rintro e9 w9 ⟨rfl, hb9⟩
           have tw := TW8.out.go hb9
           have hs7 := hkk w9 _ _ tw
           have HBE : Hid (Below w.heap.size w w9) := tw.be
           clear tw hb9 hkk)
        | (go_at_call 12; refine hs7.mono ?_; clear hs7; rintro e10 w10 ⟨rfl, h10⟩; have h10 := h10.symm; subst h10)
        | fail)
      go_ret
      exact ⟨rfl, HBE.out⟩
  | false =>
    have e1 : (P.toList == Q.toList) = false := by
      rw [beq_eq_false_iff_ne, ByteArray.toList_eq, ByteArray.toList_eq]
      exact fun e => by cases hPQ.1 (ByteArray.ext (Array.toList_inj.1 e))
    clear hPQ
    cases E0 with
    | true =>
      have e0 : k = 0 := hk.1 rfl
      subst e0
      clear hk
      go_enter Tryz.func4, Tryz.ntmps4
      go_wp2_with (first
        | (go_at_call 8; refine ha.mono ?_; clear ha; rintro e1 w1 ⟨rfl, hb1⟩; have hc1 := hr1 w1 hb1; have HB1 : Hid (Below w.heap.size w w1) := hb1; clear hr1 hb1)
        | (go_at_call 9; refine hc1.mono ?_; clear hc1; rintro e2 w2 ⟨p1, q1, rfl, htp, hb2⟩
           have hb12 : Below w.heap.size w w2 := HB1.out.trans (hb2.mono HB1.out.size)
           have hc2 := hr2 w2 hb12
           have HTP : Hid (Tryz.Tp w2 (fun g => w1.heap.size ≤ g) v p1) := htp
           have HB2 : Hid (Below w.heap.size w w2) := hb12
           clear hr2 htp hb2 hb12)
        | (go_at_call 9; refine hc2.mono ?_; clear hc2; rintro e3 w3 ⟨p2, q2, rfl, htp, hb3⟩
           have hb13 : Below w.heap.size w w3 := HB2.out.trans (hb3.mono HB2.out.size)
           have tw : Tryz.Two w w3 v u p1 p2 := ⟨Tryz.Tp_mono (fun _ _ h => h) (Tryz.Tp_keep (fun g _ hl => hb3.block g hl) hb3.size HTP.out), Tryz.Tp_mono (fun _ _ h => h) htp, HT.out.below hb13 HT.out.size, hb13⟩
           have hs1 := Tryz.same_b _ H1.out tw.a tw.b
           have TW3 : Hid (Tryz.Two w w3 v u p1 p2) := tw
           clear tw htp hb3 hb13)
        | (go_at_call 10; refine hs1.mono ?_; clear hs1; rintro e4 w4 ⟨rfl, hb4⟩
           have tw := TW3.out.go hb4
           have hs2 := Tryz.same_b _ (Jv.Says.mk (H1.out.out.trans eq_comm)) tw.b tw.a
           have TW4 : Hid (Tryz.Two w w4 v u p1 p2) := tw
           clear tw hb4)
        | (go_at_call 10; refine hs2.mono ?_; clear hs2; rintro e5 w5 ⟨rfl, hb5⟩
           have tw := TW4.out.go hb5
           have hs3 := Tryz.same_b true (Jv.Says.mk (by simp)) tw.a tw.a
           have TW5 : Hid (Tryz.Two w w5 v u p1 p2) := tw
           clear tw hb5)
        | (go_at_call 10; refine hs3.mono ?_; clear hs3; rintro e6 w6 ⟨rfl, hb6⟩
           have tw := TW5.out.go hb6
           have hs4 := Tryz.same_b (q := none) (u := .null) (ok2 := fun _ => True) _ H0.out tw.a rfl
           have TW6 : Hid (Tryz.Two w w6 v u p1 p2) := tw
           clear tw hb6)
        | (go_at_call 10; refine hs4.mono ?_; clear hs4; rintro e7 w7 ⟨rfl, hb7⟩
           have tw := TW6.out.go hb7
           have hs5 := hpr1 w7 _ _ tw
           have TW7 : Hid (Tryz.Two w w7 v u p1 p2) := tw
           clear tw hb7 hpr1)
        | (go_at_call 11; refine hs5.mono ?_; clear hs5; rintro e8 w8 ⟨rfl, hb8⟩
           have tw := TW7.out.go hb8
           have hs6 := hpr2 w8 _ _ tw
           have TW8 : Hid (Tryz.Two w w8 v u p1 p2) := tw
           clear tw hb8 hpr2)
        | (go_at_call 11; refine hs6.mono ?_; clear hs6; rintro e9 w9 ⟨rfl, hb9⟩
           have tw := TW8.out.go hb9
           have hs7 := hkk w9 _ _ tw
           have HBE : Hid (Below w.heap.size w w9) := tw.be
           clear tw hb9 hkk)
        | (go_at_call 12; refine hs7.mono ?_; clear hs7; rintro e10 w10 ⟨rfl, h10⟩; have h10 := h10.symm; subst h10)
        | fail)
      go_ret
      exact ⟨rfl, HBE.out⟩
    | false =>
      have e0 : ¬ k = 0 := fun e => by cases hk.2 e
      have e2 : (k == 0) = false := by simpa using e0
      clear hk
      go_enter Tryz.func4, Tryz.ntmps4
      go_wp2_with (first
        | (go_at_call 8; refine ha.mono ?_; clear ha; rintro e1 w1 ⟨rfl, hb1⟩; have hc1 := hr1 w1 hb1; have HB1 : Hid (Below w.heap.size w w1) := hb1; clear hr1 hb1)
        | (go_at_call 9; refine hc1.mono ?_; clear hc1; rintro e2 w2 ⟨p1, q1, rfl, htp, hb2⟩
           have hb12 : Below w.heap.size w w2 := HB1.out.trans (hb2.mono HB1.out.size)
           have hc2 := hr2 w2 hb12
           have HTP : Hid (Tryz.Tp w2 (fun g => w1.heap.size ≤ g) v p1) := htp
           have HB2 : Hid (Below w.heap.size w w2) := hb12
           clear hr2 htp hb2 hb12)
        | (go_at_call 9; refine hc2.mono ?_; clear hc2; rintro e3 w3 ⟨p2, q2, rfl, htp, hb3⟩
           have hb13 : Below w.heap.size w w3 := HB2.out.trans (hb3.mono HB2.out.size)
           have tw : Tryz.Two w w3 v u p1 p2 := ⟨Tryz.Tp_mono (fun _ _ h => h) (Tryz.Tp_keep (fun g _ hl => hb3.block g hl) hb3.size HTP.out), Tryz.Tp_mono (fun _ _ h => h) htp, HT.out.below hb13 HT.out.size, hb13⟩
           have hs1 := Tryz.same_b _ H1.out tw.a tw.b
           have TW3 : Hid (Tryz.Two w w3 v u p1 p2) := tw
           clear tw htp hb3 hb13)
        | (go_at_call 10; refine hs1.mono ?_; clear hs1; rintro e4 w4 ⟨rfl, hb4⟩
           have tw := TW3.out.go hb4
           have hs2 := Tryz.same_b _ (Jv.Says.mk (H1.out.out.trans eq_comm)) tw.b tw.a
           have TW4 : Hid (Tryz.Two w w4 v u p1 p2) := tw
           clear tw hb4)
        | (go_at_call 10; refine hs2.mono ?_; clear hs2; rintro e5 w5 ⟨rfl, hb5⟩
           have tw := TW4.out.go hb5
           have hs3 := Tryz.same_b true (Jv.Says.mk (by simp)) tw.a tw.a
           have TW5 : Hid (Tryz.Two w w5 v u p1 p2) := tw
           clear tw hb5)
        | (go_at_call 10; refine hs3.mono ?_; clear hs3; rintro e6 w6 ⟨rfl, hb6⟩
           have tw := TW5.out.go hb6
           have hs4 := Tryz.same_b (q := none) (u := .null) (ok2 := fun _ => True) _ H0.out tw.a rfl
           have TW6 : Hid (Tryz.Two w w6 v u p1 p2) := tw
           clear tw hb6)
        | (go_at_call 10; refine hs4.mono ?_; clear hs4; rintro e7 w7 ⟨rfl, hb7⟩
           have tw := TW6.out.go hb7
           have hs5 := hpr1 w7 _ _ tw
           have TW7 : Hid (Tryz.Two w w7 v u p1 p2) := tw
           clear tw hb7 hpr1)
        | (go_at_call 11; refine hs5.mono ?_; clear hs5; rintro e8 w8 ⟨rfl, hb8⟩
           have tw := TW7.out.go hb8
           have hs6 := hpr2 w8 _ _ tw
           have TW8 : Hid (Tryz.Two w w8 v u p1 p2) := tw
           clear tw hb8 hpr2)
        | (go_at_call 11; refine hs6.mono ?_; clear hs6; rintro e9 w9 ⟨rfl, hb9⟩
           have tw := TW8.out.go hb9
           have hs7 := hkk w9 _ _ tw
           have HBE : Hid (Below w.heap.size w w9) := tw.be
           clear tw hb9 hkk)
        | (go_at_call 12; refine hs7.mono ?_; clear hs7; rintro e10 w10 ⟨rfl, h10⟩; have h10 := h10.symm; subst h10)
        | fail)
      go_ret
      exact ⟨rfl, HBE.out⟩
theorem Tryz.jsonSamesWalk (av bv : Value) (t s : ByteArray) (w : World) (hA : Jv.By w av t) (hB : Jv.By w bv s) (ht : t.size ≤ 140737488351232) (hs : s.size ≤ 140737488351232) (hT : Tryz.Tb w) :
    Calls Tryz.prog 4 #[av, bv] w fun e w' => e = .returned (.bool true) ∧ Below w.heap.size w w' := by
  classical
  exact Tryz.jsonSames_go (decide (Jv.valOf t = Jv.valOf s)) (decide (Jv.valOf t = .null)) av bv t s w hA hB ht hs hT (by simp) (by simp)
end Go.Proofs
