/-
  Laid together by packg.py of WsA WsB WsC.
-/
import Derived.Test.YtjiidkkmnlcpcaaGreatDoorPaV
import Derived.Test.YtjiidkkmnlcpcaaGreatDoorPaR
import Derived.Deep.RegionHeld3
import Derived.BigQuiet
import Derived.Deep.QuietTactic
import Derived.Deep.Cut
namespace Go.Wb
open Go.RowKit Go.Proofs Go.Wi
/-- The document's scan: a text, a place, where a head begins, how long it may be, a fault and its place, have the bytes ended? -/
structure Sn where
  s : List UInt8
  i : Nat
  start : Nat
  limit : Nat
  at_ : Nat
  e : Nat
  more : Bool
def Sn.cells (x : Sn) : Array Value := #[.string ⟨x.s.toArray⟩, .int .i64 x.i, .int .i64 x.start, .int .i64 x.limit, .int .i64 x.at_, .int .i64 x.e, .bool x.more]
def Sn.fail (x : Sn) (a e : Nat) : Sn := if x.e = 0 ∧ x.more = false then { x with e := e, at_ := a } else x
end Go.Wb
namespace Go.Proofs
open Go.RowKit Go.Wi Go.Wb
def Tryz.Sc (w : World) (p : Nat) (x : Sn) : Prop := w.heap[p]? = some (.cells x.cells 112 (0, 0))
theorem Tryz.Sc.c {w : World} {p : Nat} {x : Sn} (h : Tryz.Sc w p x) : w.cell? ⟨p, 0, none⟩ = some (.string ⟨x.s.toArray⟩) ∧ w.cell? ⟨p, 1, none⟩ = some (.int .i64 x.i) ∧ w.cell? ⟨p, 2, none⟩ = some (.int .i64 x.start) ∧ w.cell? ⟨p, 3, none⟩ = some (.int .i64 x.limit) ∧ w.cell? ⟨p, 4, none⟩ = some (.int .i64 x.at_) ∧ w.cell? ⟨p, 5, none⟩ = some (.int .i64 x.e) ∧ w.cell? ⟨p, 6, none⟩ = some (.bool x.more) :=
  ⟨cell_of_row _ _ 0 _ _ _ h, cell_of_row _ _ 1 _ _ _ h, cell_of_row _ _ 2 _ _ _ h, cell_of_row _ _ 3 _ _ _ h, cell_of_row _ _ 4 _ _ _ h, cell_of_row _ _ 5 _ _ _ h, cell_of_row _ _ 6 _ _ _ h⟩
theorem Tryz.Sc.fz {w : World} {p : Nat} {x : Sn} (h : Tryz.Sc w p x) (j : Nat) : w.frozen? ⟨p, j, none⟩ = false := frozen_of_row _ _ j _ _ h
set_option maxRecDepth 20000 in
set_option maxHeartbeats 1000000 in
theorem Tryz.scFail_any {w : World} {p : Nat} {x : Sn} (h : Tryz.Sc w p x) (a er : Nat) :
    Calls Tryz.prog 67 #[.pointer (some ⟨p, 0, none⟩), .int .i64 a, .int .i64 er] w fun e w' => (∃ v, e = .returned v) ∧ Tryz.Sc w' p (x.fail a er) ∧ Wo (fun k => k = p) w w' := by
  obtain ⟨c0, c1, c2, c3, c4, c5, c6⟩ := Tryz.Sc.c h
  have f4 := Tryz.Sc.fz h 4
  have f5 := Tryz.Sc.fz h 5
  by_cases he : x.e = 0
  · have q : ((x.e : Int) == 0) = true := by rw [he]; rfl
    cases hm : x.more with
    | false =>
      rw [hm] at c6
      have e1 := heap_setCell_same w p 5 _ _ (.int .i64 er) h
      have e2 := heap_setCell_same _ p 4 _ _ (.int .i64 a) e1
      have HE : Hid (Tryz.Sc ((w.setCell ⟨p, 5, none⟩ (.int .i64 er)).setCell ⟨p, 4, none⟩ (.int .i64 a)) p (x.fail a er)) := (by
        have ef : x.fail a er = { x with e := er, at_ := a } := if_pos ⟨he, hm⟩
        show Tryz.Sc _ _ _
        rw [ef]
        exact e2)
      have HW : Hid (Wo (fun k => k = p) w ((w.setCell ⟨p, 5, none⟩ (.int .i64 er)).setCell ⟨p, 4, none⟩ (.int .i64 a))) := ((Wo.refl (fun k => k = p) w).setCell p 5 _ (.inl rfl)).setCell p 4 _ (.inl rfl)
      clear e1 e2 h he
      go_enter Tryz.func67, Tryz.ntmps67
      go_wp2
      exact bodyPost_end (results_none rfl _ _ _) rfl ⟨⟨_, rfl⟩, HE.out, HW.out⟩
    | true =>
      rw [hm] at c6
      have HE : Hid (Tryz.Sc w p (x.fail a er)) := (by
        have ef : x.fail a er = x := if_neg (fun e => by rw [hm] at e; cases e.2)
        show Tryz.Sc _ _ _
        rw [ef]
        exact h)
      clear h he
      go_enter Tryz.func67, Tryz.ntmps67
      go_wp2
      exact bodyPost_end (results_none rfl _ _ _) rfl ⟨⟨_, rfl⟩, HE.out, Wo.refl _ _⟩
  · have q : ((x.e : Int) == 0) = false := by simp; omega
    have HE : Hid (Tryz.Sc w p (x.fail a er)) := (by
      have ef : x.fail a er = x := if_neg (fun e => he e.1)
      show Tryz.Sc _ _ _
      rw [ef]
      exact h)
    clear h he
    go_enter Tryz.func67, Tryz.ntmps67
    go_wp2
    exact bodyPost_end (results_none rfl _ _ _) rfl ⟨⟨_, rfl⟩, HE.out, Wo.refl _ _⟩
end Go.Proofs
namespace Go.Wb
/-- The byte at the place; below nought: there is none. -/
def Sn.next (x : Sn) : Int × Sn :=
  if x.e ≠ 0 ∨ x.more = true then (-1, x)
  else if x.s.length ≤ x.i then (-1, { x with more := true })
  else if 0 < x.limit ∧ x.start + x.limit ≤ x.i then (-1, x.fail x.i 181)
  else (((x.s.getD x.i 0).toNat : Nat), x)
/-- Numbers that a scan has. -/
structure Sn.ok (x : Sn) : Prop where
  s : x.s.length ≤ 9223372036854775807
  i : x.i ≤ x.s.length
  st : x.start ≤ x.i
  li : x.limit ≤ 9223372036854775807
theorem at_txt {l : List UInt8} {i : Nat} (_hi : i < l.length) (h : i < (⟨l.toArray⟩ : ByteArray).size) : (⟨l.toArray⟩ : ByteArray)[i]'h = l[i] := by
  show l.toArray[i] = _
  simp
end Go.Wb
namespace Go.Proofs
open Go.RowKit Go.Wi Go.Wb
set_option maxRecDepth 20000 in
set_option maxHeartbeats 2000000 in
theorem Tryz.scNext_any {w : World} {p : Nat} {x : Sn} (h : Tryz.Sc w p x) (hx : x.ok) :
    Calls Tryz.prog 62 #[.pointer (some ⟨p, 0, none⟩)] w fun e w' => e = .returned (.int .i64 x.next.1) ∧ Tryz.Sc w' p x.next.2 ∧ Wo (fun k => k = p) w w' := by
  obtain ⟨c0, c1, c2, c3, c4, c5, c6⟩ := Tryz.Sc.c h
  have f6 := Tryz.Sc.fz h 6
  have hsz : (⟨x.s.toArray⟩ : ByteArray).size = x.s.length := by show x.s.toArray.size = _; simp
  by_cases he : x.e = 0
  · have q : ((x.e : Int) != 0) = false := by rw [he]; rfl
    cases hm : x.more with
    | true =>
      rw [hm] at c6
      have HN : Hid (x.next = (-1, x)) := if_pos (.inr hm)
      have HE : Hid (Tryz.Sc w p x) := h
      clear h he hx
      go_enter Tryz.func62, Tryz.ntmps62
      go_wp2
      go_ret
      exact ⟨by rw [HN.out]; rfl, by rw [HN.out]; exact HE.out, Wo.refl _ _⟩
    | false =>
      rw [hm] at c6
      have hno : ¬ (x.e ≠ 0 ∨ x.more = true) := by
        rintro (e | e)
        · exact e he
        · rw [hm] at e; cases e
      have hs1 := hx.s
      have hs2 := hx.i
      have hs3 := hx.st
      have hs4 := hx.li
      by_cases h1 : x.s.length ≤ x.i
      · have q1 : (x.s.length : Int) ≤ (x.i : Int) := by omega
        have HN : Hid (x.next = (-1, { x with more := true })) := (by show x.next = _; unfold Sn.next; rw [if_neg hno, if_pos h1])
        have HE : Hid (∀ n, Tryz.Sc ((w.drewN n).setCell ⟨p, 6, none⟩ (.bool true)) p { x with more := true }) := fun n => heap_setCell_same (w.drewN n) p 6 _ _ (.bool true) h
        clear h he hx hno h1
        go_enter Tryz.func62, Tryz.ntmps62
        go_upto_region 3 with (fail)
        go_quiet (fail)
        go_wp2
        go_ret
        exact ⟨by rw [HN.out]; rfl, by rw [HN.out]; exact HE.out _, ((Wo.refl (fun k => k = p) w).drewN _).setCell p 6 _ (.inl rfl)⟩
      · have q1 : ¬ (x.s.length : Int) ≤ (x.i : Int) := by omega
        have hlt : x.i < x.s.length := by omega
        by_cases h2 : 0 < x.limit ∧ x.start + x.limit ≤ x.i
        · have q2 : (x.limit : Int) > 0 := by omega
          have q2d : decide ((x.limit : Int) > 0) = true := decide_eq_true q2
          have q2e : decide (0 < x.limit) = true := by simp; omega
          have q3 : (x.limit : Int) ≤ (x.i : Int) - (x.start : Int) := by omega
          have q3d : decide ((x.limit : Int) ≤ (x.i : Int) - (x.start : Int)) = true := decide_eq_true q3
          have q3e : decide ((x.i : Int) - (x.start : Int) ≥ (x.limit : Int)) = true := q3d
          have qw : IntKind.i64.wrap ((x.i : Int) - (x.start : Int)) = (x.i : Int) - (x.start : Int) := by rw [IntKind.wrap_i64]; omega
          have HN : Hid (x.next = (-1, x.fail x.i 181)) := (by show x.next = _; unfold Sn.next; rw [if_neg hno, if_neg h1, if_pos h2])
          have kf := fun n => Tryz.scFail_any (w := w.drewN n) (p := p) (x := x) h x.i 181
          clear h he hx hno h1 h2
          go_enter Tryz.func62, Tryz.ntmps62
          go_upto_region 3 with (fail)
          go_quiet (fail)
          go_upto_region 6 with (fail)
          go_quiet (fail)
          go_wp2_with (first | (go_at_call 67; refine (kf _).mono ?_; clear kf; rintro e w1 ⟨⟨v, rfl⟩, hs, hw⟩) | fail)
          go_ret
          exact ⟨by rw [HN.out]; rfl, by rw [HN.out]; exact hs, ((Wo.refl (fun k => k = p) w).drewN _).trans hw⟩
        · have HN : Hid (x.next = ((((x.s.getD x.i 0).toNat : Nat) : Int), x)) := (by show x.next = _; unfold Sn.next; rw [if_neg hno, if_neg h1, if_neg h2])
          obtain ⟨c, hc⟩ : ∃ c, x.s[x.i]'hlt = c := ⟨_, rfl⟩
          have hix : ∀ hh : x.i < (⟨x.s.toArray⟩ : ByteArray).size, (⟨x.s.toArray⟩ : ByteArray)[x.i]'hh = c := fun hh => (at_txt hlt hh).trans hc
          have HC : Hid (x.s.getD x.i 0 = c) := (by show _ = _; rw [List.getD_eq_getElem?_getD, List.getElem?_eq_getElem hlt, hc]; rfl)
          have hwc : wrap64 ((c.toNat : Nat) : Int) = ((c.toNat : Nat) : Int) := by
            have := c.toNat_lt
            unfold wrap64
            omega
          have q0 : (0 : Int) ≤ (x.i : Int) := by omega
          have q5 : (x.i : Int) < (x.s.length : Int) := by omega
          have HE : Hid (∀ n, Tryz.Sc (w.drewN n) p x) := fun n => h
          by_cases h3 : x.limit = 0
          · have q2 : ¬ (x.limit : Int) > 0 := by omega
            have q2d : decide ((x.limit : Int) > 0) = false := decide_eq_false q2
            have q2e : decide (0 < x.limit) = false := by simp; omega
            clear h he hx hno h1 h2 h3 hc
            go_enter Tryz.func62, Tryz.ntmps62
            go_upto_region 3 with (fail)
            go_quiet (fail)
            go_upto_region 6 with (fail)
            go_quiet (fail)
            go_upto_region 9 with (fail)
            go_quiet (fail)
            go_wp2
            go_ret
            exact ⟨by rw [HN.out, HC.out]; rfl, by rw [HN.out]; exact HE.out _, (Wo.refl (fun k => k = p) w).drewN _⟩
          · have q2 : (x.limit : Int) > 0 := by omega
            have q2d : decide ((x.limit : Int) > 0) = true := decide_eq_true q2
            have q2e : decide (0 < x.limit) = true := by simp; omega
            have q3 : ¬ (x.limit : Int) ≤ (x.i : Int) - (x.start : Int) := by omega
            have q3d : decide ((x.limit : Int) ≤ (x.i : Int) - (x.start : Int)) = false := decide_eq_false q3
            have q3e : decide ((x.i : Int) - (x.start : Int) ≥ (x.limit : Int)) = false := q3d
            have qw : IntKind.i64.wrap ((x.i : Int) - (x.start : Int)) = (x.i : Int) - (x.start : Int) := by rw [IntKind.wrap_i64]; omega
            clear h he hx hno h1 h2 h3 hc
            go_enter Tryz.func62, Tryz.ntmps62
            go_upto_region 3 with (fail)
            go_quiet (fail)
            go_upto_region 6 with (fail)
            go_quiet (fail)
            go_upto_region 9 with (fail)
            go_quiet (fail)
            go_wp2
            go_ret
            exact ⟨by rw [HN.out, HC.out]; rfl, by rw [HN.out]; exact HE.out _, (Wo.refl (fun k => k = p) w).drewN _⟩
  · have q : ((x.e : Int) != 0) = true := by simp; omega
    have HN : Hid (x.next = (-1, x)) := if_pos (.inl he)
    have HE : Hid (Tryz.Sc w p x) := h
    clear h he hx
    go_enter Tryz.func62, Tryz.ntmps62
    go_wp2
    go_ret
    exact ⟨by rw [HN.out]; rfl, by rw [HN.out]; exact HE.out, Wo.refl _ _⟩
end Go.Proofs
namespace Go.Wb
open Go.RowKit Go.Wi
/-- Up to where a head may go; below nought: nothing is reckoned. -/
def bnd (st li : Nat) : Int := if li = 0 then -1 else ((st + li : Nat) : Int)
/-- A scan of a text whose numbers may be. -/
structure Sn.good (x : Sn) (s : List UInt8) (st li : Nat) : Prop where
  tx : x.s = s
  sta : x.start = st
  lmt : x.limit = li
  len : s.length ≤ 4611686018427387904
  i : x.i ≤ s.length
  sti : st ≤ x.i
  lim : li ≤ 2048
  bd : li ≠ 0 → x.i ≤ st + li
theorem Sn.good.ok {x : Sn} {s : List UInt8} {st li : Nat} (h : x.good s st li) : x.ok :=
  ⟨by rw [h.tx]; have := h.len; omega, by rw [h.tx]; exact h.i, by rw [h.sta]; exact h.sti, by rw [h.lmt]; have := h.lim; omega⟩
/-- The scan stands as a reading says. -/
def Fitt {α : Type} (x : Sn) : Re α → Prop
  | .bad a e => x.e = e ∧ e ≠ 0 ∧ x.at_ = a ∧ x.more = false
  | .more => x.e = 0 ∧ x.at_ = 0 ∧ x.more = true
  | .ok _ r i => x.e = 0 ∧ x.at_ = 0 ∧ x.more = false ∧ x.i = i ∧ r = x.s.drop i
/-- The byte at hand, below nought where there is none; and what is so then. -/
def byteR {α : Type} (b : Int) : Re α → Int
  | .ok _ (d :: _) i => if (i : Int) = b then -1 else ((d.toNat : Nat) : Int)
  | _ => -1
def peekR {α : Type} (b : Int) : Re α → Re α
  | .ok _ [] _ => .more
  | .ok a (d :: q) i => if (i : Int) = b then .bad i 181 else .ok a (d :: q) i
  | .bad a e => .bad a e
  | .more => .more
theorem fit_next {α : Type} {x : Sn} {s : List UInt8} {st li : Nat} {R : Re α} (g : x.good s st li) (f : Fitt x R) :
    x.next.1 = byteR (bnd st li) R ∧ x.next.2.good s st li ∧ Fitt x.next.2 (peekR (bnd st li) R) := by
  cases R with
  | bad a e =>
    have hn : x.next = (-1, x) := if_pos (.inl (by rw [f.1]; exact f.2.1))
    rw [hn]; exact ⟨rfl, g, f⟩
  | more =>
    have hn : x.next = (-1, x) := if_pos (.inr f.2.2)
    rw [hn]; exact ⟨rfl, g, f⟩
  | ok a r i =>
    obtain ⟨f1, f2, f3, f4, f5⟩ := f
    have hno : ¬ (x.e ≠ 0 ∨ x.more = true) := by
      rintro (e | e)
      · exact e f1
      · rw [f3] at e; cases e
    cases r with
    | nil =>
      have h1 : x.s.length ≤ x.i := by rw [f4]; exact List.drop_eq_nil_iff.1 f5.symm
      have hn : x.next = (-1, { x with more := true }) := by unfold Sn.next; rw [if_neg hno, if_pos h1]
      rw [hn]
      exact ⟨rfl, ⟨g.tx, g.sta, g.lmt, g.len, g.i, g.sti, g.lim, g.bd⟩, f1, f2, rfl⟩
    | cons d q =>
      have h1 : ¬ x.s.length ≤ x.i := by
        intro e
        rw [f4] at e
        have := List.drop_eq_nil_iff.2 e
        rw [this] at f5; cases f5
      have hd : x.s.getD x.i 0 = d := by
        have h2 : x.s[i]? = some d := by
          have e : (x.s.drop i)[0]? = some d := by rw [← f5]; rfl
          rwa [List.getElem?_drop, Nat.add_zero] at e
        rw [List.getD_eq_getElem?_getD, f4, h2]; rfl
      by_cases hb : (i : Int) = bnd st li
      · have h2 : 0 < x.limit ∧ x.start + x.limit ≤ x.i := by
          unfold bnd at hb
          rw [g.lmt, g.sta, f4]
          by_cases hl : li = 0
          · rw [if_pos hl] at hb; omega
          · rw [if_neg hl] at hb; omega
        have hn : x.next = (-1, x.fail x.i 181) := by unfold Sn.next; rw [if_neg hno, if_neg h1, if_pos h2]
        have hf : x.fail x.i 181 = { x with e := 181, at_ := x.i } := if_pos ⟨f1, f3⟩
        rw [hn, hf]
        refine ⟨by show _ = if _ then _ else _; rw [if_pos hb], ⟨g.tx, g.sta, g.lmt, g.len, g.i, g.sti, g.lim, g.bd⟩, ?_⟩
        show Fitt _ (if _ then _ else _)
        rw [if_pos hb]
        exact ⟨rfl, by decide, f4, f3⟩
      · have h2 : ¬ (0 < x.limit ∧ x.start + x.limit ≤ x.i) := by
          rintro ⟨e1, e2⟩
          rw [g.lmt] at e1 e2
          rw [g.sta] at e2
          have := g.bd (by omega)
          apply hb
          unfold bnd
          rw [if_neg (by omega)]
          omega
        have hn : x.next = ((((x.s.getD x.i 0).toNat : Nat) : Int), x) := by unfold Sn.next; rw [if_neg hno, if_neg h1, if_neg h2]
        rw [hn, hd]
        refine ⟨by show _ = if _ then _ else _; rw [if_neg hb], g, ?_⟩
        show Fitt _ (if _ then _ else _)
        rw [if_neg hb]
        exact ⟨f1, f2, f3, f4, f5⟩
theorem fit_fail {α β : Type} {x : Sn} {s : List UInt8} {st li : Nat} {R : Re α} (g : x.good s st li) (f : Fitt x R) (a e : Nat) (he : e ≠ 0) : (x.fail a e).good s st li ∧ Fitt (x.fail a e) (R.bind fun _ _ _ => (.bad a e : Re β)) := by
  cases R with
  | bad a e2 =>
    have hn : x.fail a e = x := if_neg fun h => f.2.1 (by rw [← f.1]; exact h.1)
    have hn' : ∀ b, x.fail b e = x := fun b => if_neg fun h => f.2.1 (by rw [← f.1]; exact h.1)
    rw [hn']; exact ⟨g, f⟩
  | more =>
    have hn : x.fail a e = x := if_neg fun h => by rw [f.2.2] at h; cases h.2
    rw [hn]; exact ⟨g, f⟩
  | ok _ r i =>
    have hn : x.fail a e = { x with e := e, at_ := a } := if_pos ⟨f.1, f.2.2.1⟩
    rw [hn]
    exact ⟨⟨g.tx, g.sta, g.lmt, g.len, g.i, g.sti, g.lim, g.bd⟩, rfl, he, rfl, f.2.2.1⟩
theorem fail_i (x : Sn) (a e : Nat) : (x.fail a e).i = x.i := by unfold Sn.fail; split <;> rfl
theorem next_i (x : Sn) : x.next.2.i = x.i := by
  unfold Sn.next
  split
  · rfl
  · split
    · rfl
    · split
      · exact fail_i x _ _
      · rfl
/-- The place did not go back. -/
def Mo (p : Nat) (w w' : World) : Prop := ∀ i : Nat, w.cell? ⟨p, 1, none⟩ = some (.int .i64 i) → ∃ j : Nat, i ≤ j ∧ w'.cell? ⟨p, 1, none⟩ = some (.int .i64 j)
theorem Mo.refl (p : Nat) (w : World) : Mo p w w := fun i h => ⟨i, Nat.le_refl _, h⟩
theorem Mo.same {p : Nat} {w w' : World} (h : w'.cell? ⟨p, 1, none⟩ = w.cell? ⟨p, 1, none⟩) : Mo p w w' := fun i g => ⟨i, Nat.le_refl _, h.trans g⟩
theorem Mo.trans {p : Nat} {w w1 w2 : World} (h : Mo p w w1) (g : Mo p w1 w2) : Mo p w w2 := fun i e => by
  obtain ⟨j, h1, h2⟩ := h i e
  obtain ⟨k, h3, h4⟩ := g j h2
  exact ⟨k, Nat.le_trans h1 h3, h4⟩
/-- What begins by looking at the next byte. -/
structure Pk {α β : Type} (b : Int) (g : α → List UInt8 → Nat → Re β) : Prop where
  nil : ∀ a i, g a [] i = .more
  bd : ∀ a d q (i : Nat), (i : Int) = b → g a (d :: q) i = .bad i 181
theorem fit_dead {α β : Type} {x : Sn} {R : Re α} {b : Int} {g : α → List UInt8 → Nat → Re β} (hb : byteR b R = -1) (hg : Pk b g) (f : Fitt x (peekR b R)) : Fitt x (R.bind g) := by
  cases R with
  | bad a e => exact f
  | more => exact f
  | ok a r i =>
    cases r with
    | nil => show Fitt x (g a [] i); rw [hg.nil]; exact f
    | cons d q =>
      by_cases hi : (i : Int) = b
      · show Fitt x (g a (d :: q) i)
        rw [hg.bd _ _ _ _ hi]
        have f2 : Fitt x (if (i : Int) = b then (.bad i 181 : Re α) else .ok a (d :: q) i) := f
        rw [if_pos hi] at f2
        exact f2
      · have : byteR b (.ok a (d :: q) i) = ((d.toNat : Nat) : Int) := if_neg hi
        rw [this] at hb; omega
theorem peek_cases {α : Type} (b : Int) (R : Re α) : byteR b R = -1 ∨ ∃ a d q i, R = .ok a (d :: q) i ∧ ¬ (i : Int) = b ∧ byteR b R = ((d.toNat : Nat) : Int) ∧ peekR b R = R := by
  cases R with
  | bad a e => exact .inl rfl
  | more => exact .inl rfl
  | ok a r i =>
    cases r with
    | nil => exact .inl rfl
    | cons d q =>
      by_cases hi : (i : Int) = b
      · exact .inl (if_pos hi)
      · exact .inr ⟨a, d, q, i, rfl, hi, if_neg hi, if_neg hi⟩
theorem fit_move {α β : Type} {x : Sn} {s : List UInt8} {st li : Nat} {a : α} {d : UInt8} {q : List UInt8} {i : Nat} (g : x.good s st li) (f : Fitt x (.ok a (d :: q) i)) (hi : ¬ (i : Int) = bnd st li) (v : β) : Sn.good { x with i := i + 1 } s st li ∧ Fitt { x with i := i + 1 } (.ok v q (i + 1) : Re β) := by
  obtain ⟨f1, f2, f3, f4, f5⟩ := f
  have hl : i < s.length := by
    rcases Nat.lt_or_ge i s.length with h | h
    · exact h
    · rw [g.tx, List.drop_eq_nil_iff.2 h] at f5; cases f5
  refine ⟨⟨g.tx, g.sta, g.lmt, g.len, hl, by show st ≤ i + 1; have := g.sti; rw [f4] at this; omega, g.lim, fun h => ?_⟩, f1, f2, f3, rfl, ?_⟩
  · have h2 := g.bd h
    rw [f4] at h2
    unfold bnd at hi
    rw [if_neg h] at hi
    show i + 1 ≤ st + li
    omega
  · show q = x.s.drop (i + 1)
    have : (x.s.drop i).drop 1 = q := by rw [← f5]; rfl
    rw [← this, List.drop_drop]
theorem must_pk {α : Type} (b : Int) (c : UInt8) : Pk b (fun (_ : α) r i => mustD b c r i) := ⟨fun _ _ => rfl, fun _ d q i h => by rw [mustD_cons, if_pos h]⟩
theorem bind_ok_eq {α β : Type} (a : α) (r : List UInt8) (i : Nat) (g : α → List UInt8 → Nat → Re β) : (Re.ok a r i).bind g = g a r i := rfl
theorem bind_bind {α β γ : Type} (R : Re α) (f : α → List UInt8 → Nat → Re β) (g : β → List UInt8 → Nat → Re γ) : (R.bind f).bind g = R.bind fun a r i => (f a r i).bind g := by cases R <;> rfl
end Go.Wb
namespace Go.Proofs
open Go.RowKit Go.Wi Go.Wb
/-- The document's scan in memory stands as a reading says. -/
structure Tryz.SS (w : World) (p : Nat) (s : List UInt8) (st li : Nat) {α : Type} (R : Re α) : Prop where
  ex : ∃ x, Tryz.Sc w p x ∧ x.good s st li ∧ Fitt x R
theorem Tryz.ssNext {α : Type} {w : World} {p : Nat} {s : List UInt8} {st li : Nat} {R : Re α} (h : Tryz.SS w p s st li R) :
    Calls Tryz.prog 62 #[.pointer (some ⟨p, 0, none⟩)] w fun e w' => e = .returned (.int .i64 (byteR (bnd st li) R)) ∧ Tryz.SS w' p s st li (peekR (bnd st li) R) ∧ Wo (fun k => k = p) w w' ∧ w'.cell? ⟨p, 1, none⟩ = w.cell? ⟨p, 1, none⟩ := by
  obtain ⟨x, h1, h2, h3⟩ := h.ex
  obtain ⟨n1, n2, n3⟩ := fit_next h2 h3
  refine (Tryz.scNext_any h1 h2.ok).mono ?_
  rintro e w1 ⟨rfl, hs, hw⟩
  exact ⟨by rw [n1], ⟨_, hs, n2, n3⟩, hw, by rw [(Tryz.Sc.c hs).2.1, (Tryz.Sc.c h1).2.1, next_i]⟩
theorem Tryz.ssFail {α : Type} (β : Type) {w : World} {p : Nat} {s : List UInt8} {st li : Nat} {R : Re α} (h : Tryz.SS w p s st li R) (a er : Nat) (he : er ≠ 0) :
    Calls Tryz.prog 67 #[.pointer (some ⟨p, 0, none⟩), .int .i64 a, .int .i64 er] w fun e w' => (∃ v, e = .returned v) ∧ Tryz.SS w' p s st li (R.bind fun _ _ _ => (.bad a er : Re β)) ∧ Wo (fun k => k = p) w w' ∧ w'.cell? ⟨p, 1, none⟩ = w.cell? ⟨p, 1, none⟩ := by
  obtain ⟨x, h1, h2, h3⟩ := h.ex
  obtain ⟨n2, n3⟩ := fit_fail (β := β) h2 h3 a er he
  refine (Tryz.scFail_any h1 a er).mono ?_
  rintro e w1 ⟨hv, hs, hw⟩
  exact ⟨hv, ⟨_, hs, n2, n3⟩, hw, by rw [(Tryz.Sc.c hs).2.1, (Tryz.Sc.c h1).2.1, fail_i]⟩
theorem Tryz.SS.dead {α β : Type} {w : World} {p : Nat} {s : List UInt8} {st li : Nat} {R : Re α} {g : α → List UInt8 → Nat → Re β} (h : Tryz.SS w p s st li (peekR (bnd st li) R)) (hb : byteR (bnd st li) R = -1) (hg : Pk (bnd st li) g) : Tryz.SS w p s st li (R.bind g) := by
  obtain ⟨x, h1, h2, h3⟩ := h.ex
  exact ⟨x, h1, h2, fit_dead hb hg h3⟩
theorem Tryz.Sc.move {w : World} {p : Nat} {x : Sn} (h : Tryz.Sc w p x) (j : Nat) : Tryz.Sc (w.setCell ⟨p, 1, none⟩ (.int .i64 j)) p { x with i := j } := heap_setCell_same w p 1 _ _ (.int .i64 j) h
/-- One byte on. -/
theorem Tryz.SS.move {α β : Type} {w : World} {p : Nat} {s : List UInt8} {st li : Nat} {a : α} {d : UInt8} {q : List UInt8} {i : Nat} (h : Tryz.SS w p s st li (.ok a (d :: q) i : Re α)) (hi : ¬ (i : Int) = bnd st li) (v : β) (z : Int) (hz : z = (i : Int) + 1) : Tryz.SS (w.setCell ⟨p, 1, none⟩ (.int .i64 z)) p s st li (.ok v q (i + 1) : Re β) := by
  obtain ⟨x, h1, h2, h3⟩ := h.ex
  obtain ⟨g1, g2⟩ := fit_move h2 h3 hi v
  subst hz
  exact ⟨_, Tryz.Sc.move h1 (i + 1), g1, g2⟩
/-- What lies there while reading goes on. -/
theorem Tryz.SS.c {α : Type} {w : World} {p : Nat} {s : List UInt8} {st li : Nat} {a : α} {r : List UInt8} {i : Nat} (h : Tryz.SS w p s st li (.ok a r i : Re α)) : w.cell? ⟨p, 0, none⟩ = some (.string ⟨s.toArray⟩) ∧ w.cell? ⟨p, 1, none⟩ = some (.int .i64 i) ∧ (∀ j, w.frozen? ⟨p, j, none⟩ = false) ∧ i ≤ s.length ∧ s.length ≤ 4611686018427387904 ∧ r = s.drop i := by
  obtain ⟨x, h1, h2, h3⟩ := h.ex
  obtain ⟨c0, c1, _⟩ := Tryz.Sc.c h1
  rw [h2.tx] at c0
  rw [h3.2.2.2.1] at c1
  exact ⟨c0, c1, fun j => Tryz.Sc.fz h1 j, by have := h2.i; rw [h3.2.2.2.1] at this; exact this, h2.len, by have := h3.2.2.2.2; rw [h2.tx] at this; exact this⟩
theorem Tryz.SS.mo {α : Type} {w w1 : World} {p : Nat} {s : List UInt8} {st li : Nat} {a : α} {r : List UInt8} {i : Nat} (h : Tryz.SS w1 p s st li (.ok a r i : Re α)) (hc : w1.cell? ⟨p, 1, none⟩ = w.cell? ⟨p, 1, none⟩) (z : Int) (hz : z = (i : Int) + 1) : Mo p w (w1.setCell ⟨p, 1, none⟩ (.int .i64 z)) := by
  intro k hk
  obtain ⟨x, h1, h2, h3⟩ := h.ex
  have c1 := (Tryz.Sc.c h1).2.1
  rw [h3.2.2.2.1] at c1
  have e : (some (Value.int .i64 i)) = some (.int .i64 k) := by rw [← c1, hc, hk]
  have e2 : (i : Int) = k := by injection e with e; injection e with _ e
  subst hz
  exact ⟨i + 1, by omega, (Tryz.Sc.c (Tryz.Sc.move h1 (i + 1))).2.1⟩
/-- The text and the place, whatever is so. -/
theorem Tryz.SS.place {α : Type} {w : World} {p : Nat} {s : List UInt8} {st li : Nat} {R : Re α} (h : Tryz.SS w p s st li R) : ∃ i : Nat, w.cell? ⟨p, 0, none⟩ = some (.string ⟨s.toArray⟩) ∧ w.cell? ⟨p, 1, none⟩ = some (.int .i64 i) ∧ (∀ j, w.frozen? ⟨p, j, none⟩ = false) ∧ i ≤ s.length ∧ s.length ≤ 4611686018427387904 ∧ (∀ a r j, R = .ok a r j → j = i) := by
  obtain ⟨x, h1, h2, h3⟩ := h.ex
  obtain ⟨c0, c1, _⟩ := Tryz.Sc.c h1
  rw [h2.tx] at c0
  exact ⟨x.i, c0, c1, fun j => Tryz.Sc.fz h1 j, h2.i, h2.len, fun a r j e => by rw [e] at h3; exact h3.2.2.2.1.symm⟩
theorem Tryz.SS.drewN {α : Type} {w : World} {p : Nat} {s : List UInt8} {st li : Nat} {R : Re α} (h : Tryz.SS w p s st li R) (n : Nat) : Tryz.SS (w.drewN n) p s st li R := ⟨h.ex⟩
theorem Tryz.SS.keep {α : Type} {w w' : World} {p : Nat} {s : List UInt8} {st li : Nat} {R : Re α} (h : Tryz.SS w p s st li R) (e : w'.heap[p]? = w.heap[p]?) : Tryz.SS w' p s st li R := by
  obtain ⟨x, h1, h2, h3⟩ := h.ex
  exact ⟨x, e.trans h1, h2, h3⟩
set_option maxRecDepth 20000 in
set_option maxHeartbeats 1000000 in
theorem Tryz.ssMust {α : Type} {w : World} {p : Nat} {s : List UInt8} {st li : Nat} {R : Re α} (h : Tryz.SS w p s st li R) (c : UInt8) :
    Calls Tryz.prog 65 #[.pointer (some ⟨p, 0, none⟩), .int .i64 c.toNat] w fun e w' => (∃ v, e = .returned v) ∧ Tryz.SS w' p s st li (R.bind fun _ r i => mustD (bnd st li) c r i) ∧ Wo (fun k => k = p) w w' ∧ Mo p w w' := by
  have k1 := Tryz.ssNext h
  rcases peek_cases (bnd st li) R with hb | ⟨a, d, q, i, rfl, hi, hb, hp⟩
  · rw [hb] at k1
    have HF : Hid (∀ w', Tryz.SS w' p s st li (peekR (bnd st li) R) → Tryz.SS w' p s st li (R.bind fun _ r i => mustD (bnd st li) c r i)) := fun w' h => Tryz.SS.dead h hb (must_pk _ _)
    clear hb h
    go_enter Tryz.func65, Tryz.ntmps65
    go_wp2_with (first | (go_at_call 62; refine k1.mono ?_; clear k1; rintro e w1 ⟨rfl, h1, hw1, hc1⟩; have HC : Hid (Mo p w w1) := Mo.same hc1; clear hc1) | fail)
    exact bodyPost_ret (results_none rfl _ _ _) rfl ⟨⟨_, rfl⟩, HF.out _ h1, hw1, HC.out⟩
  · rw [hb, hp] at k1
    by_cases hd : d = c
    · subst hd
      have HM : Hid (∀ w', Tryz.SS w' p s st li (.ok a (d :: q) i : Re α) → ∀ z : Int, z = (i : Int) + 1 → Tryz.SS (w'.setCell ⟨p, 1, none⟩ (.int .i64 z)) p s st li ((Re.ok a (d :: q) i : Re α).bind fun _ r i => mustD (bnd st li) d r i)) := fun w' h z hz => (by
        rw [bind_ok_eq, mustD_cons, if_neg hi, if_pos rfl]
        exact Tryz.SS.move h hi () z hz)
      have q1 : (((d.toNat : Nat) : Int) != (d.toNat : Int)) = false := by simp
      have hlt := d.toNat_lt
      have q0 : ¬ ((d.toNat : Nat) : Int) < 0 := by omega
      clear hb hp h hi
      go_enter Tryz.func65, Tryz.ntmps65
      go_wp2_with (first | (go_at_call 62; refine k1.mono ?_; clear k1; rintro e w1 ⟨rfl, h1, hw1, hc1⟩; have HC : Hid (∀ z : Int, z = (i : Int) + 1 → Mo p w (w1.setCell ⟨p, 1, none⟩ (.int .i64 z))) := fun z hz => Tryz.SS.mo h1 hc1 z hz; clear hc1; have HS : Hid (∀ z : Int, z = (i : Int) + 1 → Tryz.SS (w1.setCell ⟨p, 1, none⟩ (.int .i64 z)) p s st li ((Re.ok a (d :: q) i : Re α).bind fun _ r i => mustD (bnd st li) d r i)) := HM.out w1 h1; clear HM; have H1 := Tryz.SS.c h1; obtain ⟨c0, c1, fz, hil, hsl, _⟩ := H1; have f1 := fz 1; clear h1 fz c0) | fail)
      exact bodyPost_end (results_none rfl _ _ _) rfl ⟨⟨_, rfl⟩, HS.out _ rfl, hw1.setCell p 1 _ (.inl rfl), HC.out _ rfl⟩
    · have q1 : (((d.toNat : Nat) : Int) != (c.toNat : Int)) = true := by
        simp only [bne_iff_ne, ne_eq]
        exact fun e => hd (UInt8.toNat_inj.1 (by omega))
      have hlt := d.toNat_lt
      have q0 : ¬ ((d.toNat : Nat) : Int) < 0 := by omega
      have HF : Hid (∀ w', Tryz.SS w' p s st li ((Re.ok a (d :: q) i : Re α).bind fun _ _ _ => (.bad i 180 : Re Unit)) → Tryz.SS w' p s st li ((Re.ok a (d :: q) i : Re α).bind fun _ r i => mustD (bnd st li) c r i)) := fun w' h => (by
        rw [bind_ok_eq, mustD_cons, if_neg hi, if_neg hd]
        exact h)
      clear hb hp h hi hd
      go_enter Tryz.func65, Tryz.ntmps65
      go_wp2_with (first | (go_at_call 62; refine k1.mono ?_; clear k1; rintro e w1 ⟨rfl, h1, hw1, hc1⟩; have HC : Hid (Mo p w w1) := Mo.same hc1; clear hc1; have k2 := Tryz.ssFail Unit h1 i 180 (by decide); have H1 := Tryz.SS.c h1; obtain ⟨c0, c1, fz, hil, hsl, _⟩ := H1; clear h1 fz c0) | (go_at_call 67; refine k2.mono ?_; clear k2; rintro e w2 ⟨⟨v, rfl⟩, h2, hw2, hc2⟩; have HC2 : Hid (Mo p w w2) := HC.out.trans (Mo.same hc2); clear hc2) | fail)
      exact bodyPost_ret (results_none rfl _ _ _) rfl ⟨⟨_, rfl⟩, HF.out _ h2, hw1.trans hw2, HC2.out⟩
theorem endD_is {α : Type} (b : Int) (R : Re α) : ((R.bind fun _ r i => mustD b 13 r i).bind fun _ r i => mustD b 10 r i) = R.bind fun _ r i => endD b r i := by cases R <;> rfl
set_option maxRecDepth 20000 in
set_option maxHeartbeats 1000000 in
theorem Tryz.ssEnd {α : Type} {w : World} {p : Nat} {s : List UInt8} {st li : Nat} {R : Re α} (h : Tryz.SS w p s st li R) :
    Calls Tryz.prog 63 #[.pointer (some ⟨p, 0, none⟩)] w fun e w' => (∃ v, e = .returned v) ∧ Tryz.SS w' p s st li (R.bind fun _ r i => endD (bnd st li) r i) ∧ Wo (fun k => k = p) w w' := by
  have k1 := Tryz.ssMust h 13
  have HE : Hid (((R.bind fun _ r i => mustD (bnd st li) 13 r i).bind fun _ r i => mustD (bnd st li) 10 r i) = R.bind fun _ r i => endD (bnd st li) r i) := endD_is _ _
  clear h
  go_enter Tryz.func63, Tryz.ntmps63
  go_wp2_with (first | (go_at_call 65; refine k1.mono ?_; clear k1; rintro e w1 ⟨⟨v, rfl⟩, h1, hw1, _⟩; have k2 := Tryz.ssMust h1 10; clear h1) | (go_at_call 65; refine k2.mono ?_; clear k2; rintro e w2 ⟨⟨v2, rfl⟩, h2, hw2, _⟩) | fail)
  exact bodyPost_end (results_none rfl _ _ _) rfl ⟨⟨_, rfl⟩, by rw [← HE.out]; exact h2, hw1.trans hw2⟩
end Go.Proofs
