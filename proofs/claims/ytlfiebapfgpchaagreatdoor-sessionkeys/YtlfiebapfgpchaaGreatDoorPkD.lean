/-
  Laid together by pack.py of Sao Sap.
-/
import Derived.Test.YtlfiebapfgpchaaGreatDoorPkC
namespace Go.Proofs
open Go.RowKit Go.Wi Go.Se Go.Ct Go.Dg
theorem Tryz.Kp.up {w w' : World} {own : Nat → Prop} {kb : Nat} {key : List UInt8} {n : Nu} {L : List ({x : Tk // x.ok} × Int)} {o : Option {x : Tk // x.ok}} {D : List (ByteArray × Int)} (h : Tryz.Kp w own kb key n L o D) (g : Below w.heap.size w w') : Tryz.Kp w' own kb key n L o D :=
  h.keep (fun k e => g.block k (h.lt k e)) g.size
theorem Tryz.Rk.up {w w' : World} {kb : Nat} {key : ByteArray} {a b c l g : Int} {tv dv : Value} (h : Tryz.Rk w kb key a b c l g tv dv) (hw : Below w.heap.size w w') : Tryz.Rk w' kb key a b c l g tv dv :=
  (hw.block kb (block_lt h)).trans h
/-- The first keeper, the second, the third, and the document's two. -/
structure Tryz.Q5 (w0 v : World) (k0 k1 k2 r1 r2 : Nat) (la l2 : List UInt8) (a b c : Int) : Prop where
  ex : ∃ O0 O1 O2 : Nat → Prop, Tryz.Kp v O0 k0 la ⟨a, b, c, 0, 0⟩ [] none [] ∧ Tryz.Kp v O1 k1 la ⟨a, b, c, 0, 0⟩ [] none [] ∧ Tryz.Kp v O2 k2 l2 ⟨a, b, c, 0, 0⟩ [] none [] ∧ (∀ k, O1 k → ¬ O0 k) ∧ (∀ k, O2 k → ¬ O0 k ∧ ¬ O1 k) ∧ (∀ k, O0 k → w0.heap.size ≤ k) ∧ (∀ k, O1 k → w0.heap.size ≤ k) ∧ (∀ k, O2 k → w0.heap.size ≤ k) ∧ (¬ O0 r1 ∧ ¬ O1 r1 ∧ ¬ O2 r1) ∧ (¬ O0 r2 ∧ ¬ O1 r2 ∧ ¬ O2 r2)
  h1 : Tryz.Rk v r1 ⟨la.toArray⟩ a b c 0 0 (.slice none 0 0) (.slice none 0 0)
  h2 : Tryz.Rk v r2 ⟨l2.toArray⟩ a b c 0 0 (.slice none 0 0) (.slice none 0 0)
  ne : r1 ≠ r2
  le : w0.heap.size ≤ r1 ∧ w0.heap.size ≤ r2
  bel : Below w0.heap.size w0 v
  tq : Tryz.Tq w0
/-- The first keeper, the third, and the document's two. -/
structure Tryz.Q6 (w0 v : World) (k0 k2 r1 r2 : Nat) (la l2 : List UInt8) (a b c : Int) : Prop where
  ex : ∃ O0 O2 : Nat → Prop, Tryz.Kp v O0 k0 la ⟨a, b, c, 0, 0⟩ [] none [] ∧ Tryz.Kp v O2 k2 l2 ⟨a, b, c, 0, 0⟩ [] none [] ∧ (∀ k, O2 k → ¬ O0 k) ∧ (∀ k, O0 k → w0.heap.size ≤ k) ∧ (∀ k, O2 k → w0.heap.size ≤ k) ∧ (¬ O0 r1 ∧ ¬ O2 r1) ∧ (¬ O0 r2 ∧ ¬ O2 r2)
  h1 : Tryz.Rk v r1 ⟨la.toArray⟩ a b c 0 0 (.slice none 0 0) (.slice none 0 0)
  h2 : Tryz.Rk v r2 ⟨l2.toArray⟩ a b c 0 0 (.slice none 0 0) (.slice none 0 0)
  ne : r1 ≠ r2
  le : w0.heap.size ≤ r1 ∧ w0.heap.size ≤ r2
  bel : Below w0.heap.size w0 v
  tq : Tryz.Tq w0
/-- The first keeper, and the document's two. -/
structure Tryz.Q7 (w0 v : World) (k0 r1 r2 : Nat) (la l2 : List UInt8) (a b c : Int) : Prop where
  ex : ∃ O0 : Nat → Prop, Tryz.Kp v O0 k0 la ⟨a, b, c, 0, 0⟩ [] none [] ∧ (∀ k, O0 k → w0.heap.size ≤ k) ∧ ¬ O0 r1 ∧ ¬ O0 r2
  h1 : Tryz.Rk v r1 ⟨la.toArray⟩ a b c 0 0 (.slice none 0 0) (.slice none 0 0)
  h2 : Tryz.Rk v r2 ⟨l2.toArray⟩ a b c 0 0 (.slice none 0 0) (.slice none 0 0)
  ne : r1 ≠ r2
  le : w0.heap.size ≤ r1 ∧ w0.heap.size ≤ r2
  bel : Below w0.heap.size w0 v
  tq : Tryz.Tq w0
/-- The token that all of them give. -/
theorem Se.xl_ok (a : Int) (h1 : 1 ≤ a) (h2 : a ≤ 1000000) : (Tk.mk Se.ua 1 a).ok := ⟨by show Se.ua.size ≤ maxLen; decide, by show (Lit.int .i64 1).wf = true; decide, by refine WalkArith.wf_i64 ?_; show -9223372036854775808 ≤ a ∧ a ≤ 9223372036854775807; omega⟩
theorem Tryz.Q5.one {w0 v : World} {k0 k1 k2 r1 r2 : Nat} {la l2 : List UInt8} {a b c : Int} (h : Tryz.Q5 w0 v k0 k1 k2 r1 r2 la l2 a b c) (hm : Se.Nu.May ⟨a, b, c, 0, 0⟩) (hl : la.length ≤ 64) (x : {x : Tk // x.ok}) (hx : x.1 = ⟨Se.ua, 1, a⟩) :
    Calls Tryz.prog 11 #[.pointer (some ⟨k1, 0, none⟩), .string ⟨#[64, 97]⟩, .int .i64 0] v fun e w' => e = .returned (.tuple #[.string (Se.Tk.text x.1 la), .int .i64 0]) ∧ Tryz.Q6 w0 w' k0 k2 r1 r2 la l2 a b c := by
  obtain ⟨O0, O1, O2, p0, p1, p2, d1, d2, f0, f1, f2, n1, n2⟩ := h.ex
  have hsz := h.tq.sz
  refine (Tryz.issue_first (D' := []) p1 (h.tq.below h.bel h.tq.sz) (fun k e => Nat.le_trans hsz (f1 k e)) hl hm (Int.le_refl 0) (by show (0 : Int) ≤ 1000000000; decide) (Int.le_refl 0) (by show (0 : Int) < 1000000000; decide) Se.ua (by decide) (by decide) 0 (Int.le_refl 0) (by decide) (.inl ⟨rfl, rfl⟩) x (by rw [hx]; show _ = Tk.mk Se.ua (0 + 1) (max 0 0 + a); rw [show max (0 : Int) 0 + a = a by omega]; rfl)).mono fun e w' ⟨e1, e2⟩ => ?_
  exact ⟨e1, ⟨O0, O2, p0.past e2.wo d1, p2.past e2.wo (fun k s e => (d2 k e).2 s), fun k e => (d2 k e).1, f0, f2, ⟨n1.1, n1.2.2⟩, n2.1, n2.2.2⟩, h.h1.past e2.wo n1.2.1, h.h2.past e2.wo n2.2.1, h.ne, h.le, Wo.toBelow h.bel e2.wo f1 h.bel.size, h.tq⟩
theorem Tryz.Q6.two {w0 v : World} {k0 k2 r1 r2 : Nat} {la l2 : List UInt8} {a b c : Int} (h : Tryz.Q6 w0 v k0 k2 r1 r2 la l2 a b c) (hm : Se.Nu.May ⟨a, b, c, 0, 0⟩) (hl : l2.length ≤ 64) (x : {x : Tk // x.ok}) (hx : x.1 = ⟨Se.ua, 1, a⟩) :
    Calls Tryz.prog 11 #[.pointer (some ⟨k2, 0, none⟩), .string ⟨#[64, 97]⟩, .int .i64 0] v fun e w' => e = .returned (.tuple #[.string (Se.Tk.text x.1 l2), .int .i64 0]) ∧ Tryz.Q7 w0 w' k0 r1 r2 la l2 a b c := by
  obtain ⟨O0, O2, p0, p2, d2, f0, f2, n1, n2⟩ := h.ex
  have hsz := h.tq.sz
  refine (Tryz.issue_first (D' := []) p2 (h.tq.below h.bel h.tq.sz) (fun k e => Nat.le_trans hsz (f2 k e)) hl hm (Int.le_refl 0) (by show (0 : Int) ≤ 1000000000; decide) (Int.le_refl 0) (by show (0 : Int) < 1000000000; decide) Se.ua (by decide) (by decide) 0 (Int.le_refl 0) (by decide) (.inl ⟨rfl, rfl⟩) x (by rw [hx]; show _ = Tk.mk Se.ua (0 + 1) (max 0 0 + a); rw [show max (0 : Int) 0 + a = a by omega]; rfl)).mono fun e w' ⟨e1, e2⟩ => ?_
  exact ⟨e1, ⟨O0, p0.past e2.wo d2, f0, n1.1, n2.1⟩, h.h1.past e2.wo n1.2, h.h2.past e2.wo n2.2, h.ne, h.le, Wo.toBelow h.bel e2.wo f2 h.bel.size, h.tq⟩
theorem Tryz.Q7.ref1 {w0 v : World} {k0 r1 r2 : Nat} {la l2 : List UInt8} {a b c : Int} (h : Tryz.Q7 w0 v k0 r1 r2 la l2 a b c) (hm : Se.Nu.May ⟨a, b, c, 0, 0⟩) (hl : la.length ≤ 64) :
    Calls Tryz.prog 15 #[.pointer (some ⟨r1, 0, none⟩), .string ⟨#[64, 97]⟩, .int .i64 0] v fun e w' => e = .returned (.tuple #[.string (Se.Tk.text ⟨Se.ua, 1, a⟩ la), .int .i64 0]) ∧ (∃ O0 : Nat → Prop, Tryz.Kp w' O0 k0 la ⟨a, b, c, 0, 0⟩ [] none [] ∧ (∀ k, O0 k → w0.heap.size ≤ k) ∧ ¬ O0 r2) ∧ Tryz.Rk w' r2 ⟨l2.toArray⟩ a b c 0 0 (.slice none 0 0) (.slice none 0 0) ∧ Below w0.heap.size w0 w' := by
  obtain ⟨O0, p0, f0, n1, n2⟩ := h.ex
  have hl1 : (⟨la.toArray⟩ : ByteArray).toList = la := by rw [ByteArray.toList_eq]
  have q := Tryz.rIssue_first h.h1 (by show la.length ≤ 64; exact hl) hm.1.1 hm.1.2 Se.ua (by decide) (by decide)
  rw [hl1] at q
  exact q.mono fun e w' ⟨e1, e2⟩ => ⟨e1, ⟨O0, p0.past e2 (fun k s e => n1 (s ▸ e)), f0, n2⟩, h.h2.past e2 (fun e => h.ne e.symm), Wo.toBelow h.bel e2 (fun k e => e ▸ h.le.1) h.bel.size⟩
theorem Tryz.Q7.ref2 {w0 w v : World} {k0 r2 : Nat} {la l2 : List UInt8} {a b c : Int} (hT : Tryz.Tq w0) (hex : ∃ O0 : Nat → Prop, Tryz.Kp v O0 k0 la ⟨a, b, c, 0, 0⟩ [] none [] ∧ (∀ k, O0 k → w0.heap.size ≤ k) ∧ ¬ O0 r2) (h2 : Tryz.Rk v r2 ⟨l2.toArray⟩ a b c 0 0 (.slice none 0 0) (.slice none 0 0)) (hb : Below w0.heap.size w0 v) (hle : w0.heap.size ≤ r2) (hm : Se.Nu.May ⟨a, b, c, 0, 0⟩) (hl : l2.length ≤ 64) (_hw : w = w0) :
    Calls Tryz.prog 15 #[.pointer (some ⟨r2, 0, none⟩), .string ⟨#[64, 97]⟩, .int .i64 0] v fun e w' => e = .returned (.tuple #[.string (Se.Tk.text ⟨Se.ua, 1, a⟩ l2), .int .i64 0]) ∧ Tryz.KH w0 w' k0 la ⟨a, b, c, 0, 0⟩ [] none [] [] := by
  obtain ⟨O0, p0, f0, n2⟩ := hex
  have hl1 : (⟨l2.toArray⟩ : ByteArray).toList = l2 := by rw [ByteArray.toList_eq]
  have q := Tryz.rIssue_first h2 (by show l2.length ≤ 64; exact hl) hm.1.1 hm.1.2 Se.ua (by decide) (by decide)
  rw [hl1] at q
  exact q.mono fun e w' ⟨e1, e2⟩ => ⟨e1, ⟨O0, p0.past e2 (fun k s e => n2 (s ▸ e)), f0, fun p hp => by cases hp⟩, fun p hp => (by cases hp), Wo.toBelow hb e2 (fun k e => e ▸ hle) hb.size, hT⟩
end Go.Proofs
namespace Go.Proofs
open Go.RowKit Go.Wi Go.Se Go.Ct Go.Dg
theorem Tryz.Q5.made {w w1 v1 w2 v3 wr v5 v6 v7 : World} {k0 k1 k2 r1 r2 g : Nat} {la l2 : List UInt8} {a b c : Int} (hT : Tryz.Tq w) (b1 : Below w.heap.size w w1)
    (p0 : Tryz.Kp v1 (fun k => w1.heap.size ≤ k ∧ k < v1.heap.size) k0 la ⟨a, b, c, 0, 0⟩ [] none []) (b2 : Below w1.heap.size w1 v1) (b3 : Below v1.heap.size v1 w2)
    (p1 : Tryz.Kp v3 (fun k => w2.heap.size ≤ k ∧ k < v3.heap.size) k1 la ⟨a, b, c, 0, 0⟩ [] none []) (b4 : Below w2.heap.size w2 v3) (hg1 : v1.heap.size ≤ g) (hg2 : g < w2.heap.size) (hx : Wo (fun k => k = g) v3 wr)
    (p2 : Tryz.Kp v5 (fun k => wr.heap.size ≤ k ∧ k < v5.heap.size) k2 l2 ⟨a, b, c, 0, 0⟩ [] none []) (b5 : Below wr.heap.size wr v5)
    (h1 : Tryz.Rk v6 r1 ⟨la.toArray⟩ a b c 0 0 (.slice none 0 0) (.slice none 0 0)) (hr1 : v5.heap.size ≤ r1) (b6 : Below v5.heap.size v5 v6)
    (h2 : Tryz.Rk v7 r2 ⟨l2.toArray⟩ a b c 0 0 (.slice none 0 0) (.slice none 0 0)) (hr2 : v6.heap.size ≤ r2) (b7 : Below v6.heap.size v6 v7) : Tryz.Q5 w v7 k0 k1 k2 r1 r2 la l2 a b c := by
  have s1 := b1.size
  have s2 := b2.size
  have s3 := b3.size
  have s4 := b4.size
  have s5 := hx.size
  have s6 := b5.size
  have s7 := b6.size
  have s8 := b7.size
  have s9 := block_lt h1
  have hb67 : Below v5.heap.size v5 v7 := b6.trans (b7.mono s7)
  have hb57 : Below wr.heap.size wr v7 := b5.trans (hb67.mono s6)
  have hb3 : Below v1.heap.size v1 v3 := b3.trans (b4.mono s3)
  have hbr : Below v1.heap.size v1 wr := Wo.toBelow hb3 hx (fun k e => by omega) (by omega)
  have hb17 : Below v1.heap.size v1 v7 := hbr.trans (hb57.mono (by omega))
  refine ⟨⟨_, _, _, p0.up hb17, (p1.past hx (fun k s e => by have := e.1; omega)).up hb57, p2.up hb67, fun k e e' => ?_, fun k e => ⟨fun e' => ?_, fun e' => ?_⟩, fun k e => ?_, fun k e => ?_, fun k e => ?_, ⟨fun e => ?_, fun e => ?_, fun e => ?_⟩, fun e => ?_, fun e => ?_, fun e => ?_⟩, h1.up b7, h2, ?_, ⟨by omega, by omega⟩, ?_, hT⟩
  · have := e.1; have := e'.2; omega
  · have := e.1; have := e'.2; omega
  · have := e.1; have := e'.2; omega
  · have := e.1; omega
  · have := e.1; omega
  · have := e.1; omega
  · have := e.2; omega
  · have := e.2; omega
  · have := e.2; omega
  · have := e.2; omega
  · have := e.2; omega
  · have := e.2; omega
  · omega
  · exact (b1.trans (b2.mono s1)).trans (hb17.mono (by omega))
/-- The first keeper, and one of another key. -/
structure Tryz.Q9 (w0 v : World) (k0 k3 : Nat) (la lb : List UInt8) (n : Nu) (L : List ({x : Tk // x.ok} × Int)) (o : Option {x : Tk // x.ok}) : Prop where
  ex : ∃ O0 O3 : Nat → Prop, Tryz.Kp v O0 k0 la n L o [] ∧ Tryz.Kp v O3 k3 lb ⟨10, 1, 1, 0, 0⟩ [] none [] ∧ (∀ k, O3 k → ¬ O0 k) ∧ (∀ k, O0 k → w0.heap.size ≤ k)
  bel : Below w0.heap.size w0 v
  tq : Tryz.Tq w0
theorem Tryz.Q9.made {w0 v v' : World} {k0 k3 : Nat} {la lb : List UInt8} {n : Nu} (h : Tryz.KH w0 v k0 la n [] none [] []) (p3 : Tryz.Kp v' (fun k => v.heap.size ≤ k ∧ k < v'.heap.size) k3 lb ⟨10, 1, 1, 0, 0⟩ [] none []) (hb : Below v.heap.size v v') : Tryz.Q9 w0 v' k0 k3 la lb n [] none := by
  obtain ⟨own, q1, q2, q3⟩ := h.ex
  exact ⟨⟨own, _, q1.up hb, p3, fun k e e' => (by have := q1.lt k e'; have := e.1; omega), q2⟩, h.bel.trans (hb.mono h.bel.size), h.tq⟩
theorem Tryz.Q9.chg {w0 v w' : World} {O0 O3 : Nat → Prop} {k0 k3 : Nat} {la lb : List UInt8} {n' : Nu} {L' : List ({x : Tk // x.ok} × Int)} {o' : Option {x : Tk // x.ok}} (hb : Below w0.heap.size w0 v) (hT : Tryz.Tq w0) (p3 : Tryz.Kp v O3 k3 lb ⟨10, 1, 1, 0, 0⟩ [] none []) (d : ∀ k, O3 k → ¬ O0 k) (f : ∀ k, O0 k → w0.heap.size ≤ k) (hc : Tryz.KChg O0 v w' k0 la n' L' o' []) : Tryz.Q9 w0 w' k0 k3 la lb n' L' o' := by
  obtain ⟨own', r1, r2⟩ := hc.ex
  have hs := hb.size
  refine ⟨⟨own', O3, r1, p3.past hc.wo (fun k s e => d k e s), fun k e e' => ?_, fun k e => ?_⟩, Wo.toBelow hb hc.wo f hs, hT⟩
  · rcases r2 k e' with e1 | e1
    · exact d k e e1
    · have := p3.lt k e
      omega
  · rcases r2 k e with e1 | e1
    · exact f k e1
    · omega
theorem Tryz.Q9.issue {w0 v : World} {k0 k3 : Nat} {la lb : List UInt8} {a b c : Int} (h : Tryz.Q9 w0 v k0 k3 la lb ⟨a, b, c, 0, 0⟩ [] none) (hm : Se.Nu.May ⟨a, b, c, 0, 0⟩) (hl : la.length ≤ 64) (x : {x : Tk // x.ok}) (hx : x.1 = ⟨Se.ua, 1, a⟩) :
    Calls Tryz.prog 11 #[.pointer (some ⟨k0, 0, none⟩), .string ⟨#[64, 97]⟩, .int .i64 0] v fun e w' => e = .returned (.tuple #[.string (Se.Tk.text x.1 la), .int .i64 0]) ∧ Tryz.Q9 w0 w' k0 k3 la lb ⟨a, b, c, 0, 1⟩ [(x, x.1.t)] (some x) := by
  obtain ⟨O0, O3, p0, p3, d, f⟩ := h.ex
  have hsz := h.tq.sz
  refine (Tryz.issue_first (D' := []) p0 (h.tq.below h.bel h.tq.sz) (fun k e => Nat.le_trans hsz (f k e)) hl hm (Int.le_refl 0) (by show (0 : Int) ≤ 1000000000; decide) (Int.le_refl 0) (by show (0 : Int) < 1000000000; decide) Se.ua (by decide) (by decide) 0 (Int.le_refl 0) (by decide) (.inl ⟨rfl, rfl⟩) x (by rw [hx]; show _ = Tk.mk Se.ua (0 + 1) (max 0 0 + a); rw [show max (0 : Int) 0 + a = a by omega]; rfl)).mono fun e w' ⟨e1, e2⟩ => ?_
  exact ⟨e1, Tryz.Q9.chg h.bel h.tq p3 d f e2⟩
theorem Tryz.Q9.check {w0 v : World} {k0 k3 : Nat} {la lb : List UInt8} {a b c : Int} {x : {x : Tk // x.ok}} (h : Tryz.Q9 w0 v k0 k3 la lb ⟨a, b, c, 0, 1⟩ [(x, x.1.t)] (some x)) (ha : 1 ≤ a) (hx : x.1 = ⟨Se.ua, 1, a⟩) (t : ByteArray) (hrt : Tryz.Rt t la (some x.1)) :
    Calls Tryz.prog 12 #[.pointer (some ⟨k0, 0, none⟩), .string t, .int .i64 0] v fun e w' => e = .returned (.tuple #[.string ⟨#[64, 97]⟩, .int .i64 0]) ∧ Tryz.Q9 w0 w' k0 k3 la lb ⟨a, b, c, 0, 1⟩ [(x, x.1.t)] (some x) := by
  obtain ⟨O0, O3, p0, p3, d, f⟩ := h.ex
  have hxt : x.1.t = a := by rw [hx]
  have hxu : x.1.u = ⟨#[64, 97]⟩ := by rw [hx]; rfl
  have q := Tryz.check_good (D' := []) p0 (h.tq.below h.bel h.tq.sz) t 0 (Int.le_refl 0) (by decide) x (by rw [hxt]; show max 0 0 < a; omega) rfl (by rw [hxt]; omega) hrt (.inl ⟨rfl, rfl⟩)
  rw [hxu] at q
  exact q.mono fun e w' ⟨e1, e2⟩ => ⟨e1, Tryz.Q9.chg h.bel h.tq p3 d f e2⟩
theorem Tryz.Q9.other {w0 v : World} {k0 k3 : Nat} {la lb : List UInt8} {n : Nu} {L : List ({x : Tk // x.ok} × Int)} {o : Option {x : Tk // x.ok}} (h : Tryz.Q9 w0 v k0 k3 la lb n L o) (t : ByteArray) (x : {x : Tk // x.ok}) (hx : 0 < x.1.t) (B : Bool) (hrt : Tryz.Rt t lb (if B then some x.1 else none)) :
    Calls Tryz.prog 12 #[.pointer (some ⟨k3, 0, none⟩), .string t, .int .i64 0] v fun e w' => e = .returned (.tuple #[.string ⟨#[]⟩, .int .i64 (if B then 172 else 170)]) ∧ Below w0.heap.size w0 w' := by
  obtain ⟨O0, O3, p0, p3, d, f⟩ := h.ex
  have hT := h.tq.below h.bel h.tq.sz
  cases B
  · exact (Tryz.check_no k3 t 0 170 (.inl rfl) (Tryz.find_bad p3 hT t 0 (Int.le_refl 0) (by decide) hrt)).mono fun e w' ⟨e1, e2⟩ => ⟨e1, h.bel.trans (e2.mono h.bel.size)⟩
  · exact (Tryz.check_no k3 t 0 172 (.inr (.inr rfl)) (Tryz.find_gone p3 hT t 0 (Int.le_refl 0) (by decide) x (by show max 0 0 < x.1.t; omega) rfl hrt)).mono fun e w' ⟨e1, e2⟩ => ⟨e1, h.bel.trans (e2.mono h.bel.size)⟩
/-- Texts under two keys are one just if the sums are. -/
theorem Se.text_eq (x : Tk) (ka kb : List UInt8) : Se.Tk.text x ka = Se.Tk.text x kb ↔ Dg.mac kb x.said = Dg.mac ka x.said := by
  constructor
  · intro h
    have h1 : enc (x.said ++ Dg.mac ka x.said) = enc (x.said ++ Dg.mac kb x.said) := by
      have := congrArg (fun b : ByteArray => b.data.toList) h
      exact this
    have h2 := congrArg dec h1
    rw [dec_enc, dec_enc] at h2
    injection h2 with h2 _
    injection h2 with h2
    exact (List.append_cancel_left h2).symm
  · intro h
    unfold Se.Tk.text
    rw [h]
end Go.Proofs
