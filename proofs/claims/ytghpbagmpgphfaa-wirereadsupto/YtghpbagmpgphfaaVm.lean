/-
  A READER AND A WRITER, apart; a []Thing; what is read is written as the same bytes (plain).
-/
import Derived.Test.YtghpbagmpgphfaaVl
namespace Go.Wi
/-- What was written of what was read. -/
def Same (s : Rs) (l : List UInt8) : Prop := ∃ q, q ≤ s.t.length ∧ l = s.t.take q ∧ (s.f = none → q = s.p)
theorem Same.len {s : Rs} {l : List UInt8} (h : Same s l) : l.length ≤ s.t.length := by
  obtain ⟨q, h1, h2, _⟩ := h
  rw [h2, List.length_take]; omega
theorem take_add (t : List UInt8) (p k : Nat) : t.take (p + k) = t.take p ++ (t.drop p).take k := by rw [List.take_add]
theorem cnt_ok {s : Rs} (hf : s.f = none) (h2 : s.cnt.2.f = none) (hin : s.In) : s.t.take s.cnt.2.p = s.t.take s.p ++ Wi.cnt s.cnt.1 ∧ s.cnt.2.t = s.t ∧ s.p ≤ s.cnt.2.p := by
  obtain ⟨t, p, f⟩ := s
  simp only at hf
  subst hf
  simp only [Rs.cnt] at h2 ⊢
  split at h2
  · rename_i n k e
    obtain ⟨h3, h4, h5, h6, m, h7, h8, h9⟩ := rdC_back _ 0 0 n k e (by decide) (by omega)
    simp only
    rw [take_add]
    rw [show n = m by omega, ← h8, Nat.sub_zero]
    refine ⟨rfl, ?_⟩
    exact ⟨trivial, by omega⟩
  · cases h2
theorem cnt_bad {s : Rs} {a : Nat} (hf : s.f = some a) : s.cnt = (0, s) := by unfold Rs.cnt; rw [hf]
theorem cnt_f {s : Rs} (h : s.cnt.2.f = none) : s.f = none := by
  cases hf : s.f with
  | none => rfl
  | some a => rw [cnt_bad hf] at h; rw [hf] at h; cases h
theorem Same.fault {s s' : Rs} {l : List UInt8} (h : Same s l) (ht : s'.t = s.t) (hf : s'.f ≠ none) : Same s' l := by
  obtain ⟨q, h1, h2, _⟩ := h
  exact ⟨q, by rw [ht]; exact h1, by rw [ht]; exact h2, fun e => absurd e hf⟩
theorem Same.int {s : Rs} {l : List UInt8} (h : Same s l) (hin : s.In) (h2 : s.int.2.f = none) : Same s.int.2 (l ++ Wi.cnt (zig s.int.1)) ∧ (l ++ Wi.cnt (zig s.int.1)).length ≤ s.t.length := by
  have hf := cnt_f h2
  obtain ⟨h3, h4, h5⟩ := cnt_ok hf h2 hin
  obtain ⟨q, q1, q2, q3⟩ := h
  have hi := (s.cnt_in hin).1
  unfold Rs.In at hi
  rw [h4] at hi
  have e : l ++ Wi.cnt (zig s.int.1) = s.t.take s.cnt.2.p := by
    rw [h3, q2, q3 hf]
    show _ ++ Wi.cnt (zig (unzig s.cnt.1)) = _
    rw [zig_unzig]
  rw [e]
  refine ⟨⟨s.cnt.2.p, ?_, ?_, fun _ => rfl⟩, by rw [List.length_take]; omega⟩
  · show s.cnt.2.p ≤ s.cnt.2.t.length
    rw [h4]; exact hi
  · show _ = s.cnt.2.t.take s.cnt.2.p
    rw [h4]
theorem Same.flag {s : Rs} {l : List UInt8} (h : Same s l) (hin : s.In) (h2 : s.flag.2.f = none) : Same s.flag.2 (l ++ [if s.flag.1 then 1 else 0]) ∧ (l ++ [if s.flag.1 then (1 : UInt8) else 0]).length ≤ s.t.length := by
  obtain ⟨t, p, f⟩ := s
  obtain ⟨q, q1, q2, q3⟩ := h
  simp only at q1 q2 q3
  cases f with
  | some a => simp only [Rs.flag] at h2; cases h2
  | none =>
    have hq := q3 rfl
    subst hq
    simp only [Rs.flag] at h2 ⊢
    split
    · rename_i hp
      rw [dif_pos hp] at h2
      split
      · rename_i h1
        have hv : t.take (q + 1) = t.take q ++ [t[q]] := (List.take_append_getElem hp).symm
        have e : [if (t[q].toNat == 1) = true then (1 : UInt8) else 0] = [t[q]] := by
          congr 1
          have h01 : t[q].toNat = 0 ∨ t[q].toNat = 1 := by omega
          rcases h01 with e | e
          · rw [e]; exact (UInt8.toNat_inj.1 e).symm
          · rw [e]; exact (UInt8.toNat_inj.1 e).symm
        simp only [q2]
        rw [e, ← hv]
        exact ⟨⟨q + 1, by simp only; omega, rfl, fun _ => rfl⟩, by rw [List.length_take]; omega⟩
      · rename_i h1
        rw [if_neg h1] at h2
        cases h2
    · rename_i hp
      rw [dif_neg hp] at h2
      cases h2
theorem fail_f (s : Rs) (a : Nat) : (s.fail a).f ≠ none := by
  cases hf : s.f <;> simp [Rs.fail, hf]
theorem Same.text {s : Rs} {l : List UInt8} (h : Same s l) (hin : s.In) (h2 : s.text.2.f = none) : Same s.text.2 (l ++ (Wi.cnt s.text.1.length ++ s.text.1)) ∧ (l ++ (Wi.cnt s.text.1.length ++ s.text.1)).length ≤ s.t.length := by
  unfold Rs.text at h2 ⊢
  split
  · rename_i hc
    rw [if_pos hc] at h2
    exact absurd h2 (fail_f _ _)
  · rename_i hc
    rw [if_neg hc] at h2
    simp only at h2 ⊢
    have hf := cnt_f h2
    obtain ⟨h3, h4, h5⟩ := cnt_ok hf h2 hin
    obtain ⟨q, q1, q2, q3⟩ := h
    have hi := (s.cnt_in hin).1
    unfold Rs.In at hi
    rw [h4] at hi hc ⊢
    have hl : ((s.t.drop s.cnt.2.p).take s.cnt.1).length = s.cnt.1 := by rw [List.length_take, List.length_drop]; omega
    have e : l ++ (Wi.cnt ((s.t.drop s.cnt.2.p).take s.cnt.1).length ++ (s.t.drop s.cnt.2.p).take s.cnt.1) = s.t.take (s.cnt.2.p + s.cnt.1) := by
      rw [hl, take_add, h3, q2, q3 hf, List.append_assoc]
    rw [e]
    exact ⟨⟨s.cnt.2.p + s.cnt.1, by simp only; omega, by simp only, fun _ => rfl⟩, by rw [List.length_take]; omega⟩
theorem int_t (s : Rs) (hin : s.In) : s.int.2.t = s.t ∧ s.int.2.In := ⟨(s.cnt_in hin).2.1, (s.cnt_in hin).1⟩
theorem Same.fin {s : Rs} {l : List UInt8} (h : Same s l) : s.fin = (s.f.isNone && decide (l.length = s.t.length)) := by
  obtain ⟨q, q1, q2, q3⟩ := h
  unfold Rs.fin
  cases hf : s.f with
  | some a => rfl
  | none =>
    rw [q2, q3 hf, List.length_take]
    rw [q3 hf] at q1
    by_cases e : s.p = s.t.length
    · simp [e]
    · rw [decide_eq_false (by omega)]; simp [e]
end Go.Wi
namespace Go.Proofs
open Go.RowKit Go.Wi
/-- A reader and a writer, apart, above a floor. -/
structure Try.RW (B : Nat) (w0 w : World) (x : Nat) (s : Rs) (y : Nat) (l : List UInt8) : Prop where
  ex : ∃ oR oW, Try.Rd w oR x s ∧ Try.Wt 69 w oW y l ∧ (∀ k, oR k → B ≤ k) ∧ (∀ k, oW k → B ≤ k) ∧ ∀ k, oR k → ¬ oW k
  bel : Below B w0 w
theorem Try.RW.le {B : Nat} {w0 w : World} {x : Nat} {s : Rs} {y : Nat} {l : List UInt8} (h : Try.RW B w0 w x s y l) : B ≤ w.heap.size := by
  obtain ⟨oR, oW, h1, _, h2, _⟩ := h.ex
  exact Nat.le_of_lt (Nat.lt_of_le_of_lt (h2 x h1.ox) (h1.lt x h1.ox))
theorem Try.RW.inn {B : Nat} {w0 w : World} {x : Nat} {s : Rs} {y : Nat} {l : List UInt8} (h : Try.RW B w0 w x s y l) : s.In ∧ s.t.length ≤ 140737488355328 := by
  obtain ⟨oR, oW, h1, _⟩ := h.ex
  exact ⟨h1.inn, h1.len⟩
theorem Try.RW.rd {B : Nat} {w0 w w' : World} {x : Nat} {s s' : Rs} {y : Nat} {l : List UInt8} {oR oW : Nat → Prop} (hb : Below B w0 w) (hR : Try.Rd w oR x s) (hW : Try.Wt 69 w oW y l) (h1 : ∀ k, oR k → B ≤ k) (h2 : ∀ k, oW k → B ≤ k) (h3 : ∀ k, oR k → ¬ oW k) (hc : Try.RChg oR w w' x s') : Try.RW B w0 w' x s' y l := by
  obtain ⟨oR', g1, g2⟩ := hc.ex
  have hBx := h1 x hR.ox
  have hxl := hR.lt x hR.ox
  refine ⟨⟨oR', oW, g1, hW.keep (fun k e => hc.wo.block k (hW.lt k e) (fun e1 => h3 k (by rw [e1]; exact hR.ox) e)) hc.wo.size, fun k e => ?_, h2, fun k e e2 => ?_⟩, Wo.toBelow hb hc.wo (fun k e => by omega) (by omega)⟩
  · rcases g2 k e with e1 | e1
    · exact h1 k e1
    · omega
  · rcases g2 k e with e1 | e1
    · exact h3 k e1 e2
    · have := hW.lt k e2; omega
theorem Try.RW.wr {B : Nat} {w0 w w' : World} {x : Nat} {s : Rs} {y : Nat} {l l' : List UInt8} {oR oW : Nat → Prop} (hb : Below B w0 w) (hR : Try.Rd w oR x s) (_hW : Try.Wt 69 w oW y l) (h1 : ∀ k, oR k → B ≤ k) (h2 : ∀ k, oW k → B ≤ k) (h3 : ∀ k, oR k → ¬ oW k) (hc : Try.WChg 69 oW w w' y l') : Try.RW B w0 w' x s y l' := by
  obtain ⟨oW', g1, g2⟩ := hc.ex
  have hBx := h1 x hR.ox
  have hxl := hR.lt x hR.ox
  refine ⟨⟨oR, oW', hR.keep (fun k e => hc.wo.block k (hR.lt k e) (h3 k e)) hc.wo.size, g1, h1, fun k e => ?_, fun k e e2 => ?_⟩, Wo.toBelow hb hc.wo h2 (by omega)⟩
  · rcases g2 k e with e1 | e1
    · exact h2 k e1
    · omega
  · rcases g2 k e2 with e1 | e1
    · exact h3 k e e1
    · have := hR.lt k e; omega
theorem Try.RW.below {B : Nat} {w0 w w' : World} {x : Nat} {s : Rs} {y : Nat} {l : List UInt8} (h : Try.RW B w0 w x s y l) (g : Below w.heap.size w w') : Try.RW B w0 w' x s y l := by
  obtain ⟨oR, oW, h1, h2, h3⟩ := h.ex
  exact ⟨⟨oR, oW, h1.below g, h2.below g, h3⟩, h.bel.trans (g.mono h.le)⟩
theorem Try.RW.drewN {B : Nat} {w0 w : World} {x : Nat} {s : Rs} {y : Nat} {l : List UInt8} (h : Try.RW B w0 w x s y l) (n : Nat) : Try.RW B w0 (w.drewN n) x s y l := h.below (belowN (Below.refl _ _) n)
theorem Try.RW.new {B : Nat} {w0 w : World} {x : Nat} {s : Rs} (h : Try.RB B w0 w x s) : Calls Try.prog 10 #[] w fun e w' => ∃ y, e = .returned (.pointer (some ⟨y, 0, none⟩)) ∧ Try.RW B w0 w' x s y [] := by
  obtain ⟨own, h1, h2⟩ := h.ex
  exact (Try.newWriter_any w).mono fun _ _ ⟨y, e1, e2, e3⟩ => ⟨y, e1, ⟨own, _, h1.below e3, e2, h2, fun k e => Nat.le_trans h.le e.1, fun k e e4 => by have := h1.lt k e; omega⟩, h.bel.trans (e3.mono h.le)⟩
theorem Try.RW.rInt {B : Nat} {w0 w : World} {x : Nat} {s : Rs} {y : Nat} {l : List UInt8} (h : Try.RW B w0 w x s y l) :
    Calls Try.prog 15 #[.pointer (some ⟨x, 0, none⟩)] w fun e w' => e = .returned (.int .i64 s.int.1) ∧ Try.RW B w0 w' x s.int.2 y l := by
  obtain ⟨oR, oW, h1, h2, h3, h4, h5⟩ := h.ex
  exact (Try.rInt_any h1).mono fun _ _ ⟨e1, e2⟩ => ⟨e1, Try.RW.rd h.bel h1 h2 h3 h4 h5 e2⟩
theorem Try.RW.rFlag {B : Nat} {w0 w : World} {x : Nat} {s : Rs} {y : Nat} {l : List UInt8} (h : Try.RW B w0 w x s y l) :
    Calls Try.prog 17 #[.pointer (some ⟨x, 0, none⟩)] w fun e w' => e = .returned (.bool s.flag.1) ∧ Try.RW B w0 w' x s.flag.2 y l := by
  obtain ⟨oR, oW, h1, h2, h3, h4, h5⟩ := h.ex
  exact (Try.rFlag_any h1).mono fun _ _ ⟨e1, e2⟩ => ⟨e1, Try.RW.rd h.bel h1 h2 h3 h4 h5 e2⟩
theorem Try.RW.rText {B : Nat} {w0 w : World} {x : Nat} {s : Rs} {y : Nat} {l : List UInt8} (h : Try.RW B w0 w x s y l) :
    Calls Try.prog 16 #[.pointer (some ⟨x, 0, none⟩)] w fun e w' => e = .returned (.string ⟨s.text.1.toArray⟩) ∧ Try.RW B w0 w' x s.text.2 y l := by
  obtain ⟨oR, oW, h1, h2, h3, h4, h5⟩ := h.ex
  exact (Try.rText_any h1).mono fun _ _ ⟨e1, e2⟩ => ⟨e1, Try.RW.rd h.bel h1 h2 h3 h4 h5 e2⟩
theorem Try.RW.rEnd {B : Nat} {w0 w : World} {x : Nat} {s : Rs} {y : Nat} {l : List UInt8} (h : Try.RW B w0 w x s y l) :
    Calls Try.prog 18 #[.pointer (some ⟨x, 0, none⟩)] w fun e w' => e = .returned (.bool s.fin) ∧ Try.RW B w0 w' x s y l := by
  obtain ⟨oR, oW, h1, h2, h3, h4, h5⟩ := h.ex
  exact (Try.end_any h1).mono fun _ _ ⟨e1, n, e2⟩ => ⟨e1, by rw [e2]; exact h.drewN n⟩
theorem Try.RW.errNone {B : Nat} {w0 w : World} {x : Nat} {s : Rs} {y : Nat} {l : List UInt8} (h : Try.RW B w0 w x s y l) (hf : s.f = none) :
    Calls Try.prog 9 #[.pointer (some ⟨x, 0, none⟩)] w fun e w' => e = .returned .nilIface ∧ w' = w := by
  obtain ⟨oR, oW, h1, h2, h3, h4, h5⟩ := h.ex
  exact Try.err_none h1 hf
theorem Try.RW.errSome {B : Nat} {w0 w : World} {x : Nat} {s : Rs} {y : Nat} {l : List UInt8} (h : Try.RW B w0 w x s y l) (hf : s.f ≠ none) :
    Calls Try.prog 9 #[.pointer (some ⟨x, 0, none⟩)] w fun e w' => ∃ z, e = .returned (.iface 43 (.pointer (some ⟨z, 0, none⟩))) ∧ Try.RW B w0 w' x s y l := by
  obtain ⟨oR, oW, h1, h2, h3, h4, h5⟩ := h.ex
  cases hf' : s.f with
  | none => exact absurd hf' hf
  | some a => exact (Try.err_some h1 hf').mono fun _ _ ⟨z, e1, e2, e3, e4⟩ => ⟨z, e1, h.below e4⟩
theorem Try.RW.wInt {B : Nat} {w0 w : World} {x : Nat} {s : Rs} {y : Nat} {l : List UInt8} (h : Try.RW B w0 w x s y l) (n : Int) (hn1 : -9223372036854775808 ≤ n) (hn2 : n ≤ 9223372036854775807) (hlen : l.length ≤ 140737488355300) :
    Calls Try.prog 11 #[.pointer (some ⟨y, 0, none⟩), .int .i64 n] w fun e w' => (∃ v, e = .returned v) ∧ Try.RW B w0 w' x s y (l ++ cnt (zig n)) := by
  obtain ⟨oR, oW, h1, h2, h3, h4, h5⟩ := h.ex
  exact (Try.wInt_any h2 n hn1 hn2 hlen).mono fun _ _ ⟨e1, e2⟩ => ⟨e1, Try.RW.wr h.bel h1 h2 h3 h4 h5 e2⟩
theorem Try.RW.wFlag {B : Nat} {w0 w : World} {x : Nat} {s : Rs} {y : Nat} {l : List UInt8} (h : Try.RW B w0 w x s y l) (b : Bool) (hlen : l.length ≤ 140737488355300) :
    Calls Try.prog 13 #[.pointer (some ⟨y, 0, none⟩), .bool b] w fun e w' => (∃ v, e = .returned v) ∧ Try.RW B w0 w' x s y (l ++ [if b then 1 else 0]) := by
  obtain ⟨oR, oW, h1, h2, h3, h4, h5⟩ := h.ex
  exact (Try.wFlag_any h2 b hlen).mono fun _ _ ⟨e1, e2⟩ => ⟨e1, Try.RW.wr h.bel h1 h2 h3 h4 h5 e2⟩
theorem Try.RW.wText {B : Nat} {w0 w : World} {x : Nat} {s : Rs} {y : Nat} {l : List UInt8} (h : Try.RW B w0 w x s y l) (t : ByteArray) (hlen : l.length + t.size ≤ 140737488355290) :
    Calls Try.prog 12 #[.pointer (some ⟨y, 0, none⟩), .string t] w fun e w' => (∃ v, e = .returned v) ∧ Try.RW B w0 w' x s y (l ++ (cnt t.size ++ t.data.toList)) := by
  obtain ⟨oR, oW, h1, h2, h3, h4, h5⟩ := h.ex
  exact (Try.wText_any h2 t hlen).mono fun _ _ ⟨e1, e2⟩ => ⟨e1, Try.RW.wr h.bel h1 h2 h3 h4 h5 e2⟩
theorem Try.RW.bytes {B : Nat} {w0 w : World} {x : Nat} {s : Rs} {y : Nat} {l : List UInt8} (h : Try.RW B w0 w x s y l) (hlen : l.length ≤ 140737488355328) :
    Calls Try.prog 14 #[.pointer (some ⟨y, 0, none⟩)] w fun e w' => ∃ ad cap, e = .returned (.slice ad l.length cap) ∧ Bs w' (.slice ad l.length cap) l ∧ Try.RW B w0 w' x s y l := by
  obtain ⟨oR, oW, h1, h2, h3, h4, h5⟩ := h.ex
  exact (Try.bytes_any h2 hlen).mono fun _ _ ⟨ad, cap, e1, e2, e3⟩ => ⟨ad, cap, e1, Bs.ofRow e2, h.below e3⟩
/-- A thing that came in. -/
structure Wi.Th where
  k : Int
  n : Int
  y : Bool
  s : ByteArray
  lv : Value
structure Wi.Things (w : World) (v : Value) (l : List Wi.Th) : Prop where
  ex : ∃ ad cap, v = .slice ad l.length cap ∧ l.length ≤ cap ∧ cap ≤ maxLen ∧ (l = [] ∨ ∃ g o, ad = some ⟨g, o, none⟩ ∧ g < w.heap.size ∧ ∀ (j : Nat) (p : Wi.Th), l[j]? = some p →
    w.cell? ⟨g, o + j * 5, none⟩ = some (.int .i64 p.k) ∧ w.cell? ⟨g, o + j * 5 + 1, none⟩ = some (.int .i64 p.n) ∧ w.cell? ⟨g, o + j * 5 + 2, none⟩ = some (.bool p.y) ∧ w.cell? ⟨g, o + j * 5 + 3, none⟩ = some (.string p.s) ∧ w.cell? ⟨g, o + j * 5 + 4, none⟩ = some p.lv)
  ok : ∀ p ∈ l, (-9223372036854775808 ≤ p.k ∧ p.k ≤ 9223372036854775807) ∧ (-9223372036854775808 ≤ p.n ∧ p.n ≤ 9223372036854775807) ∧ ∃ a n c, p.lv = .slice a n c
theorem Wi.Things.up {w w' : World} {v : Value} {l : List Wi.Th} (h : Wi.Things w v l) (g : Below w.heap.size w w') : Wi.Things w' v l := by
  obtain ⟨ad, cap, rfl, hc, hm, h1⟩ := h.ex
  refine ⟨⟨ad, cap, rfl, hc, hm, ?_⟩, h.ok⟩
  rcases h1 with h1 | ⟨gg, o, rfl, hg, h1⟩
  · exact .inl h1
  · refine .inr ⟨gg, o, rfl, Nat.lt_of_lt_of_le hg g.size, fun j p hp => ?_⟩
    obtain ⟨a0, a1, a2, a3, a4⟩ := h1 j p hp
    exact ⟨(g.cell (p := ⟨gg, _, none⟩) hg).trans a0, (g.cell (p := ⟨gg, _, none⟩) hg).trans a1, (g.cell (p := ⟨gg, _, none⟩) hg).trans a2, (g.cell (p := ⟨gg, _, none⟩) hg).trans a3, (g.cell (p := ⟨gg, _, none⟩) hg).trans a4⟩
def Wi.kd (k : Int) : Nat := (if k < 0 then (-(k + 1)).toNat else k.toNat) % 4
set_option maxHeartbeats 1000000 in
theorem Try.kind_any (k n : Int) (y : Bool) (s : ByteArray) (a : Option Addr) (m c : Nat) (w : World) (hk : -9223372036854775808 ≤ k ∧ k ≤ 9223372036854775807) :
    Calls Try.prog 20 #[.agg #[.int .i64 k, .int .i64 n, .bool y, .string s, .slice a m c]] w fun e w' => e = .returned (.int .i64 (Wi.kd k)) ∧ Below w.heap.size w w' := by
  have Hk : Hid (-9223372036854775808 ≤ k ∧ k ≤ 9223372036854775807) := hk
  clear hk
  go_enter Try.func20, Try.ntmps20
  by_cases hk0 : k < 0
  · have e1 : wrap64 (k + 1) = k + 1 := by have := Hk.out; unfold wrap64; omega
    have e2 : wrap64 (-(k + 1)) = ((-(k + 1)).toNat : Nat) := by have := Hk.out; unfold wrap64; omega
    have e3 : (((-(k + 1)).toNat : Nat) : Int).tmod 4 = ((Wi.kd k : Nat) : Int) := by unfold Wi.kd; rw [if_pos hk0]; rfl
    go_wp2
    go_ret
    refine ⟨?_, (Below.refl _ w).alloc (Nat.le_refl _) _⟩
    have e4 : max (-(k + 1)) 0 % 4 = ((Wi.kd k : Nat) : Int) := by unfold Wi.kd; rw [if_pos hk0]; omega
    simp [e4]
  · have e3 : k.tmod 4 = ((Wi.kd k : Nat) : Int) := by
      unfold Wi.kd; rw [if_neg hk0]
      have : k = ((k.toNat : Nat) : Int) := by omega
      rw [this]; rfl
    go_wp2
    go_ret
    exact ⟨by simp, (Below.refl _ w).alloc (Nat.le_refl _) _⟩
end Go.Proofs
