/-
  pair.all.
-/
import Derived.Test.YtmbhadloedjfeaaRf
namespace Go.Proofs
open Go.RowKit Go.Wi Go.Qu Go.Shelf
attribute [local go_sem] Oper.semAt_some
theorem Qu.leave_all {F : Fence} {n : Nat} {P : Program} {fn : Func} {tmps : Array Value} {R : Ending → World → Prop} {B : Nat} (D : Nat) (W : World) (h1 : B ≤ D ∧ W.heap[D]? = some (.deferred (some []))) (h : ∀ W', Below B W W' → LeavesIn F n P fn tmps R [] .returning W') :
    LeavesInM F n P fn tmps R [{ target := .collected D, args := #[] }] .returning W := by
  have hb : Below B W (W.putObj D (.deferred none)) := (Below.refl B W).grown (grownBy_putObj' W D _) (by have := (Array.getElem?_eq_some_iff.1 h1.2).1; omega) (fun k e => by cases e; exact h1.1)
  exact ⟨by simp, .inl ⟨D, _, rfl, run_takeDeferred h1.2, h _ hb⟩⟩
theorem Qu.results_bool {fn : Func} {P : Program} {p : Tmp} {ty : TypeId} (h : fn.results = #[.cell p ty]) (hu : P.underlying ty = some .bool) (tmps : Array Value) (w : World) (g : Nat) (v : Value) (hp : tmps.getD p undef = .pointer (some ⟨g, 0, none⟩)) (hc : w.cell? ⟨g, 0, none⟩ = some v) : (results fn tmps).run P w = .ok v w := by
  have hp' : tmps[p]?.getD undef = .pointer (some ⟨g, 0, none⟩) := by simpa using hp
  have ha : (isAgg ty).run P w = .ok false w := by simp [isAgg, underlying, hu, go_sem]
  simp [results, h, hp', asAddr, loadVar, ha, go_sem, hc]
theorem Qu.str_ne {a b : ByteArray} (h : a ≠ b) : (a.toList == b.toList) = false := by
  rw [ByteArray.toList_eq, ByteArray.toList_eq]
  refine beq_false_of_ne fun e => h ?_
  cases a; cases b
  simp at e
  rw [e]
theorem Qu.boxed_below {w w' : World} {B : Nat} {t : TypeId} {v : Value} (h : Boxed w B t v) (g : Below w.heap.size w w') : Boxed w' B t v := (g.block B h.lt).trans h
set_option maxRecDepth 100000 in
set_option maxHeartbeats 4000000 in
theorem Try.all_in (n : Nat) (hn : 5 ≤ n) {w : World} {own o1 o2 : Nat → Prop} {p a b m : Nat} {s : Qs ByteArray} (hp : Try.Pp w own p a b o1 o2 s m) (hm : m ≤ 100000) (stop : Int) :
    CallsIn Fence.wide n Try.prog 19 #[.pointer (some ⟨p, 0, none⟩), .int .i64 stop] w fun e W' => e = .returned (.bool true) ∧ Below w.heap.size w W' := by
  have h1 : 1 ≤ n := by omega
  have hnil : ∀ p w, (binOp .eql 62 (.func (.func 32) #[] #[p]) .nilFunc).run Try.prog w = .ok (.bool false) w := fun _ _ => by kernel_rfl
  have hpl := block_lt hp.bl
  have p0 : w.cell? ⟨p, 0, none⟩ = some (.pointer (some ⟨a, 0, none⟩)) := cell_of_row w p 0 _ _ _ hp.bl
  have p1 : w.cell? ⟨p, 1, none⟩ = some (.pointer (some ⟨b, 0, none⟩)) := cell_of_row w p 1 _ _ _ hp.bl
  have hsl : s.l.length ≤ 1000 := by have := hp.qa.inn.ln; have := hp.qa.inn.s2; omega
  refine callsIn_of_wp_marks Try.func19 rfl trivial ?_ rfl
  simp only [Try.ntmps19, List.size_toArray, List.length_cons, List.length_nil, Nat.reduceAdd, Nat.reduceSub, Array.replicate_succ, Array.replicate_zero, List.push_toArray, List.append_toArray, List.nil_append, List.cons_append]
  gi_wp2_with fail
  have hb0 : Below w.heap.size w ((w.alloc (.cells #[.int .i64 stop] 3)).alloc (.cells #[.bool false] 4)) := ((Below.refl _ w).alloc (Nat.le_refl _) _).alloc (by simp) _
  have q1 := (Boxed.new w 3 (.int .i64 stop)).alloc (.cells #[.bool false] 4)
  have q2 := Boxed.new (w.alloc (.cells #[.int .i64 stop] 3)) 4 (.bool false)
  rw [World.size_alloc] at q2
  have z0 : ((w.alloc (.cells #[.int .i64 stop] 3)).alloc (.cells #[.bool false] 4)).heap.size = w.heap.size + 2 := by simp
  generalize (w.alloc (.cells #[.int .i64 stop] 3)).alloc (.cells #[.bool false] 4) = w0 at *
  have p1' := (hb0.cell (p := ⟨p, 1, none⟩) hpl).trans p1
  have p0' := (hb0.cell (p := ⟨p, 0, none⟩) hpl).trans p0
  gi_wp2_with fail
  refine ⟨trivial, (callsIn_wide.2 (Try.rall (hp.rb.below hb0) hm)).mono ?_⟩
  rintro e w1 ⟨ad, ln, cap, rfl, ⟨g1, hr1, hg1⟩, b1⟩
  have z1 := b1.size
  obtain ⟨w2, hw2⟩ : ∃ w2, w2 = w1.alloc (.cells #[.slice ad ln cap] 52) := ⟨_, rfl⟩
  have b2 : Below w1.heap.size w1 w2 := hw2 ▸ (Below.refl _ w1).alloc (Nat.le_refl _) _
  have k3 : Boxed w2 w1.heap.size 52 (.slice ad ln cap) := hw2 ▸ Boxed.new w1 52 (.slice ad ln cap)
  have z2 : w2.heap.size = w1.heap.size + 1 := by rw [hw2]; simp
  have c2 := b1.cell (p := ⟨p, 0, none⟩) (by show p < w0.heap.size; omega)
  have c3 : w1.cell? ⟨p, 0, none⟩ = some (.pointer (some ⟨a, 0, none⟩)) := c2.trans p0'
  have hpl1 : p < w1.heap.size := by omega
  clear c2 p0' p1'
  gi_wp2_with fail
  have hB2 : Below w.heap.size w w2 := hb0.trans ((b1.trans (b2.mono z1)).mono (by omega))
  rw [← hw2]
  refine ⟨trivial, (callsIn_wide.2 (Try.allS (hp.qa.below hB2))).mono ?_⟩
  rintro e w3 ⟨x, rfl, hS, b3⟩
  have z3 := b3.size
  gi_wp2_with fail
  -- what lies below the counter
  have hln : ln = s.l.length := by
    obtain ⟨a', c', e⟩ := hr1.form
    injection e with _ e _
    rw [e, List.length_map]
  subst hln
  have hlt1 : w1.heap.size < w3.heap.size := by omega
  have k1 : Boxed w3 w.heap.size 3 (.int .i64 stop) := (b3.block _ (by omega)).trans ((b2.block _ (by omega)).trans ((b1.block _ (by omega)).trans q1))
  have k2 : Boxed w3 (w.heap.size + 1) 4 (.bool false) := (b3.block _ (by omega)).trans ((b2.block _ (by omega)).trans ((b1.block _ (by omega)).trans q2))
  have k3' : Boxed w3 w1.heap.size 52 (.slice ad s.l.length cap) := (b3.block _ (by omega)).trans k3
  have hcell : ∀ i (hi : i < s.l.length), ∃ k o, ad = some ⟨k, o, none⟩ ∧ k < w3.heap.size ∧ w3.cell? ⟨k, o + i, none⟩ = some (.string s.l[i]) := fun i hi => by
    rcases hr1.ex with ⟨a1, e1, e2, _⟩ | ⟨k, o, c, cur, e1, e2, h3, h4, h5, h6, h7⟩
    · rw [List.map_eq_nil_iff] at e2; rw [e2] at hi; simp at hi
    · injection e1 with e1 _ _
      have hk := block_lt h3
      refine ⟨k, o, e1, by omega, ?_⟩
      rw [cell_of_row _ _ _ _ _ _ ((b3.block k (by omega)).trans ((b2.block k hk).trans h3))]
      exact h7 i _ (by simp [hi])
  have hB3 : Below w.heap.size w w3 := hB2.trans (b3.mono (by omega))
  have n1 := Boxed.new w3 3 (.int .i64 0)
  have n2 : Below w3.heap.size w3 (w3.alloc (.cells #[.int .i64 0] 3)) := (Below.refl _ w3).alloc (Nat.le_refl _) _
  have n3 : (w3.alloc (.cells #[.int .i64 0] 3)).heap.size = w3.heap.size + 1 := by simp
  have HC : Hid _ := hcell
  have HSl : Hid _ := hsl
  clear hcell c3 q1 q2 k3 hr1 hg1 hw2 hsl
  have hown : ∀ B, OwnFrom B (fun (pre : List ByteArray) X => Boxed X w3.heap.size 3 (.int .i64 (pre.length : Int)) ∧ (stop < 1 ∨ (pre.length : Int) < stop)) := fun B => OwnFrom.and ((boxed_own w3.heap.size 3 (fun (pre : List ByteArray) => .int .i64 (pre.length : Int))).from _) (ownFrom_pure _ _)
  have hown2 : OwnFrom (w3.alloc (.cells #[.int .i64 0] 3)).heap.size (fun (pre : List ByteArray) X => (Boxed X w3.heap.size 3 (.int .i64 (pre.length : Int)) ∧ (stop < 1 ∨ (pre.length : Int) < stop)) ∧ Below w3.heap.size w3 X) := OwnFrom.and (hown _) (ownFrom_below (Nat.le_refl _) (by rw [n3]; omega))
  refine wpIn_rangeFunc_ownF rfl h1 (gf := 32) (lb := #[.pointer (some ⟨x, 0, none⟩)]) rfl trivial (enters_of Try.func32 (by kernel_rfl) rfl)
    (Try.seqS (n - 1) (by omega) x (fun k => w2.heap.size ≤ k ∧ k < w3.heap.size) s.l (by have := HSl.out; omega) _ (hS.keep ⟨n2.size, fun k e => n2.block k e.2⟩)) Kp_t (Kp_b (fun k e => by rw [n3]; omega)) (Below.refl _ _) (fun _ => rfl)
    (fun pre X => (Boxed X w3.heap.size 3 (.int .i64 (pre.length : Int)) ∧ (stop < 1 ∨ (pre.length : Int) < stop)) ∧ Below w3.heap.size w3 X)
    (fun c pre X => (c = .ret ∧ ¬ pre <+: s.l) ∨ (c = .exit 0 ∧ (pre.length : Int) = stop ∧ 1 ≤ stop ∧ Boxed X w3.heap.size 3 (.int .i64 (pre.length : Int)) ∧ Below w3.heap.size w3 X))
    hown2 ?ownx ⟨⟨n1, by simp; omega⟩, n2⟩
    (fun y => { tmps := #[Value.pointer (some ⟨p, 0, none⟩), Value.int IntKind.i64 stop, undef, Value.pointer (some ⟨w.heap.size, 0, none⟩), Value.pointer (some ⟨w.heap.size + 1, 0, none⟩), Value.pointer (some ⟨w1.heap.size, 0, none⟩), Value.func (Fn.func 32) #[] #[Value.pointer (some ⟨x, 0, none⟩)], Value.pointer (some ⟨w3.heap.size, 0, none⟩), Value.string y, Value.pointer (some ⟨p, 0, none⟩), Value.pointer (some ⟨p, 0, none⟩), Value.pointer (some ⟨p, 1, none⟩), Value.pointer (some ⟨b, 0, none⟩), Value.slice ad s.l.length cap, Value.pointer (some ⟨p, 0, none⟩), Value.pointer (some ⟨p, 0, none⟩), Value.pointer (some ⟨p, 0, none⟩), Value.pointer (some ⟨a, 0, none⟩), Value.func (Fn.func 32) #[] #[Value.pointer (some ⟨x, 0, none⟩)], Value.func (Fn.func 32) #[] #[Value.pointer (some ⟨x, 0, none⟩)], Value.bool false, Value.func (Fn.func 32) #[] #[Value.pointer (some ⟨x, 0, none⟩)], Value.string y, undef, undef, undef, undef, undef, undef, undef, undef, undef, undef, undef, undef, undef, undef, undef, undef, undef, undef, undef, undef, undef, undef, undef, undef, undef, undef, undef, undef, undef, undef, undef, undef], defers := [] }) ?assign ?body ?done ?stop
  case ownx => exact fun c pre X Y row h hg hr => h.elim (fun h => .inl h) (fun h => .inr ⟨h.1, h.2.1, h.2.2.1, (boxed_own w3.heap.size 3 (fun (pre : List ByteArray) => .int .i64 (pre.length : Int))).from _ pre X Y row h.2.2.2.1 hg hr, ownFrom_below (β := Unit) (Nat.le_refl _) (by rw [n3]; omega) () X Y row h.2.2.2.2 hg hr⟩)
  case assign =>
    intro l y X K hK
    gi_wp2
    exact hK
  case body =>
    rintro l pre y X ⟨⟨x1, x2⟩, x3⟩ hlt
    obtain ⟨k, o, rfl, hk, hc⟩ := HC.out pre.length hlt
    have hL := HSl.out
    have d1 := x1.cell
    have d2 := x1.frozen
    have e1 : X.cell? ⟨w1.heap.size, 0, none⟩ = some (.slice (some ⟨k, o, none⟩) s.l.length cap) := (x3.cell (p := ⟨w1.heap.size, 0, none⟩) hlt1).trans k3'.cell
    have e2 : X.cell? ⟨k, o + pre.length, none⟩ = some (.string s.l[pre.length]) := (x3.cell (p := ⟨k, o + pre.length, none⟩) hk).trans hc
    have e3 : X.cell? ⟨w.heap.size, 0, none⟩ = some (.int .i64 stop) := (x3.cell (p := ⟨w.heap.size, 0, none⟩) (by show w.heap.size < w3.heap.size; omega)).trans k1.cell
    have g4 : Boxed X (w.heap.size + 1) 4 (.bool false) := (x3.block _ (by omega)).trans k2
    have e4 := g4.cell
    have e5 := g4.frozen
    have j1 : ¬ (s.l.length : Int) ≤ (pre.length : Int) := by omega
    have j2 : (pre.length : Int) < (s.l.length : Int) := by omega
    have j3 : (0 : Int) ≤ (pre.length : Int) := by omega
    have j4 : (pre.length : Int) + 1 ≤ 1000 := by omega
    have hne3 : w.heap.size ≠ w3.heap.size := by omega
    have hno : y ≠ s.l[pre.length] → ¬ pre ++ [y] <+: s.l := fun hx hp => hx (by
      have := List.IsPrefix.getElem hp (i := pre.length) (by simp)
      rw [← this]
      simp)
    have Hno : Hid _ := hno
    have y3 := x1.set (.int .i64 ((pre.length : Int) + 1))
    have y4 := KeepsOthers.setCell X ⟨w3.heap.size, 0, none⟩ (.int .i64 ((pre.length : Int) + 1))
    have y5 : Below w3.heap.size w3 (X.setCell ⟨w3.heap.size, 0, none⟩ (.int .i64 ((pre.length : Int) + 1))) := x3.setCell (p := ⟨w3.heap.size, 0, none⟩) (Nat.le_refl _) _
    have y6 : Kp (fun k => w2.heap.size ≤ k ∧ k < w3.heap.size) X (X.setCell ⟨w3.heap.size, 0, none⟩ (.int .i64 ((pre.length : Int) + 1))) := ⟨by simp, fun k e => Below.heap_setCell X ⟨w3.heap.size, 0, none⟩ _ k (by show k ≠ w3.heap.size; omega)⟩
    have Y3 : Hid _ := y3
    have Y4 : Hid _ := y4
    have Y5 : Hid _ := y5
    have Y6 : Hid _ := y6
    have X2 : Hid _ := x2
    clear hno y3 y4 y5 y6 hown hown2 HC hc x1 x2 x3 g4 hL n1 n2 n3 hS b1 b2 b3 hB2 hB3 k1 k2 k3'
    generalize s.l[pre.length] = z at *
    clear hlt z0 z1 z2 z3
    by_cases hy : y = z
    · subst hy
      clear Hno
      by_cases hst : (pre.length : Int) + 1 = stop
      · subst hst
        gi_wp2
        refine ⟨Y4.out, .inr ⟨rfl, by simp, by omega, ?_, Y5.out⟩⟩
        rw [List.length_append]; exact Y3.out
      · have m4 : ((pre.length : Int) + 1 == stop) = false := beq_eq_false_iff_ne.2 hst
        gi_wp2
        refine ⟨Y4.out, Y6.out, ⟨?_, ?_⟩, Y5.out⟩
        · rw [List.length_append]; exact Y3.out
        · have := X2.out
          simp only [List.length_append, List.length_cons, List.length_nil]
          omega
    · have Hx := Hno.out hy
      have hy2 := Qu.str_ne hy
      gi_wp2
      exact ⟨KeepsOthers.setCell _ _ _, .inl ⟨rfl, Hx⟩⟩
  case done =>
    rintro D ys X hD rfl ⟨⟨x1, x2⟩, x3⟩ hK
    have a1 : X.cell? ⟨w1.heap.size, 0, none⟩ = some (.slice ad s.l.length cap) := (x3.cell (p := ⟨w1.heap.size, 0, none⟩) hlt1).trans k3'.cell
    have a2 := x1.cell
    have a3 : X.cell? ⟨w.heap.size, 0, none⟩ = some (.int .i64 stop) := (x3.cell (p := ⟨w.heap.size, 0, none⟩) (by show w.heap.size < w3.heap.size; omega)).trans k1.cell
    have g4 : Boxed X (w.heap.size + 1) 4 (.bool false) := (x3.block _ (by omega)).trans k2
    have c4 := g4.cell
    have f4 := g4.frozen
    have g5 := (g4.set (.bool true)).cell
    have g6 : Below w.heap.size w (X.setCell ⟨w.heap.size + 1, 0, none⟩ (.bool true)) := (hB3.trans (x3.mono (by omega))).setCell (p := ⟨w.heap.size + 1, 0, none⟩) (by show w.heap.size ≤ w.heap.size + 1; omega) _
    have hD2 : w3.heap.size + 1 ≤ D := by rw [← n3]; exact hD
    have g7 : (X.setCell ⟨w.heap.size + 1, 0, none⟩ (.bool true)).heap[D]? = some (.deferred (some [])) := (Below.heap_setCell _ _ _ _ (by show D ≠ w.heap.size + 1; omega)).trans hK
    have hor : stop < 1 ∨ (¬ stop < 1 ∧ (s.l.length : Int) < stop) := by omega
    clear hown hown2 HC x1 x2 x3 g4 hK
    rcases hor with m1 | ⟨m1, m2⟩
    all_goals
      gi_wp2_with fail
      refine Qu.leave_all (B := w3.heap.size + 1) D _ ⟨hD2, g7⟩ (fun W' hW' => ?_)
      exact ⟨.bool true, Qu.results_bool rfl Try.underlying4 _ _ _ _ rfl ((hW'.cell (p := ⟨w.heap.size + 1, 0, none⟩) (by show w.heap.size + 1 < w3.heap.size + 1; omega)).trans g5), rfl, g6.trans (hW'.mono (by omega))⟩
  case stop =>
    rintro D c pre X hD hpre h hK
    rcases h with ⟨_, h⟩ | ⟨rfl, hs1, hs2, x1, x3⟩
    · exact absurd hpre h
    have hle := hpre.length_le
    have a1 : X.cell? ⟨w1.heap.size, 0, none⟩ = some (.slice ad s.l.length cap) := (x3.cell (p := ⟨w1.heap.size, 0, none⟩) hlt1).trans k3'.cell
    have a2 := x1.cell
    have a3 : X.cell? ⟨w.heap.size, 0, none⟩ = some (.int .i64 stop) := (x3.cell (p := ⟨w.heap.size, 0, none⟩) (by show w.heap.size < w3.heap.size; omega)).trans k1.cell
    have g4 : Boxed X (w.heap.size + 1) 4 (.bool false) := (x3.block _ (by omega)).trans k2
    have c4 := g4.cell
    have f4 := g4.frozen
    have g5 := (g4.set (.bool true)).cell
    have g6 : Below w.heap.size w (X.setCell ⟨w.heap.size + 1, 0, none⟩ (.bool true)) := (hB3.trans (x3.mono (by omega))).setCell (p := ⟨w.heap.size + 1, 0, none⟩) (by show w.heap.size ≤ w.heap.size + 1; omega) _
    have hD2 : w3.heap.size + 1 ≤ D := by rw [← n3]; exact hD
    have g7 : (X.setCell ⟨w.heap.size + 1, 0, none⟩ (.bool true)).heap[D]? = some (.deferred (some [])) := (Below.heap_setCell _ _ _ _ (by show D ≠ w.heap.size + 1; omega)).trans hK
    have m1 : ¬ stop < 1 := by omega
    have m2 : ¬ (s.l.length : Int) < stop := by omega
    rw [hs1] at a2
    clear hown hown2 HC x1 x3 g4 hK hs1
    gi_wp2_with fail
    refine Qu.leave_all (B := w3.heap.size + 1) D _ ⟨hD2, g7⟩ (fun W' hW' => ?_)
    exact ⟨.bool true, Qu.results_bool rfl Try.underlying4 _ _ _ _ rfl ((hW'.cell (p := ⟨w.heap.size + 1, 0, none⟩) (by show w.heap.size + 1 < w3.heap.size + 1; omega)).trans g5), rfl, g6.trans (hW'.mono (by omega))⟩
end Go.Proofs
