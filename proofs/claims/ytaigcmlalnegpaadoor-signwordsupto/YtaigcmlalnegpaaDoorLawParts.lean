import Derived.Test.YtaigcmlalnegpaaDoorLawKeeps
import Derived.Test.YtaigcmlalnegpaaDoorMath8
import Derived.Test.YtaigcmlalnegpaaDoorWords2
namespace Go.Proofs
open Go.RowKit Go.Shelf
attribute [local go_sem] Oper.semAt_some
theorem Sg.boxed_below {w w' : World} {B : Nat} {t : TypeId} {v : Value} (h : Boxed w B t v) (hb : Below w.heap.size w w') : Boxed w' B t v := (hb.block B h.lt).trans h
theorem Tryd.info_boolP : (Tryd.prog.info? 4).map (fun i => (i.zero, i.size, i.bytes)) = some (some (.bool false), 1, 1) := by kernel_rfl
/-- What lies where while the words are gone through. -/
structure Tryd.PSt (w : World) (N : Nat) (s : ByteArray) (last : Int) (m : Nat → Bool) (W : World) : Prop where
  str : Boxed W w.heap.size 9 (.string s)
  res : Boxed W (w.heap.size + 1) 4 (.bool false)
  sl : Boxed W (N + 2) 31 (.slice (some ⟨N + 1, 0, none⟩) (s.size + 1) (s.size + 1))
  las : Boxed W (N + 3) 3 (.int .i64 last)
  row : W.rowIs (N + 1) 4 (s.size + 1) (fun i => .bool (m i))
  bel : Below w.heap.size w W
theorem Tryd.PSt.below {w : World} {N : Nat} {s : ByteArray} {last : Int} {m : Nat → Bool} {W W' : World} (h : Tryd.PSt w N s last m W) (hb : Below W.heap.size W W') : Tryd.PSt w N s last m W' :=
  ⟨Sg.boxed_below h.str hb, Sg.boxed_below h.res hb, Sg.boxed_below h.sl hb, Sg.boxed_below h.las hb, Sg.rowIs_below h.row hb, h.bel.trans (hb.mono h.bel.size)⟩
theorem Tryd.PSt.setLast {w : World} {N : Nat} {s : ByteArray} {last : Int} {m : Nat → Bool} {W : World} (h : Tryd.PSt w N s last m W) (hN : w.heap.size + 2 ≤ N) (l : Int) : Tryd.PSt w N s l m (W.setCell ⟨N + 3, 0, none⟩ (.int .i64 l)) :=
  ⟨h.str.other (by omega) _, h.res.other (by omega) _, h.sl.other (by omega) _, h.las.set _, h.row.setOther (a := ⟨N + 3, 0, none⟩) (by show N + 1 ≠ N + 3; omega) _, h.bel.setCell (p := ⟨N + 3, 0, none⟩) (by show w.heap.size ≤ N + 3; omega) _⟩
theorem Sg.boxed_set {W : World} {B : Nat} {t : TypeId} {v : Value} (h : Boxed W B t v) (a : Addr) (ha : B ≠ a.block) (u : Value) : Boxed (W.setCell a u) B t v := (Below.heap_setCell _ _ _ _ ha).trans h
theorem Tryd.PSt.mark {w : World} {N : Nat} {s : ByteArray} {last : Int} {m : Nat → Bool} {W : World} (h : Tryd.PSt w N s last m W) (hN : w.heap.size + 2 ≤ N) (i : Nat) : Tryd.PSt w N s last (fun j => m j || decide (j = i)) (W.setCell ⟨N + 1, i, none⟩ (.bool true)) :=
  ⟨Sg.boxed_set h.str _ (by show _ ≠ N + 1; omega) _, Sg.boxed_set h.res _ (by show _ ≠ N + 1; omega) _, Sg.boxed_set h.sl _ (by show _ ≠ N + 1; omega) _, Sg.boxed_set h.las _ (by show _ ≠ N + 1; omega) _, (h.row.set i _).congr (fun j _ => by
    by_cases e : j = i
    · rw [if_pos e, decide_eq_true e, Bool.or_true]
    · rw [if_neg e, decide_eq_false e, Bool.or_false]), h.bel.setCell (p := ⟨N + 1, i, none⟩) (by show w.heap.size ≤ N + 1; omega) _⟩
theorem Tryd.PSt.congr {w : World} {N : Nat} {s : ByteArray} {last : Int} {m m' : Nat → Bool} {W : World} (h : Tryd.PSt w N s last m W) (e : ∀ i, i < s.size + 1 → m i = m' i) : Tryd.PSt w N s last m' W :=
  ⟨h.str, h.res, h.sl, h.las, h.row.congr (fun i hi => by rw [e i hi]), h.bel⟩
theorem Tryd.PSt.drew {w : World} {N : Nat} {s : ByteArray} {last : Int} {m : Nat → Bool} {W : World} (h : Tryd.PSt w N s last m W) : Tryd.PSt w N s last m W.drew := ⟨h.str, h.res, h.sl, h.las, h.row, h.bel.drew⟩
theorem Tryd.PSt.drewN {w : World} {N : Nat} {s : ByteArray} {last : Int} {m : Nat → Bool} {W : World} (h : Tryd.PSt w N s last m W) (n : Nat) : Tryd.PSt w N s last m (W.drewN n) := ⟨h.str, h.res, h.sl, h.las, h.row, h.bel.os, h.bel.tape, h.bel.output, h.bel.size, h.bel.block⟩
theorem Sg.results_bool {fn : Func} {P : Program} {p : Tmp} {ty : TypeId} (h : fn.results = #[.cell p ty]) (hu : P.underlying ty = some .bool) (tmps : Array Value) (w : World) (g : Nat) (v : Value) (hp : tmps.getD p undef = .pointer (some ⟨g, 0, none⟩)) (hc : w.cell? ⟨g, 0, none⟩ = some v) : (results fn tmps).run P w = .ok v w := by
  have hp' : tmps[p]?.getD undef = .pointer (some ⟨g, 0, none⟩) := by simpa using hp
  have ha : (isAgg ty).run P w = .ok false w := by simp [isAgg, underlying, hu, go_sem]
  simp [results, h, hp', asAddr, loadVar, ha, go_sem, hc]
theorem Sg.row_kept {W W' : World} {r : Option Nat} {b n : Nat} {t : TypeId} {f : Nat → Value} (h : W.rowIs b t n f) (hn : 0 < n) (hg : W.grownBy W' r) (hr : ∀ k, r = some k → ∃ o : Obj, W.heap[k]? = some o ∧ o.isCells = false) : W'.rowIs b t n f :=
  h.of_block (hg.block b h.lt (fun e => by
    obtain ⟨o, ho, hc⟩ := hr b e.symm
    obtain ⟨o', ho', hc'⟩ := cells_of_cell (h.cell hn)
    rw [show W.heap[b]? = _ from ho'] at ho
    cases ho
    rw [hc] at hc'
    cases hc'))
theorem Tryd.PSt.own (w : World) (N : Nat) (s : ByteArray) (B : Nat) (hB : w.heap.size ≤ B) {β : Type} (l : β → Int) (m : β → Nat → Bool) : OwnFrom B (fun (x : β) W => Tryd.PSt w N s (l x) (m x) W) := fun x W W' r h hg hr =>
  ⟨boxed_own _ _ (fun (_ : Unit) => _) () W W' r h.str hg (fun k e => (hr k e).2), boxed_own _ _ (fun (_ : Unit) => _) () W W' r h.res hg (fun k e => (hr k e).2), boxed_own _ _ (fun (_ : Unit) => _) () W W' r h.sl hg (fun k e => (hr k e).2),
    boxed_own _ _ (fun (_ : Unit) => _) () W W' r h.las hg (fun k e => (hr k e).2), Sg.row_kept h.row (by omega) hg (fun k e => (hr k e).2), ownFrom_below (Nat.le_refl _) hB () W W' r h.bel hg hr⟩
/-- What a round keeps. -/
def Sg.Mv (n₀ : Nat) (W W' : World) : Prop := KeepsOthers W W' ∧ Sg.Kp n₀ W W'
theorem Sg.Mv.refl (n₀ : Nat) (W : World) : Sg.Mv n₀ W W := ⟨KeepsOthers.refl W, Below.refl _ _, (KeepsOthers.refl W).walks⟩
theorem Sg.Mv.trans {n₀ : Nat} {A B C : World} (h : Sg.Mv n₀ A B) (k : Sg.Mv n₀ B C) : Sg.Mv n₀ A C := ⟨h.1.trans k.1, Sg.Kp_t h.2 k.2⟩
theorem Sg.Mv.setCell {n₀ : Nat} {A B : World} (h : Sg.Mv n₀ A B) (a : Addr) (ha : n₀ ≤ a.block) (v : Value) : Sg.Mv n₀ A (B.setCell a v) :=
  h.trans ⟨KeepsOthers.setCell _ _ _, (Below.refl n₀ B).setCell (p := a) ha _, (KeepsOthers.setCell _ _ _).walks⟩
theorem Sg.Mv.below {n₀ : Nat} {A B C : World} (h : Sg.Mv n₀ A B) (hb : Below B.heap.size B C) (hn : n₀ ≤ B.heap.size) : Sg.Mv n₀ A C := by
  have k : KeepsOthers B C := ⟨hb.size, fun i o hi _ => (hb.block i (Array.getElem?_eq_some_iff.1 hi).1).trans hi⟩
  exact h.trans ⟨k, hb.mono hn, k.walks⟩
set_option maxRecDepth 100000 in
set_option maxHeartbeats 4000000 in
theorem Tryd.parts_in (n : Nat) (hn : 3 ≤ n) (s0 s : ByteArray) (hs : s.size ≤ 300) (c1 : ∀ w, Calls Tryd.prog 10 #[.string s0, .int .i64 300] w fun e w' => e = .returned (.string s) ∧ w' = w) (w : World) (hT : Tryd.Tabs w) :
    CallsIn Fence.wide n Tryd.prog 4 #[.string s0] w fun e W' => e = .returned (.bool true) ∧ Below w.heap.size w W' := by
  have h1 : 1 ≤ n := by omega
  have hnil : ∀ p w, (binOp .eql 29 (.func (.func 29) #[] #[p]) .nilFunc).run Tryd.prog w = .ok (.bool false) w := fun _ _ => by kernel_rfl
  have C1 : Hid _ := c1
  clear c1
  refine callsIn_of_wp_marks Tryd.func4 rfl trivial ?_ rfl
  simp only [Tryd.ntmps4, List.size_toArray, List.length_cons, List.length_nil, Nat.reduceAdd, Nat.reduceSub, Array.replicate_succ, Array.replicate_zero, List.push_toArray, List.append_toArray, List.nil_append, List.cons_append]
  gi_wp2_with fail
  have q1 : Boxed (w.alloc (.cells #[.string s0] 9)) w.heap.size 9 (.string s0) := Boxed.new _ _ _
  have q2 : Boxed ((w.alloc (.cells #[.string s0] 9)).alloc (.cells #[.bool false] 4)) (w.heap.size + 1) 4 (.bool false) := by
    have := Boxed.new (w.alloc (.cells #[.string s0] 9)) 4 (.bool false)
    simp only [World.size_alloc] at this
    exact this
  have hb0 : Below w.heap.size w ((w.alloc (.cells #[.string s0] 9)).alloc (.cells #[.bool false] 4)) := ((Below.refl _ w).alloc (Nat.le_refl _) _).alloc (by simp) _
  have T0 := hT.below hb0
  have q1' := q1.alloc (.cells #[.bool false] 4)
  have z0 : ((w.alloc (.cells #[.string s0] 9)).alloc (.cells #[.bool false] 4)).heap.size = w.heap.size + 2 := by simp
  generalize (w.alloc (.cells #[.string s0] 9)).alloc (.cells #[.bool false] 4) = w0 at *
  clear q1
  refine ⟨trivial, (callsIn_wide.2 (Tryd.shown_any _ T0)).mono ?_⟩
  rintro e w1 ⟨rfl, b1⟩
  have T1 := T0.below b1
  have p1 := Sg.boxed_below q1' b1
  have p2 := Sg.boxed_below q2 b1
  have z1 : w.heap.size + 2 ≤ w1.heap.size := by have := b1.size; omega
  replace b1 := hb0.trans (b1.mono (by omega))
  clear q1' q2 hb0 T0 z0
  have c1 := p1.cell
  have f1 := p1.frozen
  have p1' := p1.set (.string s)
  have p2' := p2.other (B' := w.heap.size) (by omega) (.string s)
  have c1' := p1'.cell
  gi_wp2_with fail
  refine ⟨trivial, (callsIn_wide.2 (C1.out _)).mono ?_⟩
  rintro e w1' ⟨rfl, rfl⟩
  gi_wp2_with fail
  refine ⟨trivial, (callsIn_wide.2 (Tryd.words_call _ _)).mono ?_⟩
  rintro e w1' ⟨rfl, rfl⟩
  have zs : (w1'.setCell ⟨w.heap.size, 0, none⟩ (.string s)).heap.size = w1'.heap.size := by simp [World.setCell]
  have bs : Below w.heap.size w (w1'.setCell ⟨w.heap.size, 0, none⟩ (.string s)) := b1.setCell (p := ⟨w.heap.size, 0, none⟩) (Nat.le_refl _) _
  clear c1 f1 p1 p2 T1 c1' b1
  rename_i wx _ _ _ _
  obtain ⟨N, hN⟩ : ∃ N, N = w1'.heap.size := ⟨_, rfl⟩
  rw [zs]
  rw [← hN] at zs z1 ⊢
  clear hN
  generalize w1'.setCell ⟨w.heap.size, 0, none⟩ (.string s) = w2 at *
  have r1 := p1'.alloc (.cells #[.string s] 9)
  have r2 := p2'.alloc (.cells #[.string s] 9)
  have r3 := Boxed.new w2 9 (.string s)
  rw [zs] at r3
  have b3 := bs.alloc (by omega) (.cells #[.string s] 9)
  have zs3 : (w2.alloc (.cells #[.string s] 9)).heap.size = N + 1 := by simp [zs]
  clear p1' p2' bs zs
  generalize w2.alloc (.cells #[.string s] 9) = w3 at *
  have hmk := run_make_row' (P := Tryd.prog) 31 4 (.bool false) 1 Tryd.underlying31 Tryd.info_boolP rfl .i64 .i64 (s.size + 1) (by omega) (by omega)
  have c1 := r1.cell
  have hr4 := World.rowIs_made w3 (.bool false) (s.size + 1) 4
  have v1 := r1.alloc (.cells (madeCells #[.bool false] (s.size + 1)) 4)
  have v2 := r2.alloc (.cells (madeCells #[.bool false] (s.size + 1)) 4)
  have v3 := r3.alloc (.cells (madeCells #[.bool false] (s.size + 1)) 4)
  have b4 := b3.alloc (by omega) (.cells (madeCells #[.bool false] (s.size + 1)) 4)
  have z4 : (w3.alloc (.cells (madeCells #[.bool false] (s.size + 1)) 4)).heap.size = N + 2 := by simp [zs3]
  generalize hw4 : w3.alloc (.cells (madeCells #[.bool false] (s.size + 1)) 4) = w4 at v1 v2 v3 b4 hr4 z4
  have hmk' : (Instr.makeSlice 31 (.int .i64 ((s.size : Int) + 1)) (.int .i64 ((s.size : Int) + 1))).run Tryd.prog w3 = .ok (.slice (some ⟨N + 1, 0, none⟩) (s.size + 1) (s.size + 1)) w4 := by
    rw [← hw4, ← zs3]
    exact hmk w3
  rw [zs3] at hr4
  clear hmk hw4 r2 r3 b3
  gi_wp2_with fail
  have k1 := (v1.alloc (.cells #[.slice (some ⟨N + 1, 0, none⟩) (s.size + 1) (s.size + 1)] 31)).alloc (.cells #[.int .i64 (-1)] 3)
  have k2 := (v2.alloc (.cells #[.slice (some ⟨N + 1, 0, none⟩) (s.size + 1) (s.size + 1)] 31)).alloc (.cells #[.int .i64 (-1)] 3)
  have k3 := (v3.alloc (.cells #[.slice (some ⟨N + 1, 0, none⟩) (s.size + 1) (s.size + 1)] 31)).alloc (.cells #[.int .i64 (-1)] 3)
  have k4 := (Boxed.new w4 31 (.slice (some ⟨N + 1, 0, none⟩) (s.size + 1) (s.size + 1))).alloc (.cells #[.int .i64 (-1)] 3)
  have k5 := Boxed.new (w4.alloc (.cells #[.slice (some ⟨N + 1, 0, none⟩) (s.size + 1) (s.size + 1)] 31)) 3 (.int .i64 (-1))
  have k6 := (hr4.alloc (.cells #[.slice (some ⟨N + 1, 0, none⟩) (s.size + 1) (s.size + 1)] 31)).alloc (.cells #[.int .i64 (-1)] 3)
  have k7 := (b4.alloc (by omega) (.cells #[.slice (some ⟨N + 1, 0, none⟩) (s.size + 1) (s.size + 1)] 31)).alloc (by simp; omega) (.cells #[.int .i64 (-1)] 3)
  have k8 : ((w4.alloc (.cells #[.slice (some ⟨N + 1, 0, none⟩) (s.size + 1) (s.size + 1)] 31)).alloc (.cells #[.int .i64 (-1)] 3)).heap.size = N + 4 := by simp [z4]
  rw [z4] at k4
  rw [World.size_alloc, z4] at k5
  clear hmk' v1 v2 v3 hr4 b4 z4 r1 zs3 c1
  generalize (w4.alloc (.cells #[.slice (some ⟨N + 1, 0, none⟩) (s.size + 1) (s.size + 1)] 31)).alloc (.cells #[.int .i64 (-1)] 3) = wS at *
  have st0 : Tryd.PSt w N s (-1) (fun _ => false) wS := ⟨k1, k2, k4, k5, k6, k7⟩
  clear k1 k2 k4 k5 k6 k7
  refine wpIn_rangeFunc_ownF rfl h1 (gf := 29) (lb := #[.pointer (some ⟨N, 0, none⟩)]) rfl trivial (enters_of Tryd.func29 (by kernel_rfl) rfl)
    (Tryd.words_stops2 (n - 1) (by omega) N (N + 1) s (by unfold maxLen; omega) _ (by omega) (by omega) k3.cell) Sg.Kp_t (Sg.Kp_b (by omega)) (Below.refl _ _) (fun _ => rfl)
    (fun pre W => Tryd.PSt w N s (Sg.lastOf (-1) (pre.map Subtype.val)) (Sg.inAny (pre.map Subtype.val)) W)
    (fun _ pre _ => ¬ pre.map Subtype.val <+: Sg.words s)
    (Tryd.PSt.own w N s _ (by omega) (fun (pre : List (Sg.Wd s)) => Sg.lastOf (-1) (pre.map Subtype.val)) (fun pre => Sg.inAny (pre.map Subtype.val)))
    (fun _ _ _ _ _ hs _ _ => hs)
    st0
    (fun x => { tmps := #[Value.string s0, Value.pointer (some ⟨w.heap.size, 0, none⟩), Value.pointer (some ⟨w.heap.size + 1, 0, none⟩), Value.bool true, Value.func (Fn.func 29) #[] #[Value.pointer (some ⟨N, 0, none⟩)], Value.pointer (some ⟨N + 2, 0, none⟩), Value.pointer (some ⟨N + 2 + 1, 0, none⟩), Value.int .i64 (x.1.1 : Int), Value.int .i64 (x.1.2 : Int), undef, undef, Value.bool true, Value.string s0, Value.string s, Value.string s, Value.func (Fn.func 29) #[] #[Value.pointer (some ⟨N, 0, none⟩)], Value.bool true, Value.bool false, Value.bool false, Value.func (Fn.func 29) #[] #[Value.pointer (some ⟨N, 0, none⟩)], Value.bool false, Value.bool false, Value.string s, Value.int .i64 (s.size : Int), Value.int .i64 ((s.size : Int) + 1), Value.slice (some ⟨N + 1, 0, none⟩) (s.size + 1) (s.size + 1), Value.func (Fn.func 29) #[] #[Value.pointer (some ⟨N, 0, none⟩)], Value.int .i64 (x.1.1 : Int), Value.int .i64 (x.1.2 : Int), undef, undef, undef, undef, undef, undef, undef, undef, undef, undef, undef, undef, undef, undef, undef, undef, undef, undef, undef, undef, undef, undef, undef, undef, undef, undef, undef, undef, undef, undef, undef, undef, undef, undef, undef, undef, undef, undef, undef, undef, undef, undef, undef, undef, undef, undef, undef, undef, undef, undef, undef, undef, undef, undef, undef, undef, undef], defers := [] }) ?assign ?body ?done ?stop
  case assign =>
    intro l x W K hK
    dsimp only [Sg.enc2]
    gi_wp2
    exact hK
  case body =>
    rintro l pre x W hS hlt
    have hwa := Sg.word_at s x.1 x.2
    have hbd := Sg.word_bounds s _ _ hwa
    have hed := fun k => Sg.edge_in_word s _ _ k hwa
    have hee := Sg.edge_behind_word s _ _ hwa
    have hfin : ∀ W', Tryd.PSt w N s (x.1.2 : Int) (fun i => Sg.inAny (pre.map Subtype.val) i || decide (x.1.1 ≤ i ∧ i < x.1.2)) W' → Tryd.PSt w N s (Sg.lastOf (-1) ((pre ++ [x]).map Subtype.val)) (Sg.inAny ((pre ++ [x]).map Subtype.val)) W' := fun W' h => by
      rw [List.map_append, List.map_cons, List.map_nil, Sg.lastOf_snoc]
      exact h.congr (fun i _ => by unfold Sg.inAny; rw [List.any_append]; simp)
    have hno : (x.1.1 : Int) ≤ Sg.lastOf (-1) (pre.map Subtype.val) → ¬ (pre ++ [x]).map Subtype.val <+: Sg.words s := fun hle hp => by
      obtain ⟨r, hr⟩ := hp
      have h := Sg.words_rise s
      rw [← hr, List.map_append, List.append_assoc] at h
      have := Sg.rise_at x.1 r (pre.map Subtype.val) (-1) h
      omega
    have e1 := fun a w hT => Tryd.edge_any s a (by unfold maxLen; omega) w hT
    have E1 : Hid _ := e1
    have Hed : Hid _ := hed
    have Hfin : Hid _ := hfin
    have Hno : Hid _ := hno
    clear e1 hed hfin hno hnil C1
    generalize hq : pre.map Subtype.val = q at *
    generalize Sg.lastOf (-1) q = last at *
    generalize ha : x.1.1 = a at *
    generalize hb : x.1.2 = b at *
    have c1 := hS.str.cell
    have c2 : W.cell? ⟨N + 2 + 1, 0, none⟩ = some (.int .i64 last) := hS.las.cell
    have f2 : W.frozen? ⟨N + 2 + 1, 0, none⟩ = false := hS.las.frozen
    have c3 := hS.res.cell
    have f3 := hS.res.frozen
    have i1 : ¬ (b : Int) ≤ (a : Int) := by omega
    have i2 : ¬ (s.size : Int) < (b : Int) := by omega
    have hzW : N + 4 ≤ W.heap.size := hS.las.lt
    by_cases hle : (a : Int) ≤ last
    · gi_wp2
      exact ⟨KeepsOthers.setCell _ _ _, Hno.out hle⟩
    · have hS2 := hS.setLast z1 (b : Int)
      have hM2 : Sg.Mv (N + 1) W (W.setCell ⟨N + 3, 0, none⟩ (.int .i64 (b : Int))) := (Sg.Mv.refl _ _).setCell _ (by show N + 1 ≤ N + 3; omega) _
      gi_wp2
      gi_loopw [9] (fun v wr => ∃ k : Nat, a ≤ k ∧ k ≤ b ∧ v = .int .i64 k ∧ Sg.Mv (N + 1) W wr ∧ Tryd.PSt w N s (b : Int) (fun i => Sg.inAny q i || decide (a ≤ i ∧ i < k)) wr) (fun v _ => b - (intOf v).toNat)
      case atStart => exact ⟨a, Nat.le_refl _, by omega, rfl, hM2, hS2.congr (fun i _ => by rw [decide_eq_false (by omega), Bool.or_false])⟩
      case round =>
        obtain ⟨k, hk1, hk2, rfl, hM, hP⟩ := hrel
        clear hM2 hS2 hS c1 c2 f2 c3 f3
        have d1 := hP.str.cell
        have d2 := hP.sl.cell
        have hz : N + 4 ≤ wr.heap.size := hP.las.lt
        by_cases hkb : k < b
        · have j1 : (k : Int) < (b : Int) := by omega
          have j2 : (0 : Int) ≤ (k : Int) := by omega
          have j3 : (k : Int) < (s.size : Int) + 1 := by omega
          have d3 := hP.row.cell (i := k) (by omega)
          have d4 := hP.row.frozen k
          have hP2 := hP.mark z1 k
          have hM2 : Sg.Mv (N + 1) W (wr.setCell ⟨N + 1, k, none⟩ (.bool true)) := hM.setCell _ (Nat.le_refl _) _
          have d5 := hP2.str.cell
          have hz2 : N + 4 ≤ (wr.setCell ⟨N + 1, k, none⟩ (.bool true)).heap.size := hP2.las.lt
          have e1 := fun w hT => E1.out (k : Int) w hT
          rw [Sg.edgeB_nat s k (by omega), Hed.out k hk1 hkb] at e1
          by_cases hka : k = a
          · rw [decide_eq_true hka] at e1
            subst hka
            have G1 : Hid _ := e1
            clear e1
            gi_wp2_with fail
            refine ⟨trivial, fun _ => by omega, (CallsIn.inRound l (callsIn_wide.2 (G1.out _ (hT.below hP2.bel)))).mono ?_⟩
            rintro e w7 ⟨rfl, b7⟩
            gi_wp2_with fail
            go_roundw
            case rel => exact ⟨k + 1, by omega, by omega, by go_num, hM2.below b7 (by omega), (hP2.below b7).congr (fun i _ => by rw [Bool.or_assoc, ← Bool.decide_or]; congr 1; exact decide_eq_decide.2 (by omega))⟩
            case measure => simp [intOf]; omega
          · have m1 : ((k : Int) == (a : Int)) = false := beq_eq_false_iff_ne.2 (by omega)
            rw [decide_eq_false hka] at e1
            have G1 : Hid _ := e1
            clear e1
            gi_wp2_with fail
            refine ⟨trivial, fun _ => by omega, (CallsIn.inRound l (callsIn_wide.2 (G1.out _ (hT.below hP2.bel)))).mono ?_⟩
            rintro e w7 ⟨rfl, b7⟩
            gi_wp2_with fail
            go_roundw
            case rel => exact ⟨k + 1, by omega, by omega, by go_num, hM2.below b7 (by omega), (hP2.below b7).congr (fun i _ => by rw [Bool.or_assoc, ← Bool.decide_or]; congr 1; exact decide_eq_decide.2 (by omega))⟩
            case measure => simp [intOf]; omega
        · obtain rfl : k = b := by omega
          have e1 := fun w hT => E1.out (k : Int) w hT
          rw [Sg.edgeB_nat s k (by omega), hee] at e1
          have G1 : Hid _ := e1
          clear e1
          gi_wp2_with fail
          refine ⟨trivial, fun _ => by omega, (CallsIn.inRound l (callsIn_wide.2 (G1.out _ (hT.below hP.bel)))).mono ?_⟩
          rintro e w7 ⟨rfl, b7⟩
          have hM7 := hM.below b7 (by omega)
          gi_wp2_with fail
          exact ⟨hM7.1, hM7.2, Hfin.out _ (hP.below b7)⟩
  case done =>
    rintro D ys W hD hys hS hK
    rw [hys] at hS
    generalize Sg.lastOf (-1) (Sg.words s) = last at *
    have hin := fun k h1 h2 => Sg.in_word s k h1 h2
    have Hin : Hid _ := hin
    clear hin hnil C1
    rename_i K hK0
    refine hK0 _ _ (wpIn_wide.2 ?_)
    clear hK0
    go_wp2_with fail
    go_loopw [10] (fun v wr => ∃ k : Nat, k ≤ s.size ∧ v = .int .i64 k ∧ wr.heap[D]? = some (.deferred (some [])) ∧ Tryd.PSt w N s last (Sg.inAny (Sg.words s)) wr) (fun v _ => s.size - (intOf v).toNat)
    case atStart => exact ⟨0, Nat.zero_le _, rfl, hK, hS⟩
    case round =>
      obtain ⟨k, hk, rfl, hD2, hP⟩ := hrel
      clear hS hK
      have d1 := hP.str.cell
      have d2 := hP.sl.cell
      by_cases hlt : k < s.size
      · have j1 : (k : Int) < (s.size : Int) := by omega
        have j2 : (0 : Int) ≤ (k : Int) := by omega
        have j3 : (k : Int) < (s.size : Int) + 1 := by omega
        have d3 := hP.row.cell (i := k) (by omega)
        have hby := Hin.out k hlt
        unfold Sg.bt at hby
        rw [Nat.add_zero] at hby
        have hgg : s.get! k = s[k]'hlt := by simp [ByteArray.get!, hlt]; rfl
        rw [hgg] at hby
        by_cases hlow : (s[k]'hlt).toNat < 128
        · rw [hby hlow] at d3
          have cw := fun w => Tryd.isWord_any (((s[k]'hlt).toNat : Nat) : Int) w
          generalize Sg.wordB (((s[k]'hlt).toNat : Nat) : Int) = wb at cw d3
          have Cw : Hid _ := cw
          clear cw
          have g1 : (((s[k]'hlt).toNat : Nat) : Int) < 128 := by omega
          have g2 : IntKind.i32.wrap (((s[k]'hlt).toNat : Nat) : Int) = (((s[k]'hlt).toNat : Nat) : Int) := by
            have e : ((((s[k]'hlt).toNat : Nat) : Int) + 2147483648) % 4294967296 = (((s[k]'hlt).toNat : Nat) : Int) + 2147483648 := Int.emod_eq_of_lt (by omega) (by omega)
            have := IntKind.wrap_i32 (((s[k]'hlt).toNat : Nat) : Int)
            omega
          go_wp2_with fail
          go_quiet (first | (go_at_call 15; refine Calls.quiet_of_same (Cw.out _)))
          go_wp2_with fail
          exact ⟨⟨k + 1, by omega, by go_num, hD2, hP.drewN _⟩, by simp [intOf]; omega⟩
        · have g1 : decide ((((s[k]'hlt).toNat : Nat) : Int) < 128) = false := decide_eq_false (by omega)
          go_wp2_with fail
          go_quiet (fail)
          go_wp2_with fail
          exact ⟨⟨k + 1, by omega, by go_num, hD2, hP.drewN _⟩, by simp [intOf]; omega⟩
      · have j1 : ¬ (k : Int) < (s.size : Int) := by omega
        have c3 := hP.res.cell
        have f3 := hP.res.frozen
        have hD3 : (wr.setCell ⟨w.heap.size + 1, 0, none⟩ (.bool true)).heap[D]? = some (.deferred (some [])) := (Below.heap_setCell _ _ _ _ (by show D ≠ w.heap.size + 1; omega)).trans hD2
        have hB3 : Below w.heap.size w (wr.setCell ⟨w.heap.size + 1, 0, none⟩ (.bool true)) := hP.bel.setCell (p := ⟨w.heap.size + 1, 0, none⟩) (by show w.heap.size ≤ w.heap.size + 1; omega) _
        have hC3 := (hP.res.set (.bool true)).cell
        go_wp2_with fail
        refine ⟨by simp, .inl ⟨_, _, rfl, run_takeDeferred hD3, ?_⟩⟩
        have hC4 : ((wr.setCell ⟨w.heap.size + 1, 0, none⟩ (.bool true)).putObj D (.deferred none)).cell? ⟨w.heap.size + 1, 0, none⟩ = some (.bool true) := (World.cell?_of_block (World.putObj_heap_other (by show w.heap.size + 1 ≠ D; omega))).trans hC3
        exact ⟨.bool true, Sg.results_bool rfl Tryd.underlying4 _ _ _ _ rfl hC4, rfl, hB3.trans (belowK_b (w := w) (Nat.le_refl _) _ D _ _ (by omega) hD3 rfl rfl)⟩
  case stop =>
    rintro D c pre W _ hp h _
    exact absurd hp h
theorem Tryd.signPartsWalk (s : ByteArray) (hs : s.size ≤ 140737488351232) (w : World) (hT : Tryd.Tabs w) :
    Calls Tryd.prog 4 #[.string s] w fun e w' => e = .returned (.bool true) ∧ Below w.heap.size w w' :=
  (callsIn_wide (n := 3)).1 (Tryd.parts_in 3 (Nat.le_refl _) s (Sg.cut s) (Sg.cut_size s) (fun w => Tryd.upTo_any s (by unfold maxLen; omega) w) w hT)
end Go.Proofs
