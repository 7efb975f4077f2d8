import Derived.Test.YtaigcmlalnegpaaDoorLawParts
import Derived.Test.YtaigcmlalnegpaaDoorRefWords
import Derived.Laws.EntriesVeiled
namespace Go.Proofs
open Go.RowKit Go.Shelf
attribute [local go_sem] Oper.semAt_some
theorem Sg.wcells_get : ∀ (l : List (Nat × Nat)) (i : Nat) (hi : i < l.length), (Sg.wcells l)[i * 2]? = some (.int .i64 ((l[i]'hi).1 : Int)) ∧ (Sg.wcells l)[i * 2 + 1]? = some (.int .i64 ((l[i]'hi).2 : Int))
  | [], _, hi => by cases hi
  | x :: l, 0, _ => ⟨rfl, rfl⟩
  | x :: l, i + 1, hi => by
    have h := Sg.wcells_get l i (by simp at hi; omega)
    have e : Sg.wcells (x :: l) = .int .i64 (x.1 : Int) :: .int .i64 (x.2 : Int) :: Sg.wcells l := rfl
    rw [e, show (i + 1) * 2 = i * 2 + 1 + 1 from by omega]
    simp only [List.getElem?_cons_succ, List.getElem_cons_succ]
    exact h
/-- A slice of pairs: where it lies, and what stands in it. -/
theorem Sg.own_pairs {w : World} {B : Nat} {e : TypeId} {v : Value} {l : List (Nat × Nat)} (h : w.ownsRowF B e 2 v l.length (Sg.wcells l)) :
    ∃ bs cap, v = .slice bs l.length cap ∧ ∀ (i : Nat) (hi : i < l.length), ∃ g cur fz, bs = some ⟨g, 0, none⟩ ∧ w.heap[g]? = some (.cells cur e fz) ∧ cur[i * 2]? = some (.int .i64 (l[i]'hi).1) ∧ cur[i * 2 + 1]? = some (.int .i64 (l[i]'hi).2) := by
  obtain ⟨_, h0 | ⟨g, cap, cur, fz, hv, _, hg, _, _, _, _, ht⟩⟩ := h
  · exact ⟨none, 0, by rw [h0.2]; exact h0.1, fun i hi => by have := h0.2; omega⟩
  · refine ⟨_, cap, hv, fun i hi => ⟨g, cur, fz, rfl, hg, ?_⟩⟩
    have e1 := congrArg (·[i * 2]?) ht
    have e2 := congrArg (·[i * 2 + 1]?) ht
    simp only [List.getElem?_take] at e1 e2
    rw [if_pos (by omega), (Sg.wcells_get l i hi).1] at e1
    rw [if_pos (by omega), (Sg.wcells_get l i hi).2] at e2
    rw [Array.getElem?_toList] at e1 e2
    exact ⟨e1, e2⟩
theorem Tryd.eqPair (a b c d : Int) (w : World) : (Op.equalIn 10000 36 (.agg #[.int .i64 a, .int .i64 b]) (.agg #[.int .i64 c, .int .i64 d])).run Tryd.prog w = .ok (a == c && b == d) w := by
  have u3 := Tryd.underlying3
  have a3 := Tryd.isAgg3
  have z3 := Tryd.sizeOf3
  rw [show (10000 : Nat) = 9999 + 1 from rfl, Op.equalIn]
  simp only [Sem.run_bind, run_underlying Tryd.underlying36, Result.andThen_ok]
  simp only [Std.Legacy.Range.forIn_eq_forIn_range', Std.Legacy.Range.size, Nat.sub_zero, Nat.add_sub_cancel, Nat.div_one, List.range'_succ, List.range'_zero, List.forIn_cons, List.forIn_nil]
  go_simp
  by_cases h1 : a = c <;> by_cases h2 : b = d <;> simp [h1, h2]
theorem Sg.wordsGo_len (s : ByteArray) : ∀ (f pos : Nat) (fr : Option Nat), (Sg.wordsGo s f pos fr).length ≤ s.size - pos + 1
  | 0, _, _ => Nat.zero_le _
  | f + 1, pos, fr => by
    have hw := Lib.width_pos s pos
    by_cases hp : pos < s.size
    · cases hb : Sg.wordB (Utf8.decode s pos).1 with
      | true =>
        rw [Sg.wordsGo_t s f pos fr hp hb]
        have := Sg.wordsGo_len s f (pos + (Utf8.decode s pos).2) (some (fr.getD pos))
        omega
      | false =>
        rw [Sg.wordsGo_f s f pos fr hp hb]
        have := Sg.wordsGo_len s f (pos + (Utf8.decode s pos).2) none
        cases fr <;> simp <;> omega
    · rw [Sg.wordsGo_e s f pos fr hp]
      cases fr <;> simp
theorem Sg.words_len (s : ByteArray) : (Sg.words s).length ≤ s.size + 1 := Sg.wordsGo_len s (s.size + 1) 0 none
theorem Sg.two_turns {F : Fence} {n : Nat} {P : Program} {c : Code} {Q : Exit → Act → World → Prop} {a : Act} {w : World} (I : Nat → Act → World → Prop) (h0 : I 0 a w)
    (hr : ∀ τ a w, τ < 2 → I τ a w → c.wpIn F n P (Exit.then (I (τ + 1)) Q) a w) (he : ∀ a w, I 2 a w → c.wpIn F n P (Exit.then (fun _ _ => False) Q) a w) : (Code.loop c).wpIn F n P Q a w := by
  refine wpIn_loop_rounds 3 ?_
  refine wpIn_mono (hr 0 a w (by omega) h0) ?_
  intro e a1 w1 h1
  cases e with
  | normal =>
    refine wpIn_mono (hr 1 a1 w1 (by omega) h1) ?_
    intro e a2 w2 h2
    cases e with
    | normal =>
      refine wpIn_mono (he a2 w2 h2) ?_
      intro e a3 w3 h3
      cases e with
      | normal => exact h3.elim
      | _ => exact h3
    | _ => exact h2
  | _ => exact h1
theorem Sg.below_two {B : Nat} {A X Y : World} (h : Below B A X) (k : Below B A Y) (hs : X.heap.size ≤ Y.heap.size) : Below B X Y := ⟨k.os.trans h.os.symm, k.tape.trans h.tape.symm, k.output.trans h.output.symm, hs, fun i hi => (k.block i hi).trans (h.block i hi).symm⟩
theorem Sg.leave_all {F : Fence} {n : Nat} {P : Program} {fn : Func} {tmps : Array Value} {R : Ending → World → Prop} {B : Nat} : ∀ (Ds : List Nat) (W : World), Ds.Nodup → (∀ D ∈ Ds, B ≤ D ∧ W.heap[D]? = some (.deferred (some []))) → (∀ W', Below B W W' → LeavesIn F n P fn tmps R [] .returning W') →
    LeavesInM F n P fn tmps R (Ds.map fun D => { target := .collected D, args := #[] }) .returning W
  | [], W, _, _, h => h W (Below.refl _ _)
  | D :: Ds, W, hn, hd, h => by
    have h1 := hd D (List.mem_cons_self)
    have hn' := List.nodup_cons.1 hn
    have hb : Below B W (W.putObj D (.deferred none)) := (Below.refl B W).grown (grownBy_putObj' W D _) (by have := (Array.getElem?_eq_some_iff.1 h1.2).1; omega) (fun k e => by cases e; exact h1.1)
    refine ⟨by simp, .inl ⟨D, _, rfl, run_takeDeferred h1.2, Sg.leave_all Ds _ hn'.2 (fun D' hD' => ?_) (fun W' hW' => h W' (hb.trans hW'))⟩⟩
    have h2 := hd D' (List.mem_cons_of_mem _ hD')
    exact ⟨h2.1, (World.putObj_heap_other (fun (e : D' = D) => hn'.1 (e ▸ hD'))).trans h2.2⟩
theorem Sg.own_others {β : Type} {B : Nat} {W0 : World} (h : W0.heap.size ≤ B) : OwnFrom B (fun (_ : β) W => KeepsOthers W0 W) := fun _ X Y _ hs hg hr =>
  ⟨Nat.le_trans hs.size hg.size, fun k o hk ho => by
    have hx := hs.same k o hk ho
    have h1 : k < W0.heap.size := (Array.getElem?_eq_some_iff.1 hk).1
    rw [hg.block k (Array.getElem?_eq_some_iff.1 hx).1 (fun e => by have := (hr k e.symm).1; omega)]
    exact hx⟩
set_option maxRecDepth 100000 in
set_option maxHeartbeats 4000000 in
theorem Tryd.wordsLaw_in (n : Nat) (hn : 5 ≤ n) (s : ByteArray) (hs : s.size ≤ 1048576) (stop : Int) (w : World) (hT : Tryd.Tabs w) :
    CallsIn Fence.wide n Tryd.prog 7 #[.string s, .int .i64 stop] w fun e W' => e = .returned (.bool true) ∧ Below w.heap.size w W' := by
  have h1 : 1 ≤ n := by omega
  have hnil : ∀ p w, (binOp .eql 29 (.func (.func 29) #[] #[p]) .nilFunc).run Tryd.prog w = .ok (.bool false) w := fun _ _ => by kernel_rfl
  refine callsIn_of_wp_marks Tryd.func7 rfl trivial ?_ rfl
  simp only [Tryd.ntmps7, List.size_toArray, List.length_cons, List.length_nil, Nat.reduceAdd, Nat.reduceSub, Array.replicate_succ, Array.replicate_zero, List.push_toArray, List.append_toArray, List.nil_append, List.cons_append]
  gi_wp2_with fail
  have hb0 : Below w.heap.size w ((w.alloc (.cells #[.int .i64 stop] 3)).alloc (.cells #[.bool false] 4)) := ((Below.refl _ w).alloc (Nat.le_refl _) _).alloc (by simp) _
  have q1 := (Boxed.new w 3 (.int .i64 stop)).alloc (.cells #[.bool false] 4)
  have q2 := Boxed.new (w.alloc (.cells #[.int .i64 stop] 3)) 4 (.bool false)
  rw [World.size_alloc] at q2
  have T0 := hT.below hb0
  have z0 : ((w.alloc (.cells #[.int .i64 stop] 3)).alloc (.cells #[.bool false] 4)).heap.size = w.heap.size + 2 := by simp
  generalize (w.alloc (.cells #[.int .i64 stop] 3)).alloc (.cells #[.bool false] 4) = w0 at *
  refine ⟨trivial, (callsIn_wide.2 (Tryd.shown_any _ T0)).mono ?_⟩
  rintro e w1 ⟨rfl, b1⟩
  have p1 := Sg.boxed_below q1 b1
  have p2 := Sg.boxed_below q2 b1
  have z1 : w.heap.size + 2 ≤ w1.heap.size := by have := b1.size; omega
  replace b1 := hb0.trans (b1.mono (by omega))
  clear q1 q2 hb0 T0 z0
  gi_wp2_with fail
  refine ⟨trivial, (callsIn_wide.2 (Tryd.refWords_any s _ hs)).mono ?_⟩
  rintro e w2 ⟨v, rfl, ho, b2⟩
  obtain ⟨bs, cap, rfl, hrow⟩ := Sg.own_pairs ho
  clear ho
  have r1 := Sg.boxed_below p1 b2
  have r2 := Sg.boxed_below p2 b2
  have z2 := b2.size
  replace b2 := b1.trans (b2.mono b1.size)
  clear p1 p2 b1
  gi_wp2_with fail
  refine ⟨trivial, (callsIn_wide.2 (Tryd.words_call _ _)).mono ?_⟩
  rintro e w2' ⟨rfl, rfl⟩
  obtain ⟨M, hM⟩ : ∃ M, M = w2.heap.size := ⟨_, rfl⟩
  have z3 : (w2.alloc (.cells #[.slice bs (Sg.words s).length cap] 34)).heap.size = M + 1 := by simp [hM]
  have z4 : ((w2.alloc (.cells #[.slice bs (Sg.words s).length cap] 34)).alloc (.cells #[.string s] 9)).heap.size = M + 2 := by simp [hM]
  have t1 := (r1.alloc (.cells #[.slice bs (Sg.words s).length cap] 34)).alloc (.cells #[.string s] 9)
  have t2 := (r2.alloc (.cells #[.slice bs (Sg.words s).length cap] 34)).alloc (.cells #[.string s] 9)
  have t3 := (Boxed.new w2 34 (.slice bs (Sg.words s).length cap)).alloc (.cells #[.string s] 9)
  have t4 := Boxed.new (w2.alloc (.cells #[.slice bs (Sg.words s).length cap] 34)) 9 (.string s)
  have b4 := (b2.alloc b2.size (.cells #[.slice bs (Sg.words s).length cap] 34)).alloc (by omega) (.cells #[.string s] 9)
  have hrow4 : ∀ (i : Nat) (hi : i < (Sg.words s).length), ∃ g cur fz, bs = some ⟨g, 0, none⟩ ∧ ((w2.alloc (.cells #[.slice bs (Sg.words s).length cap] 34)).alloc (.cells #[.string s] 9)).heap[g]? = some (.cells cur 36 fz) ∧ g < M ∧ cur[i * 2]? = some (.int .i64 ((Sg.words s)[i]'hi).1) ∧ cur[i * 2 + 1]? = some (.int .i64 ((Sg.words s)[i]'hi).2) := fun i hi => by
    obtain ⟨g, cur, fz, e1, e2, e3, e4⟩ := hrow i hi
    have hg : g < w2.heap.size := (Array.getElem?_eq_some_iff.1 e2).1
    exact ⟨g, cur, fz, e1, (Below.heap_alloc _ _ _ (by simp; omega)).trans ((Below.heap_alloc _ _ _ hg).trans e2), by omega, e3, e4⟩
  rw [z3] at t4 ⊢
  rw [← hM] at t3 z2 ⊢
  clear hrow r1 r2 b2 z3 hM
  generalize (w2.alloc (.cells #[.slice bs (Sg.words s).length cap] 34)).alloc (.cells #[.string s] 9) = w3 at *
  gi_wp2_with fail
  have k1 := (t1.alloc (.cells #[.func (.func 29) #[] #[.pointer (some ⟨M + 1, 0, none⟩)]] 29))
  have k2 := (t2.alloc (.cells #[.func (.func 29) #[] #[.pointer (some ⟨M + 1, 0, none⟩)]] 29))
  have k3 := (t3.alloc (.cells #[.func (.func 29) #[] #[.pointer (some ⟨M + 1, 0, none⟩)]] 29))
  have k4 := (t4.alloc (.cells #[.func (.func 29) #[] #[.pointer (some ⟨M + 1, 0, none⟩)]] 29))
  have k5 := Boxed.new w3 29 (.func (.func 29) #[] #[.pointer (some ⟨M + 1, 0, none⟩)])
  have b5 := b4.alloc (by omega) (.cells #[.func (.func 29) #[] #[.pointer (some ⟨M + 1, 0, none⟩)]] 29)
  have z5 : (w3.alloc (.cells #[.func (.func 29) #[] #[.pointer (some ⟨M + 1, 0, none⟩)]] 29)).heap.size = M + 3 := by simp [z4]
  have hrow5 : ∀ (i : Nat) (hi : i < (Sg.words s).length), ∃ g cur fz, bs = some ⟨g, 0, none⟩ ∧ (w3.alloc (.cells #[.func (.func 29) #[] #[.pointer (some ⟨M + 1, 0, none⟩)]] 29)).heap[g]? = some (.cells cur 36 fz) ∧ g < M ∧ cur[i * 2]? = some (.int .i64 ((Sg.words s)[i]'hi).1) ∧ cur[i * 2 + 1]? = some (.int .i64 ((Sg.words s)[i]'hi).2) := fun i hi => by
    obtain ⟨g, cur, fz, e1, e2, e3, e4⟩ := hrow4 i hi
    exact ⟨g, cur, fz, e1, (Below.heap_alloc _ _ _ (by omega)).trans e2, e3, e4⟩
  rw [z4] at k5
  clear t1 t2 t3 t4 b4 z4 hrow4
  generalize w3.alloc (.cells #[.func (.func 29) #[] #[.pointer (some ⟨M + 1, 0, none⟩)]] 29) = wL at *
  refine Sg.two_turns (fun τ a W => ∃ (Bt : Nat) (Ds : List Nat) (u9 u24 u25 u26 u27 u28 u65 u66 u67 u68 u69 u70 u71 u72 u73 : Value), a = { tmps := #[Value.string s, Value.int .i64 stop, undef, Value.pointer (some ⟨w.heap.size, 0, none⟩), Value.pointer (some ⟨w.heap.size + 1, 0, none⟩), Value.bool true, Value.pointer (some ⟨M, 0, none⟩), Value.pointer (some ⟨M + 2, 0, none⟩), Value.pointer (some ⟨Bt, 0, none⟩), u9, undef, undef, undef, Value.bool true, Value.string s, Value.slice bs (Sg.words s).length cap, Value.string s, Value.func (Fn.func 29) #[] #[Value.pointer (some ⟨M + 1, 0, none⟩)], Value.bool true, Value.bool false, Value.bool false, Value.func (Fn.func 29) #[] #[Value.pointer (some ⟨M + 1, 0, none⟩)], Value.bool false, Value.bool false, u24, u25, u26, u27, u28, undef, undef, undef, undef, undef, undef, undef, undef, undef, undef, undef, undef, undef, undef, undef, undef, undef, undef, undef, undef, undef, undef, undef, undef, undef, undef, undef, undef, undef, undef, undef, undef, undef, undef, undef, undef, u65, u66, u67, u68, u69, u70, u71, u72, u73], defers := Ds.map fun D => { target := .collected D, args := #[] } } ∧ Below (M + 3) wL W ∧ M + 3 ≤ Bt ∧ Boxed W Bt 3 (.int .i64 (τ : Int)) ∧ Ds.Nodup ∧ (∀ D ∈ Ds, M + 3 ≤ D ∧ W.heap[D]? = some (.deferred (some [])))) ?start ?turn ?fin
  case start => exact ⟨M + 3, [], undef, undef, undef, undef, undef, undef, undef, undef, undef, undef, undef, undef, undef, undef, undef, rfl, (Below.refl _ _).alloc (by omega) _, Nat.le_refl _, by have := Boxed.new wL 3 (.int .i64 0); rw [z5] at this; exact this, List.nodup_nil, fun D h => by cases h⟩
  case turn =>
    rintro τ a W hτ ⟨Bt, Ds, u9, u24, u25, u26, u27, u28, u65, u66, u67, u68, u69, u70, u71, u72, u73, rfl, hB, hBt, htn, hnd, hds⟩
    obtain ⟨ti, hti⟩ : ∃ ti : Int, ti = (τ : Int) := ⟨_, rfl⟩
    rw [← hti] at htn
    have j1 : ti < 2 := by omega
    have Hti : Hid _ := hti
    clear hti
    have c8 := htn.cell
    have hbt := htn.lt
    have g1 : Boxed W (M + 2) 29 (.func (.func 29) #[] #[.pointer (some ⟨M + 1, 0, none⟩)]) := (hB.block _ (by omega)).trans k5
    have g2 : Boxed W (M + 1) 9 (.string s) := (hB.block _ (by omega)).trans k4
    have c7 := g1.cell
    obtain ⟨Bn, hBn⟩ : ∃ Bn, Bn = W.heap.size := ⟨_, rfl⟩
    have n1 := Boxed.new W 3 (.int .i64 0)
    have n2 := htn.alloc (.cells #[.int .i64 0] 3)
    have n3 := g1.alloc (.cells #[.int .i64 0] 3)
    have n4 := g2.alloc (.cells #[.int .i64 0] 3)
    have n5 := hB.alloc (by have := g1.lt; omega) (.cells #[.int .i64 0] 3)
    have n6 : (W.alloc (.cells #[.int .i64 0] 3)).heap.size = Bn + 1 := by simp [hBn]
    have n7 : ∀ D ∈ Ds, M + 3 ≤ D ∧ (W.alloc (.cells #[.int .i64 0] 3)).heap[D]? = some (.deferred (some [])) := fun D hD => ⟨(hds D hD).1, (Below.heap_alloc _ _ _ (Array.getElem?_eq_some_iff.1 (hds D hD).2).1).trans (hds D hD).2⟩
    have hM3 : M + 3 ≤ Bn := by rw [hBn]; exact g1.lt
    have c7' := n3.cell
    gi_wp2_with fail
    rw [← hBn] at n1 hbt ⊢
    clear htn g1 g2 c7 hds hB c8 c7'
    clear hBn
    generalize W.alloc (.cells #[.int .i64 0] 3) = wS at *
    have hown : OwnFrom wS.heap.size (fun (pre : List (Nat × Nat)) X => (Below (M + 3) wL X ∧ Boxed X Bt 3 (.int .i64 ti)) ∧ Boxed X Bn 3 (.int .i64 (pre.length : Int)) ∧ KeepsOthers wS X) :=
      OwnFrom.and (OwnFrom.and (ownFrom_below (by omega) (by omega)) ((boxed_own Bt 3 (fun (_ : List (Nat × Nat)) => .int .i64 ti)).from _)) (OwnFrom.and ((boxed_own Bn 3 (fun (pre : List (Nat × Nat)) => .int .i64 (pre.length : Int))).from _) (Sg.own_others (Nat.le_refl _)))
    have fin2 : ∀ (D : Nat) (X : World) (v : Int), wS.heap.size ≤ D → Below (M + 3) wL X → KeepsOthers wS X → X.heap[D]? = some (.deferred (some [])) → v = ((τ + 1 : Nat) : Int) → Below (M + 3) wL (X.alloc (.cells #[.int .i64 v] 3)) ∧ M + 3 ≤ X.heap.size ∧ Boxed (X.alloc (.cells #[.int .i64 v] 3)) X.heap.size 3 (.int .i64 ((τ + 1 : Nat) : Int)) ∧ (D :: Ds).Nodup ∧ ∀ D' ∈ D :: Ds, M + 3 ≤ D' ∧ (X.alloc (.cells #[.int .i64 v] 3)).heap[D']? = some (.deferred (some [])) := fun D X v h1 h2 h3 h4 h5 => by
      have hX : M + 3 ≤ X.heap.size := by have := h3.size; omega
      refine ⟨h2.alloc hX _, hX, by rw [← h5]; exact Boxed.new X _ _, List.nodup_cons.2 ⟨fun hm => ?_, hnd⟩, fun D' hD' => ?_⟩
      · have := (Array.getElem?_eq_some_iff.1 (n7 D hm).2).1
        omega
      · rcases List.mem_cons.1 hD' with rfl | hm
        · exact ⟨by omega, (Below.heap_alloc _ _ _ (Array.getElem?_eq_some_iff.1 h4).1).trans h4⟩
        · have h6 := h3.same D' _ (n7 D' hm).2 rfl
          exact ⟨(n7 D' hm).1, (Below.heap_alloc _ _ _ (Array.getElem?_eq_some_iff.1 h6).1).trans h6⟩
    have Fin2 : Hid _ := fin2
    clear fin2
    refine wpIn_rangeFunc_ownH rfl h1 (gf := 29) (lb := #[.pointer (some ⟨M + 1, 0, none⟩)]) rfl trivial (enters_of Tryd.func29 (by kernel_rfl) rfl)
      (Tryd.words_stops (n - 1) (by omega) (M + 1) (M + 2) s (by unfold maxLen; omega) _ (by omega) (by omega) n4.cell) Sg.Kp_t (Sg.Kp_b (by omega)) (Below.refl _ _) (fun _ => rfl)
      (fun pre X => (Below (M + 3) wL X ∧ Boxed X Bt 3 (.int .i64 ti)) ∧ Boxed X Bn 3 (.int .i64 (pre.length : Int)) ∧ KeepsOthers wS X)
      (fun c pre X => (c = .ret ∧ ¬ pre <+: Sg.words s) ∨ (c = .exit 2 ∧ τ = 0 ∧ (Below (M + 3) wL X ∧ Boxed X Bt 3 (.int .i64 ti)) ∧ Boxed X Bn 3 (.int .i64 (pre.length : Int)) ∧ KeepsOthers wS X))
      hown ?ownx ⟨⟨n5, n2⟩, n1, KeepsOthers.refl _⟩
      (fun x a' _ => a' = { tmps := #[Value.string s, Value.int .i64 stop, undef, Value.pointer (some ⟨w.heap.size, 0, none⟩), Value.pointer (some ⟨w.heap.size + 1, 0, none⟩), Value.bool true, Value.pointer (some ⟨M, 0, none⟩), Value.pointer (some ⟨M + 2, 0, none⟩), Value.pointer (some ⟨Bt, 0, none⟩), Value.pointer (some ⟨Bn, 0, none⟩), Value.int .i64 (x.1 : Int), Value.int .i64 (x.2 : Int), undef, Value.bool true, Value.string s, Value.slice bs (Sg.words s).length cap, Value.string s, Value.func (Fn.func 29) #[] #[Value.pointer (some ⟨M + 1, 0, none⟩)], Value.bool true, Value.bool false, Value.bool false, Value.func (Fn.func 29) #[] #[Value.pointer (some ⟨M + 1, 0, none⟩)], Value.bool false, Value.bool false, Value.int .i64 ti, Value.bool true, u26, u27, Value.func (Fn.func 29) #[] #[Value.pointer (some ⟨M + 1, 0, none⟩)], Value.int .i64 (x.1 : Int), Value.int .i64 (x.2 : Int), undef, undef, undef, undef, undef, undef, undef, undef, undef, undef, undef, undef, undef, undef, undef, undef, undef, undef, undef, undef, undef, undef, undef, undef, undef, undef, undef, undef, undef, undef, undef, undef, undef, undef, u65, u66, u67, u68, u69, u70, u71, u72, u73], defers := [] }) (fun _ _ _ _ _ _ hs _ _ => hs) ?assign ?body ?done ?stop
    case ownx => exact fun c pre X Y row h hg hr => h.elim (fun h => .inl h) (fun h => .inr ⟨h.1, h.2.1, hown pre X Y row h.2.2 hg hr⟩)
    case assign =>
      intro l pre x X K hi hK
      dsimp only [Sg.enc]
      gi_wp2
      exact hK _ _ (KeepsFrom.refl _ _) ⟨Below.refl _ _, (KeepsOthers.refl _).walks⟩ hi rfl
    case body =>
      rintro l pre x _ X hl ⟨rec, hrec⟩ ⟨⟨x1, x2⟩, x3, x4⟩ rfl hlt
      obtain ⟨g, cur, fz, rfl, hg, hgM, e1, e2⟩ := hrow5 pre.length hlt
      have hgX : X.heap[g]? = some (.cells cur 36 fz) := (x1.block g (by omega)).trans hg
      have d1 := cell_of_row X g (pre.length * 2) _ _ _ hgX
      have d2 := cell_of_row X g (pre.length * 2 + 1) _ _ _ hgX
      rw [e1] at d1
      rw [e2] at d2
      have d3 : X.cell? ⟨M, 0, none⟩ = some (.slice (some ⟨g, 0, none⟩) (Sg.words s).length cap) := (x1.cell (p := ⟨M, 0, none⟩) (by show M < M + 3; omega)).trans k3.cell
      have d4 := x3.cell
      have d5 := x3.frozen
      have j2 : ¬ ((Sg.words s).length : Int) ≤ (pre.length : Int) := by omega
      have j3 : (pre.length : Int) < ((Sg.words s).length : Int) := by omega
      have j4 : (0 : Int) ≤ (pre.length : Int) := by omega
      have hno : x ≠ (Sg.words s)[pre.length]'hlt → ¬ pre ++ [x] <+: Sg.words s := fun hx hp => hx (by
        have := List.IsPrefix.getElem hp (i := pre.length) (by simp)
        rw [← this]
        simp)
      have Hno : Hid _ := hno
      have c4 : Boxed X (w.heap.size + 1) 4 (.bool false) := (x1.block _ (by omega)).trans k2
      have d6 := c4.cell
      have d7 := c4.frozen
      clear hno e1 e2 hrow5 hnil
      by_cases hx : x = (Sg.words s)[pre.length]'hlt
      · rw [← hx] at d1 d2
        clear Hno
        have q1 : (Op.equalIn 10000 36 (.agg #[.int .i64 (x.1 : Int), .int .i64 (x.2 : Int)]) (.agg #[.int .i64 (x.1 : Int), .int .i64 (x.2 : Int)])).run Tryd.prog X = .ok true X := by rw [Tryd.eqPair]; simp
        clear hx
        have hL := Sg.words_len s
        have j5 : (pre.length : Int) + 1 ≤ 1048577 := by omega
        have y1 : Below (M + 3) wL (X.setCell ⟨Bn, 0, none⟩ (.int .i64 ((pre.length : Int) + 1))) := x1.setCell (p := ⟨Bn, 0, none⟩) hM3 _
        have y2 := x2.other (B' := Bn) (by omega) (.int .i64 ((pre.length : Int) + 1))
        have y3 := x3.set (.int .i64 ((pre.length : Int) + 1))
        have y4 := KeepsOthers.setCell X ⟨Bn, 0, none⟩ (.int .i64 ((pre.length : Int) + 1))
        have y5 : (X.setCell ⟨Bn, 0, none⟩ (.int .i64 ((pre.length : Int) + 1))).heap.size = X.heap.size := by simp [World.setCell]
        have y6 : Boxed (X.setCell ⟨Bn, 0, none⟩ (.int .i64 ((pre.length : Int) + 1))) (M + 2) 29 (.func (.func 29) #[] #[.pointer (some ⟨M + 1, 0, none⟩)]) := (y1.block _ (by omega)).trans k5
        have y7 : Boxed (X.setCell ⟨Bn, 0, none⟩ (.int .i64 ((pre.length : Int) + 1))) w.heap.size 3 (.int .i64 stop) := (y1.block _ (by omega)).trans k1
        have hxB : Bn < X.heap.size := x3.lt
        have fin : ∀ Y, Below (M + 3) wL Y → Boxed Y Bt 3 (.int .i64 ti) → Boxed Y Bn 3 (.int .i64 ((pre.length : Int) + 1)) → KeepsOthers X Y → KeepsFrom wS.heap.size X Y ∧ Sg.Kp (M + 2) X Y ∧ (Below (M + 3) wL Y ∧ Boxed Y Bt 3 (.int .i64 ti)) ∧ Boxed Y Bn 3 (.int .i64 ((pre ++ [x]).length : Int)) ∧ KeepsOthers wS Y := fun Y f1 f2 f3 f4 =>
          ⟨f4.from _, ⟨(Sg.below_two x1 f1 f4.size).mono (by omega), f4.walks⟩, ⟨f1, f2⟩, by rw [List.length_append]; exact f3, x4.trans f4⟩
        have Fin : Hid _ := fin
        clear fin
        by_cases h40 : (pre.length : Int) + 1 ≤ 40
        · have v1 := y1.alloc (by omega) (.cells #[.int .i64 0] 3)
          have v2 := y2.alloc (.cells #[.int .i64 0] 3)
          have v3 := y3.alloc (.cells #[.int .i64 0] 3)
          have v4 := y4.trans (KeepsOthers.alloc _ (.cells #[.int .i64 0] 3))
          have v6 := y6.alloc (.cells #[.int .i64 0] 3)
          have v8 := Boxed.new (X.setCell ⟨Bn, 0, none⟩ (.int .i64 ((pre.length : Int) + 1))) 3 (.int .i64 0)
          have v9 : ((X.setCell ⟨Bn, 0, none⟩ (.int .i64 ((pre.length : Int) + 1))).alloc (.cells #[.int .i64 0] 3)).heap.size = X.heap.size + 1 := by simp [y5]
          rw [y5] at v8
          have c6 := v6.cell
          gi_wp2_with fail
          clear y1 y2 y3 y4 y5 y6 y7 d1 d2 d4 d5 d6 d7 c4 q1
          generalize (X.setCell ⟨Bn, 0, none⟩ (.int .i64 ((pre.length : Int) + 1))).alloc (.cells #[.int .i64 0] 3) = X2 at *
          have hlp := v4.same l _ hrec rfl
          have v10 : Boxed X2 (M + 1) 9 (.string s) := (v1.block _ (by omega)).trans k4
          refine wpIn_rangeFunc_ownN rfl hlp (by omega) (gf := 29) (lb := #[.pointer (some ⟨M + 1, 0, none⟩)]) rfl trivial (enters_of Tryd.func29 (by kernel_rfl) rfl)
            ((Tryd.words_stops (n - 1 - 1 - 1) (by omega) (M + 1) (M + 2) s (by unfold maxLen; omega) X2 (by omega) (by omega) v10.cell).inRound l) Sg.Kp_t (Sg.Kp_b (by omega)) (Below.refl _ _) (fun _ => rfl)
            (fun pre' Y => (Below (M + 3) wL Y ∧ Boxed Y Bt 3 (.int .i64 ti)) ∧ (Boxed Y Bn 3 (.int .i64 ((pre.length : Int) + 1)) ∧ Boxed Y X.heap.size 3 (.int .i64 (pre'.length : Int))) ∧ KeepsOthers X2 Y)
            (fun _ _ _ => False)
            (OwnFrom.and (OwnFrom.and (ownFrom_below (by omega) (by omega)) ((boxed_own Bt 3 (fun (_ : List (Nat × Nat)) => .int .i64 ti)).from _)) (OwnFrom.and (OwnFrom.and ((boxed_own Bn 3 (fun (_ : List (Nat × Nat)) => .int .i64 ((pre.length : Int) + 1))).from _) ((boxed_own X.heap.size 3 (fun (q : List (Nat × Nat)) => .int .i64 (q.length : Int))).from _)) (Sg.own_others (Nat.le_refl _))))
            (fun _ _ _ _ _ hs _ _ => hs) ⟨⟨v1, v2⟩, ⟨v3, v8⟩, KeepsOthers.refl _⟩
            (fun y a' _ => a' = { tmps := #[Value.string s, Value.int .i64 stop, undef, Value.pointer (some ⟨w.heap.size, 0, none⟩), Value.pointer (some ⟨w.heap.size + 1, 0, none⟩), Value.bool true, Value.pointer (some ⟨M, 0, none⟩), Value.pointer (some ⟨M + 2, 0, none⟩), Value.pointer (some ⟨Bt, 0, none⟩), Value.pointer (some ⟨Bn, 0, none⟩), Value.int .i64 (x.1 : Int), Value.int .i64 (x.2 : Int), Value.pointer (some ⟨X.heap.size, 0, none⟩), Value.bool true, Value.string s, Value.slice (some ⟨g, 0, none⟩) (Sg.words s).length cap, Value.string s, Value.func (Fn.func 29) #[] #[Value.pointer (some ⟨M + 1, 0, none⟩)], Value.bool true, Value.bool false, Value.bool false, Value.func (Fn.func 29) #[] #[Value.pointer (some ⟨M + 1, 0, none⟩)], Value.bool false, Value.bool false, Value.int .i64 ti, Value.bool true, u26, u27, Value.func (Fn.func 29) #[] #[Value.pointer (some ⟨M + 1, 0, none⟩)], Value.int .i64 (x.1 : Int), Value.int .i64 (x.2 : Int), Value.int .i64 (pre.length : Int), Value.slice (some ⟨g, 0, none⟩) (Sg.words s).length cap, Value.int .i64 ((Sg.words s).length : Int), Value.bool false, Value.bool false, Value.slice (some ⟨g, 0, none⟩) (Sg.words s).length cap, Value.int .i64 (pre.length : Int), Value.pointer (some ⟨g, pre.length * 2, none⟩), Value.agg #[Value.int .i64 (x.1 : Int), Value.int .i64 (x.2 : Int)], Value.int .i64 (x.1 : Int), Value.int .i64 (x.2 : Int), Value.agg #[Value.int .i64 (x.1 : Int), Value.int .i64 (x.2 : Int)], Value.bool false, Value.bool false, Value.int .i64 (pre.length : Int), Value.int .i64 ((pre.length : Int) + 1), Value.int .i64 ((pre.length : Int) + 1), Value.bool true, Value.func (Fn.func 29) #[] #[Value.pointer (some ⟨M + 1, 0, none⟩)], Value.int .i64 (y.1 : Int), Value.int .i64 (y.2 : Int), undef, undef, undef, undef, undef, undef, undef, undef, undef, undef, undef, undef, undef, u65, u66, u67, u68, u69, u70, u71, u72, u73], defers := [] }) (fun _ _ _ _ _ _ hs _ _ => hs) ?assign2 ?body2 ?done2 ?stop2
          case assign2 =>
            intro l2 pre2 y Y K hi hK
            dsimp only [Sg.enc]
            gi_wp2
            exact hK _ _ (KeepsFrom.refl _ _) ⟨Below.refl _ _, (KeepsOthers.refl _).walks⟩ hi rfl
          case body2 =>
            rintro l2 pre2 y _ Y hl2 _ ⟨⟨p1, p2⟩, ⟨p3, p5⟩, p4⟩ rfl hlt2
            have m1 := p5.cell
            have m2 := p5.frozen
            have m3 : (pre2.length : Int) + 1 ≤ 1048577 := by omega
            gi_wp2
            have q4 := KeepsOthers.setCell Y ⟨X.heap.size, 0, none⟩ (.int .i64 ((pre2.length : Int) + 1))
            exact ⟨q4.from _, ⟨(Below.refl _ _).setCell (p := ⟨X.heap.size, 0, none⟩) (by show M + 2 ≤ X.heap.size; omega) _, q4.walks⟩, ⟨p1.setCell (p := ⟨X.heap.size, 0, none⟩) (by show M + 3 ≤ X.heap.size; omega) _, p2.other (by omega) _⟩, ⟨p3.other (by omega) _, by rw [List.length_append]; exact p5.set _⟩, p4.trans q4⟩
          case done2 =>
            rintro ys Y rfl ⟨⟨p1, p2⟩, ⟨p3, p5⟩, p4⟩
            have f1 := Fin.out Y p1 p2 p3 (v4.trans p4)
            have a1 : Y.cell? ⟨M, 0, none⟩ = some (.slice (some ⟨g, 0, none⟩) (Sg.words s).length cap) := (p1.cell (p := ⟨M, 0, none⟩) (by show M < M + 3; omega)).trans k3.cell
            have a2 := p5.cell
            have a3 := p2.cell
            have a4 := p3.cell
            have a5 : Y.cell? ⟨w.heap.size, 0, none⟩ = some (.int .i64 stop) := (p1.cell (p := ⟨w.heap.size, 0, none⟩) (by show w.heap.size < M + 3; omega)).trans k1.cell
            clear Fin v1 v2 v3 v4 v6 v8 v9 v10 c6 p1 p2 p3 p4 p5
            by_cases ht0 : τ = 0
            · obtain rfl : ti = 0 := by rw [Hti.out]; omega
              have Ht0 : Hid _ := ht0
              clear ht0
              by_cases hst : (pre.length : Int) + 1 = stop
              · subst hst
                gi_wp2_with fail
                exact ⟨f1.1, .inr ⟨rfl, Ht0.out, f1.2.2⟩⟩
              · have m4 : ((pre.length : Int) + 1 == stop) = false := beq_eq_false_iff_ne.2 hst
                gi_wp2_with fail
                exact f1
            · have m5 : (ti == 0) = false := beq_eq_false_iff_ne.2 (by rw [Hti.out]; omega)
              gi_wp2_with fail
              exact f1
          case stop2 =>
            rintro c2 pre2 Y _ h
            exact h.elim
        · have f1 := Fin.out _ y1 y2 y3 y4
          rw [n6] at f1
          have a3 := y2.cell
          have a4 := y3.cell
          have a5 := y7.cell
          clear Fin y1 y2 y3 y4 y6 y7
          by_cases ht0 : τ = 0
          · obtain rfl : ti = 0 := by rw [Hti.out]; omega
            have Ht0 : Hid _ := ht0
            clear ht0
            by_cases hst : (pre.length : Int) + 1 = stop
            · subst hst
              gi_wp2_with fail
              exact ⟨f1.1, .inr ⟨rfl, Ht0.out, f1.2.2⟩⟩
            · have m4 : ((pre.length : Int) + 1 == stop) = false := beq_eq_false_iff_ne.2 hst
              gi_wp2_with fail
              exact f1
          · have m5 : (ti == 0) = false := beq_eq_false_iff_ne.2 (by rw [Hti.out]; omega)
            gi_wp2_with fail
            exact f1
      · have Hx := Hno.out hx
        generalize hy : (Sg.words s)[pre.length]'hlt = y at *
        have q1 : (Op.equalIn 10000 36 (.agg #[.int .i64 (y.1 : Int), .int .i64 (y.2 : Int)]) (.agg #[.int .i64 (x.1 : Int), .int .i64 (x.2 : Int)])).run Tryd.prog X = .ok false X := by
          rw [Tryd.eqPair]
          congr 1
          apply Bool.eq_false_iff.2
          intro h
          simp only [Bool.and_eq_true, beq_iff_eq] at h
          exact hx (Prod.ext (by omega) (by omega))
        clear Hno hy hx
        gi_wp2_with fail
        exact ⟨(KeepsOthers.setCell _ _ _).from _, .inl ⟨rfl, Hx⟩⟩
    case done =>
      rintro D ys X hD rfl ⟨⟨x1, x2⟩, x3, x4⟩ hK
      have a1 : X.cell? ⟨M, 0, none⟩ = some (.slice bs (Sg.words s).length cap) := (x1.cell (p := ⟨M, 0, none⟩) (by show M < M + 3; omega)).trans k3.cell
      have a2 := x2.cell
      have a3 := x3.cell
      have hL := Sg.words_len s
      have j5 : ti + 1 < 4 := by omega
      by_cases ht0 : τ = 0
      · obtain rfl : ti = 0 := by rw [Hti.out]; omega
        have f1 := Fin2.out D X 1 hD x1 x4 hK (by omega)
        have F1 : Hid _ := f1
        clear f1 ht0 Fin2
        gi_wp2_with fail
        exact ⟨X.heap.size, D :: Ds, _, _, _, _, _, _, _, _, _, _, _, _, _, _, _, rfl, F1.out⟩
      · obtain rfl : ti = 1 := by rw [Hti.out]; omega
        have f1 := Fin2.out D X 2 hD x1 x4 hK (by omega)
        have F1 : Hid _ := f1
        clear f1 ht0 Fin2
        gi_wp2_with fail
        exact ⟨X.heap.size, D :: Ds, _, _, _, _, _, _, _, _, _, _, _, _, _, _, _, rfl, F1.out⟩
    case stop =>
      rintro D c pre X hD hp h hK
      rcases h with ⟨_, h⟩ | ⟨rfl, ht0, ⟨x1, x2⟩, x3, x4⟩
      · exact absurd hp h
      · obtain rfl : ti = 0 := by rw [Hti.out]; omega
        have f1 := Fin2.out D X 1 hD x1 x4 hK (by omega)
        have F1 : Hid _ := f1
        have a2 := x2.cell
        clear f1 ht0 Fin2
        gi_wp2_with fail
        exact ⟨X.heap.size, D :: Ds, _, _, _, _, _, _, _, _, _, _, _, _, _, _, _, rfl, F1.out⟩
  case fin =>
    rintro a W ⟨Bt, Ds, u9, u24, u25, u26, u27, u28, u65, u66, u67, u68, u69, u70, u71, u72, u73, rfl, hB, hBt, htn, hnd, hds⟩
    have c8 : W.cell? ⟨Bt, 0, none⟩ = some (.int .i64 2) := htn.cell
    have g4 : Boxed W (w.heap.size + 1) 4 (.bool false) := (hB.block _ (by omega)).trans k2
    have c4 := g4.cell
    have f4 := g4.frozen
    have g5 := (g4.set (.bool true)).cell
    have g6 : Below w.heap.size w (W.setCell ⟨w.heap.size + 1, 0, none⟩ (.bool true)) := (b5.trans (hB.mono (by omega))).setCell (p := ⟨w.heap.size + 1, 0, none⟩) (by show w.heap.size ≤ w.heap.size + 1; omega) _
    have g7 : ∀ D ∈ Ds, M + 3 ≤ D ∧ (W.setCell ⟨w.heap.size + 1, 0, none⟩ (.bool true)).heap[D]? = some (.deferred (some [])) := fun D hD => ⟨(hds D hD).1, (Below.heap_setCell _ _ _ _ (by show D ≠ w.heap.size + 1; have := (hds D hD).1; omega)).trans (hds D hD).2⟩
    clear htn hds hnil
    gi_wp2_with fail
    refine Sg.leave_all (B := M + 3) Ds _ hnd g7 (fun W' hW' => ?_)
    exact ⟨.bool true, Sg.results_bool rfl Tryd.underlying4 _ _ _ _ rfl ((hW'.cell (p := ⟨w.heap.size + 1, 0, none⟩) (by show w.heap.size + 1 < M + 3; omega)).trans g5), rfl, g6.trans (hW'.mono (by omega))⟩
theorem Tryd.signWordsWalk (s : ByteArray) (hs : s.size ≤ 1048576) (stop : Int) (_h : -9223372036854775808 ≤ stop ∧ stop ≤ 9223372036854775807) (w : World) (hT : Tryd.Tabs w) :
    Calls Tryd.prog 7 #[.string s, .int .i64 stop] w fun e w' => e = .returned (.bool true) ∧ Below w.heap.size w w' :=
  (callsIn_wide (n := 5)).1 (Tryd.wordsLaw_in 5 (Nat.le_refl _) s hs stop w hT)
end Go.Proofs
