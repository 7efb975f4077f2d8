/-
  Ranges over what All gave, one behind another: what goes with them.
-/
import Derived.Test.YtfchhiphjebkfaaQm
namespace Go.Qu
open Go.RowKit Go.Wi Go.Proofs Lean Elab Tactic Meta
/-- No panic. -/
@[reducible] def NP (Q : Exit → Act → World → Prop) : Exit → Act → World → Prop
  | .panic _, _, _ => False
  | e, a, w => Q e a w
theorem np {F : Fence} {rm : Nat} {P : Program} {s : Code} {K : Act → World → Prop} {Q : Exit → Act → World → Prop} {i : Nat} {a : Act} {w : World} (h : s.wpIn F rm P (Exit.inBlock i (Exit.then K (NP Q))) a w) : s.wpIn F rm P (Exit.inBlock i (Exit.then K Q)) a w := by
  refine wpIn_mono h ?_
  intro e a' w' hq
  cases e with
  | normal => exact hq
  | exit id =>
    simp only [Exit.inBlock] at hq ⊢
    split at hq <;> simp_all [Exit.then]
  | goto l => exact hq
  | ret => exact hq
  | panic ch => exact hq.elim
  | outgrown => exact hq
theorem np0 {F : Fence} {rm : Nat} {P : Program} {s : Code} {K : Act → World → Prop} {Q : Exit → Act → World → Prop} {a : Act} {w : World} (h : s.wpIn F rm P (Exit.then K (NP Q)) a w) : s.wpIn F rm P (Exit.then K Q) a w := by
  refine wpIn_mono h ?_
  intro e a' w' hq
  cases e with
  | normal => exact hq
  | exit id => exact hq
  | goto l => exact hq
  | ret => exact hq
  | panic ch => exact hq.elim
  | outgrown => exact hq
/-- All that follows a range, once. -/
theorem cutD {F : Fence} {rm : Nat} {P : Program} {s : Code} {K : Act → World → Prop} {Q : Exit → Act → World → Prop} {i : Nat} {a : Act} {w : World} (rel : Nat → World → Prop)
    (first : s.wpIn F rm P (Exit.inBlock i (Exit.then (fun a' w' => ∃ D, a' = { a with defers := { target := .collected D, args := #[] } :: a.defers } ∧ rel D w') Q)) a w)
    (rest : ∀ D w', rel D w' → K { a with defers := { target := .collected D, args := #[] } :: a.defers } w') : s.wpIn F rm P (Exit.inBlock i (Exit.then K Q)) a w := by
  refine wpIn_mono first ?_
  intro e a' w' hq
  cases e with
  | normal =>
    obtain ⟨D, rfl, h⟩ := hq
    exact rest D w' h
  | exit id =>
    simp only [Exit.inBlock] at hq ⊢
    split at hq
    · rename_i he
      simp only [he, if_true]
      obtain ⟨D, rfl, h⟩ := hq
      exact rest D w' h
    · rename_i he
      simp only [he, if_false]
      exact hq
  | goto l => exact hq
  | ret => exact hq
  | panic ch => exact hq
  | outgrown => exact hq
theorem boxed_low {w w' : World} {B : Nat} {t : TypeId} {v : Value} (h : Boxed w B t v) (g : Below w.heap.size w w') : Boxed w' B t v := (g.block B h.lt).trans h
theorem boxed_wo {w w' : World} {own : Nat → Prop} {B : Nat} {t : TypeId} {v : Value} (h : Boxed w B t v) (g : Wo own w w') (hn : ¬ own B) : Boxed w' B t v := (g.block B h.lt hn).trans h
theorem wo_own {β : Type} {own : Nat → Prop} {w0 : World} {B : Nat} (hB : w0.heap.size ≤ B) : OwnFrom B (fun (_ : β) X => Wo own w0 X) := fun _ _ _ _ hs hg hr =>
  hs.grown hg (fun k e => .inr (Nat.le_trans hB (hr k e).1))
theorem run_store_fn {P : Program} {w : World} {a : Addr} {m : Mode} (f : Fn) (x y : Array Value) : (store a (.func f x y) m).run P w = stored P w a (.func f x y) m := run_store P w a _ m rfl
/-- The frame's slots, some of them put by what came. -/
elab "gi_frame " nm:ident "[" ns:num,* "]" v:term:max : tactic => withMainContext do
  let t := (← instantiateMVars (← getMainTarget)).consumeMData
  unless t.isAppOfArity ``Code.wpIn 7 do throwError "gi_frame: the goal is no Code.wpIn"
  let act ← whnfR t.getAppArgs[5]!
  unless act.isAppOfArity ``Act.mk 2 do throwError "gi_frame: the frame is not written out"
  let arr := act.getArg! 0
  let some elems := listElems (arr.getArg! 1) | throwError "gi_frame: the temporaries are not written out"
  let slots := ns.getElems.toList.map (·.getNat)
  let intTy := mkConst ``Int
  let value := mkConst ``Go.Value
  let vE ← Tactic.elabTermEnsuringType v (← mkArrow intTy value)
  let fr ← withLocalDeclD `y intTy fun y => do
    let elems' := (List.range elems.length).map fun n => if slots.contains n then (mkApp vE y).headBeta else elems[n]!
    let act' := mkApp2 (mkConst ``Act.mk) (← mkAppM ``List.toArray #[← mkListLit value elems']) (← mkAppOptM ``List.nil #[some (mkConst ``Go.Deferred)])
    mkLambdaFVars #[y] act'
  let m ← mkFreshExprMVar (← mkArrow intTy (mkConst ``Go.Act)) .natural nm.getId
  m.mvarId!.assign fr
end Go.Qu
namespace Go.Proofs
open Go.RowKit Go.Wi Go.Qu
theorem Qu.leaveAll {F : Fence} {n : Nat} {P : Program} {fn : Func} {tmps : Array Value} {R : Ending → World → Prop} {B : Nat} : ∀ (Ds : List Nat) (W : World), Ds.Nodup → (∀ D ∈ Ds, B ≤ D ∧ W.heap[D]? = some (.deferred (some []))) → (∀ W', Below B W W' → LeavesIn F n P fn tmps R [] .returning W') →
    LeavesInM F n P fn tmps R (Ds.map fun D => { target := .collected D, args := #[] }) .returning W
  | [], W, _, _, h => h W (Below.refl _ _)
  | D :: Ds, W, hn, hd, h => by
    have h1 := hd D (List.mem_cons_self)
    have hn' := List.nodup_cons.1 hn
    have hb : Below B W (W.putObj D (.deferred none)) := (Below.refl B W).grown (grownBy_putObj' W D _) (by have := (Array.getElem?_eq_some_iff.1 h1.2).1; omega) (fun k e => by cases e; exact h1.1)
    refine ⟨by simp, .inl ⟨D, _, rfl, run_takeDeferred h1.2, Qu.leaveAll Ds _ hn'.2 (fun D' hD' => ?_) (fun W' hW' => h W' (hb.trans hW'))⟩⟩
    have h2 := hd D' (List.mem_cons_of_mem _ hD')
    exact ⟨h2.1, (World.putObj_heap_other (fun (e : D' = D) => hn'.1 (e ▸ hD'))).trans h2.2⟩
theorem Qu.own_others {β : Type} {B : Nat} {W0 : World} (h : W0.heap.size ≤ B) : OwnFrom B (fun (_ : β) W => KeepsOthers W0 W) := fun _ X Y _ hs hg hr =>
  ⟨Nat.le_trans hs.size hg.size, fun k o hk ho => by
    have hx := hs.same k o hk ho
    have h1 : k < W0.heap.size := (Array.getElem?_eq_some_iff.1 hk).1
    rw [hg.block k (Array.getElem?_eq_some_iff.1 hx).1 (fun e => by have := (hr k e.symm).1; omega)]
    exact hx⟩
theorem Qu.resultsBool {fn : Func} {P : Program} {p : Tmp} {ty : TypeId} (h : fn.results = #[.cell p ty]) (hu : P.underlying ty = some .bool) (tmps : Array Value) (w : World) (g : Nat) (v : Value) (hp : tmps.getD p undef = .pointer (some ⟨g, 0, none⟩)) (hc : w.cell? ⟨g, 0, none⟩ = some v) : (results fn tmps).run P w = .ok v w := by
  have hp' : tmps[p]?.getD undef = .pointer (some ⟨g, 0, none⟩) := by simpa using hp
  have ha : (isAgg ty).run P w = .ok false w := by simp [isAgg, underlying, hu, go_sem]
  simp [results, h, hp', asAddr, loadVar, ha, go_sem, hc]
/-- A queue in some blocks that it may have; all of them cells. -/
def Try.QIn (oq : Nat → Prop) (B b : Nat) (X : World) : Prop := ∃ own s, Try.QuI X own b s ∧ (∀ k, own k → oq k ∨ B ≤ k) ∧ ∀ k, own k → ∃ c T f, X.heap[k]? = some (.cells c T f)
theorem Try.QIn.of {oq own : Nat → Prop} {B b : Nat} {X : World} {s : Qs Int} (h : Try.QuI X own b s) (ho : ∀ k, own k → oq k ∨ B ≤ k) : Try.QIn oq B b X := by
  obtain ⟨own0, h1, h2, h3⟩ := h.tight
  exact ⟨own0, s, h2, fun k e => ho k (h1 k e), h3⟩
theorem Try.QIn.keep {oq : Nat → Prop} {B b : Nat} {X Y : World} (h : Try.QIn oq B b X) (hs : X.heap.size ≤ Y.heap.size) (hk : ∀ k, (oq k ∨ B ≤ k) → (∃ c T f, X.heap[k]? = some (.cells c T f)) → Y.heap[k]? = X.heap[k]?) : Try.QIn oq B b Y := by
  obtain ⟨own, s, h1, h2, h3⟩ := h
  exact ⟨own, s, h1.keep (fun k e => hk k (h2 k e) (h3 k e)) hs, h2, fun k e => by rw [hk k (h2 k e) (h3 k e)]; exact h3 k e⟩
/-- What stands while one goes through it, and the queue turns. -/
structure Try.R1 (wS : World) (oq : Nat → Prop) (b Bk Bt : Nat) (kv tv : Int) (X : World) : Prop where
  wo : Wo (fun k => k = Bk ∨ k = Bt ∨ oq k) wS X
  bk : Boxed X Bk 3 (.int .i64 kv)
  bt : Boxed X Bt 3 (.int .i64 tv)
  q : Try.QIn oq wS.heap.size b X
theorem Try.R1.own {β : Type} (wS : World) (oq : Nat → Prop) (b Bk Bt : Nat) (f g : β → Int) : OwnFrom wS.heap.size (fun (s : β) X => Try.R1 wS oq b Bk Bt (f s) (g s) X) := fun s X Y row hs hg hr =>
  ⟨wo_own (β := Unit) (Nat.le_refl _) () X Y row hs.wo hg hr, (boxed_own Bk 3 (fun (s : β) => .int .i64 (f s))).from _ s X Y row hs.bk hg hr, (boxed_own Bt 3 (fun (s : β) => .int .i64 (g s))).from _ s X Y row hs.bt hg hr,
    hs.q.keep hg.size (fun k _ ⟨c, T, fz, e⟩ => hg.block k (block_lt e) (fun e1 => by
      obtain ⟨_, o, h1, h2⟩ := hr k e1.symm
      rw [e] at h1
      cases h1
      simp [Obj.isCells] at h2))⟩
theorem Try.R1.drew {wS : World} {oq : Nat → Prop} {b Bk Bt : Nat} {kv tv : Int} {X : World} (h : Try.R1 wS oq b Bk Bt kv tv X) : Try.R1 wS oq b Bk Bt kv tv X.drew :=
  ⟨h.wo.drew, h.bk, h.bt, h.q.keep (Nat.le_refl _) (fun _ _ _ => rfl)⟩
theorem Try.R1.setk {wS : World} {oq : Nat → Prop} {b Bk Bt : Nat} {kv tv : Int} {X : World} (h : Try.R1 wS oq b Bk Bt kv tv X) (h1 : ¬ oq Bk) (h2 : Bk < wS.heap.size) (h3 : Bk ≠ Bt) (v : Int) : Try.R1 wS oq b Bk Bt v tv (X.setCell ⟨Bk, 0, none⟩ (.int .i64 v)) :=
  ⟨h.wo.setCell Bk 0 _ (.inl (.inl rfl)), h.bk.set _, h.bt.other (fun e => h3 e.symm) _, h.q.keep (by simp) (fun k e _ => Below.heap_setCell X ⟨Bk, 0, none⟩ _ k (fun (e1 : k = Bk) => by
    subst e1
    rcases e with e | e
    · exact h1 e
    · omega))⟩
theorem Try.R1.sett {wS : World} {oq : Nat → Prop} {b Bk Bt : Nat} {kv tv : Int} {X : World} (h : Try.R1 wS oq b Bk Bt kv tv X) (h1 : ¬ oq Bt) (h2 : Bt < wS.heap.size) (h3 : Bk ≠ Bt) (v : Int) : Try.R1 wS oq b Bk Bt kv v (X.setCell ⟨Bt, 0, none⟩ (.int .i64 v)) :=
  ⟨h.wo.setCell Bt 0 _ (.inl (.inr (.inl rfl))), h.bk.other h3 _, h.bt.set _, h.q.keep (by simp) (fun k e _ => Below.heap_setCell X ⟨Bt, 0, none⟩ _ k (fun (e1 : k = Bt) => by
    subst e1
    rcases e with e | e
    · exact h1 e
    · omega))⟩
theorem Try.R1.turn {wS : World} {oq own : Nat → Prop} {b Bk Bt : Nat} {kv tv : Int} {X Y : World} (h : Try.R1 wS oq b Bk Bt kv tv X) (h1 : ¬ oq Bk) (h2 : Bk < wS.heap.size) (h3 : ¬ oq Bt) (h4 : Bt < wS.heap.size) (ho : ∀ k, own k → oq k ∨ wS.heap.size ≤ k) (hk : Try.QK own X Y b) : Try.R1 wS oq b Bk Bt kv tv Y := by
  obtain ⟨own', s, q1, q2⟩ := hk.ex
  have hs := h.wo.size
  refine ⟨h.wo.step (fun k e => (ho k e).imp (fun e => .inr (.inr e)) id) hk.wo, boxed_wo h.bk hk.wo (fun e => ?_), boxed_wo h.bt hk.wo (fun e => ?_), .of q1 (fun k e => ?_)⟩
  · rcases ho _ e with e | e
    · exact h1 e
    · omega
  · rcases ho _ e with e | e
    · exact h3 e
    · omega
  · rcases q2 k e with e | e
    · exact ho k e
    · exact .inr (Nat.le_trans hs e)
theorem Try.R1.put {wS : World} {oq : Nat → Prop} {b Bk Bt : Nat} {kv tv : Int} {X : World} (h : Try.R1 wS oq b Bk Bt kv tv X) (h1 : ¬ oq Bk) (h2 : Bk < wS.heap.size) (h3 : ¬ oq Bt) (h4 : Bt < wS.heap.size) (x : Int) :
    Calls Try.prog 12 #[.pointer (some ⟨b, 0, none⟩), .int .i64 x] X fun e Y => (∃ y g, e = .returned (.tuple #[.int .i64 y, .bool g])) ∧ Try.R1 wS oq b Bk Bt kv tv Y ∧ KeepsOthers X Y := by
  obtain ⟨own, s, q1, q2, _⟩ := h.q
  exact (Try.putAnyI q1 x).mono fun e Y ⟨e1, e2⟩ => ⟨e1, h.turn h1 h2 h3 h4 q2 e2, e2.ko⟩
theorem Try.R1.done {wS : World} {oq : Nat → Prop} {b Bk Bt : Nat} {kv tv : Int} {X : World} (h : Try.R1 wS oq b Bk Bt kv tv X) (h1 : ¬ oq Bk) (h2 : Bk < wS.heap.size) (h3 : ¬ oq Bt) (h4 : Bt < wS.heap.size) :
    Calls Try.prog 10 #[.pointer (some ⟨b, 0, none⟩)] X fun e Y => (∃ y, e = .returned (.int .i64 y)) ∧ Try.R1 wS oq b Bk Bt kv tv Y ∧ KeepsOthers X Y := by
  obtain ⟨own, s, q1, q2, _⟩ := h.q
  exact (Try.doneAnyI q1).mono fun e Y ⟨e1, e2⟩ => ⟨e1, h.turn h1 h2 h3 h4 q2 e2, e2.ko⟩
/-- The queue turned, nothing else. -/
structure Try.QW (w0 : World) (oq : Nat → Prop) (b : Nat) (X : World) : Prop where
  wo : Wo oq w0 X
  q : Try.QIn oq w0.heap.size b X
theorem Try.QW.turn {w0 : World} {oq own : Nat → Prop} {b : Nat} {X Y : World} (h : Try.QW w0 oq b X) (ho : ∀ k, own k → oq k ∨ w0.heap.size ≤ k) (hk : Try.QK own X Y b) : Try.QW w0 oq b Y := by
  obtain ⟨own', s, q1, q2⟩ := hk.ex
  refine ⟨h.wo.step ho hk.wo, .of q1 (fun k e => ?_)⟩
  rcases q2 k e with e | e
  · exact ho k e
  · exact .inr (Nat.le_trans h.wo.size e)
theorem Try.QW.put {w0 : World} {oq : Nat → Prop} {b : Nat} {X : World} (h : Try.QW w0 oq b X) (x : Int) :
    Calls Try.prog 12 #[.pointer (some ⟨b, 0, none⟩), .int .i64 x] X fun e Y => (∃ y g, e = .returned (.tuple #[.int .i64 y, .bool g])) ∧ Try.QW w0 oq b Y := by
  obtain ⟨own, s, q1, q2, _⟩ := h.q
  exact (Try.putAnyI q1 x).mono fun e Y ⟨e1, e2⟩ => ⟨e1, h.turn q2 e2⟩
theorem Try.QW.done {w0 : World} {oq : Nat → Prop} {b : Nat} {X : World} (h : Try.QW w0 oq b X) :
    Calls Try.prog 10 #[.pointer (some ⟨b, 0, none⟩)] X fun e Y => (∃ y, e = .returned (.int .i64 y)) ∧ Try.QW w0 oq b Y := by
  obtain ⟨own, s, q1, q2, _⟩ := h.q
  exact (Try.doneAnyI q1).mono fun e Y ⟨e1, e2⟩ => ⟨e1, h.turn q2 e2⟩
theorem Try.QW.start {w0 : World} {own : Nat → Prop} {b : Nat} {s : Qs Int} (h : Try.QuI w0 own b s) : Try.QW w0 own b w0 := ⟨Wo.refl _ _, .of h (fun _ e => .inl e)⟩
/-- Two boxes more. -/
theorem Try.QW.boxes {w0 : World} {oq : Nat → Prop} {b : Nat} {X : World} (h : Try.QW w0 oq b X) (kv tv : Int) :
    Try.R1 ((X.alloc (.cells #[.int .i64 kv] 3)).alloc (.cells #[.int .i64 tv] 3)) (fun k => (oq k ∨ w0.heap.size ≤ k) ∧ k < X.heap.size) b X.heap.size (X.heap.size + 1) kv tv ((X.alloc (.cells #[.int .i64 kv] 3)).alloc (.cells #[.int .i64 tv] 3)) := by
  have hb : Below X.heap.size X ((X.alloc (.cells #[.int .i64 kv] 3)).alloc (.cells #[.int .i64 tv] 3)) := ((Below.refl _ X).alloc (Nat.le_refl _) _).alloc (by simp) _
  refine ⟨Wo.refl _ _, (Boxed.new X 3 _).alloc _, ?_, ?_⟩
  · have := Boxed.new (X.alloc (.cells #[.int .i64 kv] 3)) 3 (.int .i64 tv)
    rwa [World.size_alloc] at this
  · obtain ⟨own, s, h1, h2, h3⟩ := h.q
    exact .of (h1.below hb) (fun k e => .inl ⟨h2 k e, h1.lt k e⟩)
end Go.Proofs
