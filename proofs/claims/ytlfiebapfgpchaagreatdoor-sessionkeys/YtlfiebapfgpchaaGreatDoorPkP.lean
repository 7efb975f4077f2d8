/-
  Laid together by pack.py of Sk Sl Sm.
-/
import Derived.Test.YtlfiebapfgpchaaGreatDoorPkT
import Derived.Test.YtlfiebapfgpchaaGreatDoorPkS
namespace Go.Proofs
open Go.RowKit Go.Wi Go.Se Go.Ct
/-- The users of at most one token. -/
def Tryz.Us (w : World) (ou : Nat → Prop) (ub : Nat) : Option {x : Tk // x.ok} → Prop
  | none => Mp Tryz.txtKy w (some ub) 0 (fun _ => none)
  | some x => ∃ ib, ou ib ∧ ib ≠ ub ∧ Mp Tryz.txtKy w (some ub) 1 (upd (fun _ => none) x.1.u (some (.map (some ib)))) ∧ Mp Tryz.tokKy w (some ib) 1 (upd (fun _ => none) x (some (.agg #[])))
theorem Tryz.Us.keep {w w' : World} {ou : Nat → Prop} {ub : Nat} {o : Option {x : Tk // x.ok}} (h : Tryz.Us w ou ub o) (hu : ou ub) (hk : ∀ k, ou k → w'.heap[k]? = w.heap[k]?) : Tryz.Us w' ou ub o := by
  cases o with
  | none => exact Mp.keep h fun k e => (by cases e; exact hk _ hu)
  | some x =>
    obtain ⟨ib, h1, h2, h3, h4⟩ := h
    exact ⟨ib, h1, h2, h3.keep fun k e => (by cases e; exact hk _ hu), h4.keep fun k e => (by cases e; exact hk _ h1)⟩
theorem Tryz.Us.mono {w : World} {ou ou' : Nat → Prop} {ub : Nat} {o : Option {x : Tk // x.ok}} (h : Tryz.Us w ou ub o) (hm : ∀ k, ou k → ou' k) : Tryz.Us w ou' ub o := by
  cases o with
  | none => exact h
  | some x =>
    obtain ⟨ib, h1, h2, h3, h4⟩ := h
    exact ⟨ib, hm _ h1, h2, h3, h4⟩
/-- A purse whose shelf holds L, and whose users have o. -/
structure Tryz.Pu (w : World) (own : Nat → Prop) (pb : Nat) (L : List ({x : Tk // x.ok} × Int)) (o : Option {x : Tk // x.ok}) : Prop where
  ex : ∃ sb ub os ou, w.heap[pb]? = some (.cells #[.pointer (some ⟨sb, 0, none⟩), .map (some ub)] 96 (0, 0)) ∧ Tryz.ShT w os sb L ∧ Tryz.Us w ou ub o ∧ ou ub ∧ (∀ k, os k → own k ∧ ¬ ou k ∧ k ≠ pb) ∧ ∀ k, ou k → own k ∧ k ≠ pb
  op : own pb
  lt : ∀ k, own k → k < w.heap.size
theorem Tryz.Pu.keep {w w' : World} {own : Nat → Prop} {pb : Nat} {L : List ({x : Tk // x.ok} × Int)} {o : Option {x : Tk // x.ok}} (h : Tryz.Pu w own pb L o) (hk : ∀ k, own k → w'.heap[k]? = w.heap[k]?) (hs : w.heap.size ≤ w'.heap.size) : Tryz.Pu w' own pb L o := by
  obtain ⟨sb, ub, os, ou, h1, h2, h3, h4, h5, h6⟩ := h.ex
  exact ⟨⟨sb, ub, os, ou, (hk pb h.op).trans h1, h2.keep (fun k e => hk k (h5 k e).1) hs, h3.keep h4 fun k e => hk k (h6 k e).1, h4, h5, h6⟩, h.op, fun k e => Nat.lt_of_lt_of_le (h.lt k e) hs⟩
structure Tryz.PChg (own : Nat → Prop) (w w' : World) (pb : Nat) (L : List ({x : Tk // x.ok} × Int)) (o : Option {x : Tk // x.ok}) : Prop where
  ex : ∃ own', Tryz.Pu w' own' pb L o ∧ ∀ k, own' k → own k ∨ w.heap.size ≤ k
  wo : Wo own w w'
theorem Tryz.PChg.trans {own own1 : Nat → Prop} {w w1 w2 : World} {pb : Nat} {L : List ({x : Tk // x.ok} × Int)} {o : Option {x : Tk // x.ok}} (hw : Wo own w w1) (ho : ∀ k, own1 k → own k ∨ w.heap.size ≤ k) (g : Tryz.PChg own1 w1 w2 pb L o) : Tryz.PChg own w w2 pb L o := by
  obtain ⟨own2, h1, h2⟩ := g.ex
  have hs := hw.size
  refine ⟨⟨own2, h1, fun k e => ?_⟩, hw.step ho g.wo⟩
  rcases h2 k e with e1 | e1
  · exact ho k e1
  · exact .inr (by omega)
/-- A purse's shelf has turned. -/
theorem Tryz.Pu.shelf {w w' : World} {own os ou : Nat → Prop} {pb sb ub : Nat} {L' : List ({x : Tk // x.ok} × Int)} {o : Option {x : Tk // x.ok}} (h1 : w.heap[pb]? = some (.cells #[.pointer (some ⟨sb, 0, none⟩), .map (some ub)] 96 (0, 0))) (h3 : Tryz.Us w ou ub o) (h4 : ou ub) (h5 : ∀ k, os k → own k ∧ ¬ ou k ∧ k ≠ pb) (h6 : ∀ k, ou k → own k ∧ k ≠ pb) (hp : own pb) (hl : ∀ k, own k → k < w.heap.size)
    (hc : Tryz.SChgT os w w' sb L') : ∃ os' : Nat → Prop, w'.heap[pb]? = some (.cells #[.pointer (some ⟨sb, 0, none⟩), .map (some ub)] 96 (0, 0)) ∧ Tryz.ShT w' os' sb L' ∧ Tryz.Us w' ou ub o ∧ (∀ k, os' k → (own k ∨ w.heap.size ≤ k) ∧ ¬ ou k ∧ k ≠ pb) := by
  obtain ⟨os', q1, q2⟩ := hc.ex
  refine ⟨os', (hc.wo.block pb (hl pb hp) fun e => (h5 pb e).2.2 rfl).trans h1, q1, h3.keep h4 fun k e => hc.wo.block k (hl k (h6 k e).1) fun e' => (h5 k e').2.1 e, fun k e => ?_⟩
  rcases q2 k e with e1 | e1
  · exact ⟨.inl (h5 k e1).1, (h5 k e1).2⟩
  · exact ⟨.inr e1, fun e2 => (by have := hl k (h6 k e2).1; omega), fun e2 => by have := hl pb hp; omega⟩
set_option maxHeartbeats 1000000 in
set_option maxRecDepth 20000 in
theorem Tryz.newPurse_any (w : World) : Calls Tryz.prog 40 #[] w fun e w' => ∃ b, e = .returned (.pointer (some ⟨b, 0, none⟩)) ∧ Tryz.Pu w' (fun k => w.heap.size ≤ k ∧ k < w'.heap.size) b [] none ∧ Below w.heap.size w w' := by
  have hns := Tryz.newShelfT_any w
  have hmm := @run_makeMap Tryz.prog
  go_enter Tryz.func40, Tryz.ntmps40
  go_wp2_with (first
    | (go_at_call 63; refine hns.mono ?_; clear hns; rintro e w1 ⟨sb, rfl, hS, hb1⟩)
    | fail)
  go_ret
  have hs1 := hb1.size
  have e0 : (w1.alloc (.map #[] 0)).heap.size = w1.heap.size + 1 := by simp
  have p0 := Mp.made Tryz.txtKy w1
  have hb := heap_alloc_new (w1.alloc (.map #[] 0)) (.cells #[.pointer (some ⟨sb, 0, none⟩), .map (some w1.heap.size)] 96)
  rw [e0] at hb
  have hbb : Below w1.heap.size w1 ((w1.alloc (.map #[] 0)).alloc (.cells #[.pointer (some ⟨sb, 0, none⟩), .map (some w1.heap.size)] 96)) := ((Below.refl _ w1).alloc (Nat.le_refl _) _).alloc (by omega) _
  refine ⟨w1.heap.size + 1, rfl, ⟨⟨sb, w1.heap.size, _, fun k => k = w1.heap.size, hb, hS.keep (fun k e => hbb.block k e.2) hbb.size, ?_, rfl, fun k e => ⟨⟨e.1, ?_⟩, ?_, ?_⟩, fun k e => ⟨⟨?_, ?_⟩, ?_⟩⟩, ⟨by omega, by simp⟩, fun k e => e.2⟩, hb1.trans (hbb.mono hs1)⟩
  · exact Mp.keep p0 fun x e => by injection e with e; subst e; rw [Ct.alloc_old _ (by omega)]
  · simp; omega
  · intro e'; omega
  · omega
  · omega
  · subst e; simp; omega
  · omega
theorem Tryz.zeroMap (w : World) : (zeroValue 98).run Tryz.prog w = .ok (.map none) w := by kernel_rfl
theorem Tryz.eqlMap0 (w : World) : (binOp .eql 98 (.map none) (.map none)).run Tryz.prog w = .ok (.bool true) w := by kernel_rfl
theorem Tryz.keyT (x : {x : Tk // x.ok}) : x.1.u.size ≤ maxLen := x.2.1
set_option maxHeartbeats 4000000 in
set_option maxRecDepth 4000 in
theorem Tryz.add_new {w : World} {own : Nat → Prop} {pb : Nat} (h : Tryz.Pu w own pb [] none) (x : {x : Tk // x.ok}) :
    Calls Tryz.prog 25 #[.pointer (some ⟨pb, 0, none⟩), .agg #[.string x.1.u, .int .i64 x.1.n, .int .i64 x.1.t]] w fun e w' => (∃ v, e = .returned v) ∧ Tryz.PChg own w w' pb [(x, x.1.t)] (some x) := by
  obtain ⟨sb, ub, os, ou, h1, h2, h3, h4, h5, h6⟩ := h.ex
  have hpl := h.lt pb h.op
  obtain ⟨W, hW⟩ : ∃ W, W = w.alloc (.cells #[.string x.1.u, .int .i64 x.1.n, .int .i64 x.1.t] 58) := ⟨_, rfl⟩
  have hbel : Below w.heap.size w W := by rw [hW]; exact (Below.refl w.heap.size w).alloc (Nat.le_refl _) _
  have hWn : W.heap[w.heap.size]? = some (.cells #[.string x.1.u, .int .i64 x.1.n, .int .i64 x.1.t] 58 (0, 0)) := by rw [hW]; exact heap_alloc_new w _
  have c2 : W.cell? ⟨w.heap.size, 0, none⟩ = some (.string x.1.u) := cell_of_row W _ 0 _ _ _ hWn
  have c3 : W.cell? ⟨w.heap.size, 1, none⟩ = some (.int .i64 x.1.n) := cell_of_row W _ 1 _ _ _ hWn
  have c4 : W.cell? ⟨w.heap.size, 2, none⟩ = some (.int .i64 x.1.t) := cell_of_row W _ 2 _ _ _ hWn
  have hb1 : W.heap[pb]? = _ := (hbel.block pb hpl).trans h1
  have c0 : W.cell? ⟨pb, 0, none⟩ = some (.pointer (some ⟨sb, 0, none⟩)) := cell_of_row W pb 0 _ _ _ hb1
  have HW : Hid (w.alloc (.cells #[.string x.1.u, .int .i64 x.1.n, .int .i64 x.1.t] 58) = W) := hW.symm
  have hput : ∀ n, Calls Tryz.prog 48 #[.pointer (some ⟨sb, 0, none⟩), .agg #[.string x.1.u, .int .i64 x.1.n, .int .i64 x.1.t], .int .i64 x.1.t] (W.drewN n) fun e w' => (∃ v, e = .returned v) ∧ Tryz.SChgT os w w' sb [(x, x.1.t)] ∧ w'.heap[w.heap.size]? = W.heap[w.heap.size]? := fun n =>
    (Tryz.putT_new (h2.keep (w' := W.drewN n) (fun k e => hbel.block k (h2.lt k e)) hbel.size) x x.1.t trivial).mono fun e w' ⟨e1, e2⟩ => ⟨e1, Tryz.SChgT.trans (own1 := os) ((Wo.ofBelow hbel).drewN n) (fun k e => .inl e) e2, e2.wo.block _ (block_lt hWn) fun e => by have := h2.lt _ e; omega⟩
  have HWn : Hid (W.heap[w.heap.size]? = some (.cells #[.string x.1.u, .int .i64 x.1.n, .int .i64 x.1.t] 58 (0, 0))) := hWn
  clear hW hWn
  go_enter Tryz.func25, Tryz.ntmps25
  go_upto_region 1 with (fail)
  rw [HW.out]
  (refine Go.Lq.wp_region_lastN (fun w' => ∃ k, w' = _root_.Go.World.drewN _ k) 7 (by kernel_rfl) (by kernel_rfl) ⟨1, rfl⟩ ?_; dsimp only [List.dropLast]; (repeat (quiet_step (fail))); refine wpQuiet_nil ?_; intro _ hw'; obtain ⟨nq, hw''⟩ := hw'; subst hw''; refine Go.Lq.wpOp_last rfl rfl ?_; unfold Oper.wp; go_simp)
  refine (hput nq).mono ?_
  rintro e w2 ⟨⟨v, rfl⟩, hc, hbx⟩
  clear hput c0 c2 c3 c4
  obtain ⟨os', q1, q2, q3, q5⟩ := Tryz.Pu.shelf h1 h3 h4 h5 h6 h.op h.lt hc
  have hn2 : w2.heap[w.heap.size]? = _ := hbx.trans HWn.out
  have c1 : w2.cell? ⟨pb, 1, none⟩ = some (.map (some ub)) := cell_of_row w2 pb 1 _ _ _ q1
  have c2 : w2.cell? ⟨w.heap.size, 0, none⟩ = some (.string x.1.u) := cell_of_row w2 _ 0 _ _ _ hn2
  have c3 : w2.cell? ⟨w.heap.size, 1, none⟩ = some (.int .i64 x.1.n) := cell_of_row w2 _ 1 _ _ _ hn2
  have c4 : w2.cell? ⟨w.heap.size, 2, none⟩ = some (.int .i64 x.1.t) := cell_of_row w2 _ 2 _ _ _ hn2
  have hlk : ∀ n, (Instr.lookup 94 (.map (some ub)) (.string x.1.u) false).run Tryz.prog (w2.drewN n) = .ok (.map none) (w2.drewN n) := fun n => Mp.look (Mp.keep (w' := w2.drewN n) q3 fun _ _ => rfl) Tryz.underlying94 (Tryz.zeroMap _) (Tryz.keyT x)
  have hq := Tryz.eqlMap0
  have hmm := @run_makeMap Tryz.prog
  go_wp2
  go_quiet (fail)
  clear hq hlk
  have hpl2 : pb < w2.heap.size := block_lt q1
  have hnl2 : w.heap.size < w2.heap.size := block_lt hn2
  have hul2 : ub < w2.heap.size := Mp.lt q3 rfl
  have HP2 : Hid _ := q1
  have HN2 : Hid _ := hn2
  have d1 : ((w2.drewN (nq + 1)).alloc (.map #[] 0)).cell? ⟨pb, 1, none⟩ = some (.map (some ub)) := (World.cell?_of_block (w := w2) (a := ⟨pb, 1, none⟩) (Ct.alloc_old (w := w2.drewN (nq + 1)) _ hpl2)).trans c1
  have d2 : ((w2.drewN (nq + 1)).alloc (.map #[] 0)).cell? ⟨w.heap.size, 0, none⟩ = some (.string x.1.u) := (World.cell?_of_block (w := w2) (a := ⟨w.heap.size, 0, none⟩) (Ct.alloc_old (w := w2.drewN (nq + 1)) _ hnl2)).trans c2
  obtain ⟨w3, hrun3, hMp3, htu3⟩ := Mp.store (w := (w2.drewN (nq + 1)).alloc (.map #[] 0)) (Mp.keep q3 fun k e => (by cases e; exact Ct.alloc_old (w := w2.drewN (nq + 1)) _ hul2)) Tryz.underlying94 (by unfold maxLen; omega) (Tryz.keyT x) (.map (some w2.heap.size))
  have hrun3' : (Instr.mapUpdate 94 (.map (some ub)) (.string x.1.u) (.map (some w2.heap.size))).run Tryz.prog ((w2.drewN (nq + 1)).alloc (.map #[] 0)) = .ok () w3 := hrun3
  have hg3 := htu3.grown
  have hk3 : ∀ k, k < w2.heap.size → k ≠ ub → w3.heap[k]? = w2.heap[k]? := fun k hk hku => (hg3.block k (by show k < ((w2.drewN (nq + 1)).alloc (.map #[] 0)).heap.size; simp; omega) fun e => hku (Option.some.inj e)).trans (Ct.alloc_old (w := w2.drewN (nq + 1)) _ hk)
  have hi3 : w3.heap[w2.heap.size]? = some (.map #[] 0) := (hg3.block w2.heap.size (by show _ < ((w2.drewN (nq + 1)).alloc (.map #[] 0)).heap.size; simp) fun e => by have := Option.some.inj e; omega).trans (heap_alloc_new (w2.drewN (nq + 1)) _)
  have hub : ub ≠ pb := (h6 ub h4).2
  have hubn : w.heap.size ≠ ub := fun e => by have := h.lt ub (h6 ub h4).1; omega
  have hp3 : w3.heap[pb]? = _ := (hk3 pb hpl2 (Ne.symm hub)).trans HP2.out
  have hn3 : w3.heap[w.heap.size]? = _ := (hk3 _ hnl2 hubn).trans HN2.out
  have hs3 : w2.heap.size + 1 ≤ w3.heap.size := by have : ((w2.drewN (nq + 1)).alloc (.map #[] 0)).heap.size ≤ w3.heap.size := hg3.size; simpa using this
  have hwo3 : Wo own w w3 := ((hc.wo.mono fun k e => (h5 k e).1).step (own1 := fun k => k = ub) (fun k e => .inl (by subst e; exact (h6 k h4).1)) (((Wo.ofBelow (w := w2.drewN (nq + 1)) ((Below.refl _ (w2.drewN (nq + 1))).alloc (Nat.le_refl _) _)).grown hg3 fun k e => .inl (Option.some.inj e).symm) |> fun g => ⟨g.os, g.tape, g.output, g.size, g.block⟩))
  have hSh3 : Tryz.ShT w3 os' sb [(x, x.1.t)] := q2.keep (fun k e => hk3 k (q2.lt k e) fun e' => (q5 k e).2.1 (by rw [e']; exact h4)) (by omega)
  have e1 : w3.cell? ⟨pb, 1, none⟩ = some (.map (some ub)) := cell_of_row w3 pb 1 _ _ _ hp3
  have e2 : w3.cell? ⟨w.heap.size, 0, none⟩ = some (.string x.1.u) := cell_of_row w3 _ 0 _ _ _ hn3
  have e3 : w3.cell? ⟨w.heap.size, 1, none⟩ = some (.int .i64 x.1.n) := cell_of_row w3 _ 1 _ _ _ hn3
  have e4 : w3.cell? ⟨w.heap.size, 2, none⟩ = some (.int .i64 x.1.t) := cell_of_row w3 _ 2 _ _ _ hn3
  have hlk3 : ∀ n, (Instr.lookup 94 (.map (some ub)) (.string x.1.u) false).run Tryz.prog (w3.drewN n) = .ok (.map (some w2.heap.size)) (w3.drewN n) := fun n => by
    have := Mp.look (Mp.keep (w' := w3.drewN n) hMp3 fun _ _ => rfl) Tryz.underlying94 (Tryz.zeroMap _) (Tryz.keyT x)
    rw [upd_same] at this
    exact this
  have hin3 : Mp Tryz.tokKy w3 (some w2.heap.size) 0 (fun _ => none) := (Mp.made Tryz.tokKy w2).keep fun k e => (by cases e; exact hi3.trans (heap_alloc_new w2 _).symm)
  have HMp3 : Hid (Mp Tryz.txtKy w3 (some ub) 1 (upd (fun _ => none) x.1.u (some (.map (some w2.heap.size))))) := hMp3
  have HP3 : Hid (w3.heap[pb]? = some (.cells #[.pointer (some ⟨sb, 0, none⟩), .map (some ub)] 96 (0, 0))) := hp3
  clear hrun3 hg3 htu3 hMp3 hi3 hp3 hn3
  have hend : ∀ n (w4 : World), Mp Tryz.tokKy w4 (some w2.heap.size) 1 (upd (fun _ => none) x (some (.agg #[]))) → (w3.drewN n).mapTurned w4 w2.heap.size → Tryz.PChg own w w4 pb [(x, x.1.t)] (some x) := fun n w4 hMp4 htu4 => by
    have hg4 := htu4.grown
    have hk4 : ∀ k, k < w3.heap.size → k ≠ w2.heap.size → w4.heap[k]? = w3.heap[k]? := fun k hk hku => hg4.block k hk fun e => hku (Option.some.inj e)
    have hs4 : w3.heap.size ≤ w4.heap.size := hg4.size
    refine ⟨⟨fun k => own k ∨ (w.heap.size ≤ k ∧ k < w4.heap.size), ⟨⟨sb, ub, os', fun k => ou k ∨ k = w2.heap.size, (hk4 pb (by omega) (by omega)).trans HP3.out, hSh3.keep (fun k e => hk4 k (hSh3.lt k e) fun e' => ?_) hs4, ⟨w2.heap.size, .inr rfl, by omega, HMp3.out.keep fun k e => (by cases e; exact hk4 ub (by omega) (by omega)), hMp4⟩, .inl h4, fun k e => ⟨?_, ?_, (q5 k e).2.2⟩, fun k e => ?_⟩, .inl h.op, fun k e => ?_⟩, fun k e => e.imp id (·.1)⟩, ?_⟩
    · have := q2.lt k e
      omega
    · have := q2.lt k e
      rcases (q5 k e).1 with e5 | e5
      · exact .inl e5
      · exact .inr ⟨e5, by omega⟩
    · have := q2.lt k e
      rintro (e5 | e5)
      · exact (q5 k e).2.1 e5
      · omega
    · rcases e with e5 | e5
      · exact ⟨.inl (h6 k e5).1, (h6 k e5).2⟩
      · exact ⟨.inr ⟨by omega, by omega⟩, by omega⟩
    · rcases e with e5 | e5
      · have := h.lt k e5
        omega
      · exact e5.2
    · exact (hwo3.drewN n).grown hg4 fun k e => .inr (by cases e; omega)
  have HE : Hid _ := hend
  clear hend hwo3 hSh3 hk3
  go_wp2
  go_region
  all_goals
    clear hrun3' d1 d2 c1 c2 c3 c4
    go_wp2
    (refine Go.Lq.wp_region_last 9 (by kernel_rfl) (by kernel_rfl) ?_; dsimp only [List.dropLast]; (repeat (quiet_step (fail))); refine wpQuiet_nil ?_; intro _ hw'; obtain ⟨nq, hw''⟩ := hw'; subst hw''; refine Go.Lq.wpOp_last rfl rfl ?_; unfold Oper.wp; go_simp)
    obtain ⟨w4, hrun4, hMp4, htu4⟩ := Mp.store (Mp.keep (w' := w3.drewN nq) hin3 fun _ _ => rfl) Tryz.underlying98 (by unfold maxLen; omega) (x := x) trivial (.agg #[])
    have hrun4' : (Instr.mapUpdate 98 (.map (some w2.heap.size)) (.agg #[.string x.1.u, .int .i64 x.1.n, .int .i64 x.1.t]) (.agg #[])).run Tryz.prog (w3.drewN nq) = .ok () w4 := hrun4
    rw [hrun4']
    go_wp2
    go_end0
    exact ⟨⟨_, rfl⟩, HE.out _ _ hMp4 htu4⟩
end Go.Proofs
namespace Go.Proofs
open Go.RowKit Go.Wi Go.Se Go.Ct
/-- What 'drop' does where nothing is over. -/
def Tryz.Late (L : List ({x : Tk // x.ok} × Int)) (now : Int) : Prop := L = [] ∨ ∃ x d, L = [(x, d)] ∧ now < d
set_option maxHeartbeats 1000000 in
theorem Tryz.pdrop_not {w : World} {own : Nat → Prop} {pb : Nat} {L : List ({x : Tk // x.ok} × Int)} {o : Option {x : Tk // x.ok}} (h : Tryz.Pu w own pb L o) (now : Int) (hL : Tryz.Late L now) :
    Calls Tryz.prog 44 #[.pointer (some ⟨pb, 0, none⟩), .int .i64 now] w fun e w' => (∃ v, e = .returned v) ∧ w' = w := by
  obtain ⟨sb, ub, os, ou, h1, h2, h3, h4, h5, h6⟩ := h.ex
  have c0 : w.cell? ⟨pb, 0, none⟩ = some (.pointer (some ⟨sb, 0, none⟩)) := cell_of_row w pb 0 _ _ _ h1
  have hd : Calls Tryz.prog 64 #[.pointer (some ⟨sb, 0, none⟩), .int .i64 now] w fun e w' => e = .returned (.slice none 0 0) ∧ w' = w := by
    rcases hL with rfl | ⟨x, d, rfl, hd⟩
    · exact Tryz.dropT_nil h2 now
    · exact Tryz.dropT_not h2 now hd
  clear h1 h2 h3 h4 h5 h6 h hL
  go_enter Tryz.func44, Tryz.ntmps44
  go_wp2_with (first
    | (go_at_call 64; refine hd.mono ?_; clear hd; rintro e w1 ⟨rfl, rfl⟩)
    | fail)
  refine wp_loop_rounds 1 ?_
  rw [rounds_succ]
  go_wp2
  go_end0
  exact ⟨⟨_, rfl⟩, rfl⟩
set_option maxHeartbeats 1000000 in
set_option maxRecDepth 4000 in
theorem Tryz.has_any {w : World} {own : Nat → Prop} {pb : Nat} {L : List ({x : Tk // x.ok} × Int)} {o : Option {x : Tk // x.ok}} (h : Tryz.Pu w own pb L o) (x : {x : Tk // x.ok}) (B : Bool) (hL : (L = [] ∧ B = false) ∨ (∃ d, L = [(x, d)] ∧ 0 < d ∧ B = true)) :
    Calls Tryz.prog 56 #[.pointer (some ⟨pb, 0, none⟩), .agg #[.string x.1.u, .int .i64 x.1.n, .int .i64 x.1.t]] w fun e w' => e = .returned (.bool B) ∧ Below w.heap.size w w' := by
  obtain ⟨sb, ub, os, ou, h1, h2, h3, h4, h5, h6⟩ := h.ex
  have hpl := h.lt pb h.op
  obtain ⟨W, hW⟩ : ∃ W, W = w.alloc (.cells #[.string x.1.u, .int .i64 x.1.n, .int .i64 x.1.t] 58) := ⟨_, rfl⟩
  have hbel : Below w.heap.size w W := by rw [hW]; exact (Below.refl w.heap.size w).alloc (Nat.le_refl _) _
  have hWn : W.heap[w.heap.size]? = some (.cells #[.string x.1.u, .int .i64 x.1.n, .int .i64 x.1.t] 58 (0, 0)) := by rw [hW]; exact heap_alloc_new w _
  have c2 : W.cell? ⟨w.heap.size, 0, none⟩ = some (.string x.1.u) := cell_of_row W _ 0 _ _ _ hWn
  have c3 : W.cell? ⟨w.heap.size, 1, none⟩ = some (.int .i64 x.1.n) := cell_of_row W _ 1 _ _ _ hWn
  have c4 : W.cell? ⟨w.heap.size, 2, none⟩ = some (.int .i64 x.1.t) := cell_of_row W _ 2 _ _ _ hWn
  have hb1 : W.heap[pb]? = _ := (hbel.block pb hpl).trans h1
  have c0 : W.cell? ⟨pb, 0, none⟩ = some (.pointer (some ⟨sb, 0, none⟩)) := cell_of_row W pb 0 _ _ _ hb1
  have HW : Hid (w.alloc (.cells #[.string x.1.u, .int .i64 x.1.n, .int .i64 x.1.t] 58) = W) := hW.symm
  have hun : ∃ d : Int, decide (0 < d) = B ∧ ∀ w', Below w.heap.size w w' → Calls Tryz.prog 76 #[.pointer (some ⟨sb, 0, none⟩), .agg #[.string x.1.u, .int .i64 x.1.n, .int .i64 x.1.t]] w' fun e w2 => e = .returned (.int .i64 d) ∧ Below w.heap.size w w2 := by
    rcases hL with ⟨rfl, rfl⟩ | ⟨d, rfl, hd, rfl⟩
    · exact ⟨0, rfl, fun w' hb => (Tryz.untilT_nil (h2.keep (fun k e => hb.block k (h2.lt k e)) hb.size) x trivial).mono fun e w2 ⟨e1, e2⟩ => ⟨e1, hb.trans (e2.mono hb.size)⟩⟩
    · refine ⟨d, by simp [hd], fun w' hb => (Tryz.untilT_one (h2.keep (fun k e => hb.block k (h2.lt k e)) hb.size) x trivial).mono fun e w2 ⟨e1, e2⟩ => ⟨?_, hb.trans (e2.mono hb.size)⟩⟩
      rw [if_pos rfl] at e1
      exact e1
  obtain ⟨d, hB, hun⟩ := hun
  subst hB
  clear hW h1 h2 h3 h4 h5 h6 hL h hb1 hWn
  go_enter Tryz.func56, Tryz.ntmps56
  go_upto_region 1 with (fail)
  rw [HW.out]
  have hbd : Below w.heap.size w W.drew := hbel.drew
  go_region_with (first | (go_at_call 76; refine (hun W.drew hbd).mono ?_; rintro e w2 ⟨rfl, hb2⟩) | fail)
  all_goals
    go_wp2
    go_ret
    exact ⟨rfl, hb2⟩
end Go.Proofs
namespace Go.Proofs
open Go.RowKit Go.Wi Go.Se Go.Ct
/-- A map of nothing has no entry. -/
theorem Ct.len0 {P : Program} {k : TypeId} {κ : Type} {K : Ky P k κ} {w : World} {o : Option Nat} {n : Nat} {f : κ → Option Value} (h : Mp K w o n f) (hf : ∀ x, f x = none) {t e : TypeId} (ht : P.underlying t = some (.map k e)) (ty : TypeId) : (Builtin.len_ #[t] ty #[.map o]).run P w = .ok (.int .i64 0) w := by
  obtain ⟨L, _, h2, _, h4⟩ := h.list ht
  have hL : L = [] := List.eq_nil_iff_forall_not_mem.2 fun x hx => by
    have := (h2 x).1 hx
    rw [hf] at this
    cases this
  rw [h4, hL]
  rfl
set_option maxHeartbeats 4000000 in
set_option maxRecDepth 4000 in
theorem Tryz.disown_one {w : World} {own : Nat → Prop} {pb : Nat} {L : List ({x : Tk // x.ok} × Int)} {x : {x : Tk // x.ok}} (h : Tryz.Pu w own pb L (some x)) :
    Calls Tryz.prog 59 #[.pointer (some ⟨pb, 0, none⟩), .agg #[.string x.1.u, .int .i64 x.1.n, .int .i64 x.1.t]] w fun e w' => (∃ v, e = .returned v) ∧ Tryz.PChg own w w' pb L none := by
  obtain ⟨sb, ub, os, ou, h1, h2, ⟨ib, i1, i2, i3, i4⟩, h4, h5, h6⟩ := h.ex
  have hpl := h.lt pb h.op
  have hul := h.lt ub (h6 ub h4).1
  have hil := h.lt ib (h6 ib i1).1
  have hup := (h6 ub h4).2
  have hip := (h6 ib i1).2
  obtain ⟨W, hW⟩ : ∃ W, W = w.alloc (.cells #[.string x.1.u, .int .i64 x.1.n, .int .i64 x.1.t] 58) := ⟨_, rfl⟩
  have hbel : Below w.heap.size w W := by rw [hW]; exact (Below.refl w.heap.size w).alloc (Nat.le_refl _) _
  have hWn : W.heap[w.heap.size]? = some (.cells #[.string x.1.u, .int .i64 x.1.n, .int .i64 x.1.t] 58 (0, 0)) := by rw [hW]; exact heap_alloc_new w _
  have c2 : W.cell? ⟨w.heap.size, 0, none⟩ = some (.string x.1.u) := cell_of_row W _ 0 _ _ _ hWn
  have c3 : W.cell? ⟨w.heap.size, 1, none⟩ = some (.int .i64 x.1.n) := cell_of_row W _ 1 _ _ _ hWn
  have c4 : W.cell? ⟨w.heap.size, 2, none⟩ = some (.int .i64 x.1.t) := cell_of_row W _ 2 _ _ _ hWn
  have hb1 : W.heap[pb]? = _ := (hbel.block pb hpl).trans h1
  have c1 : W.cell? ⟨pb, 1, none⟩ = some (.map (some ub)) := cell_of_row W pb 1 _ _ _ hb1
  have HW : Hid (w.alloc (.cells #[.string x.1.u, .int .i64 x.1.n, .int .i64 x.1.t] 58) = W) := hW.symm
  have hlk : ∀ W' : World, W'.heap[ub]? = w.heap[ub]? → (Instr.lookup 94 (.map (some ub)) (.string x.1.u) false).run Tryz.prog W' = .ok (.map (some ib)) W' := fun W' e => by
    have := Mp.look (Mp.keep (w' := W') i3 fun k e' => by cases e'; exact e) Tryz.underlying94 (Tryz.zeroMap _) (Tryz.keyT x)
    rw [upd_same] at this
    exact this
  have hlk1 : ∀ n, (Instr.lookup 94 (.map (some ub)) (.string x.1.u) false).run Tryz.prog (W.drewN n) = .ok (.map (some ib)) (W.drewN n) := fun n => hlk _ (hbel.block ub hul)
  have HB1 : Hid (W.heap[pb]? = some (.cells #[.pointer (some ⟨sb, 0, none⟩), .map (some ub)] 96 (0, 0))) := hb1
  have HN1 : Hid (W.heap[w.heap.size]? = some (.cells #[.string x.1.u, .int .i64 x.1.n, .int .i64 x.1.t] 58 (0, 0))) := hWn
  have HLK : Hid _ := hlk
  clear hW hb1 hWn hlk
  go_enter Tryz.func59, Tryz.ntmps59
  go_upto_region 1 with (fail)
  rw [HW.out]
  (refine Go.Lq.wp_region_lastN (fun w' => ∃ k, w' = _root_.Go.World.drewN _ k) 8 (by kernel_rfl) (by kernel_rfl) ⟨1, rfl⟩ ?_; dsimp only [List.dropLast]; (repeat (quiet_step (fail))); refine wpQuiet_nil ?_; intro _ hw'; obtain ⟨nq, hw''⟩ := hw'; subst hw''; refine Go.Lq.wpOp_last rfl rfl ?_; unfold Oper.wp; go_simp)
  obtain ⟨w2, hrun2, hMp2, hg2, hs2, hf2⟩ := (Mp.keep (w' := W.drewN nq) i4 fun k e => (by cases e; exact hbel.block ib hil)).drop Tryz.underlying98 (x := x) trivial
  have hrun2' : ∀ ty, (Builtin.delete_ #[98, 58] ty #[.map (some ib), .agg #[.string x.1.u, .int .i64 x.1.n, .int .i64 x.1.t]]).run Tryz.prog (W.drewN nq) = .ok (.tuple #[]) w2 := hrun2
  have hk2 : ∀ k, k < W.heap.size → k ≠ ib → w2.heap[k]? = W.heap[k]? := fun k hk hki => hg2.block k hk fun e => hki (Option.some.inj e)
  have hs2' : w2.heap.size = W.heap.size := hs2
  have hWs : w.heap.size < W.heap.size := block_lt HN1.out
  have hp2 : w2.heap[pb]? = _ := (hk2 pb (by omega) (Ne.symm hip)).trans HB1.out
  have hn2 : w2.heap[w.heap.size]? = _ := (hk2 _ hWs (by omega)).trans HN1.out
  have hu2 : w2.heap[ub]? = w.heap[ub]? := (hk2 ub (by omega) (Ne.symm i2)).trans (hbel.block ub hul)
  have hMp2' : Mp Tryz.tokKy w2 (some ib) 1 (fun _ => none) := hMp2.cong fun y => by
    by_cases hy : y = x
    · subst hy; rw [upd_same]
    · rw [upd_ne _ _ hy, upd_ne _ _ hy]
  rw [hrun2']
  clear hrun2 hrun2' hlk1 c1 c2 c3 c4
  have c1 : w2.cell? ⟨pb, 1, none⟩ = some (.map (some ub)) := cell_of_row w2 pb 1 _ _ _ hp2
  have c2 : w2.cell? ⟨w.heap.size, 0, none⟩ = some (.string x.1.u) := cell_of_row w2 _ 0 _ _ _ hn2
  have hlk2 : ∀ n, (Instr.lookup 94 (.map (some ub)) (.string x.1.u) false).run Tryz.prog (w2.drewN n) = .ok (.map (some ib)) (w2.drewN n) := fun n => HLK.out _ hu2
  have hlen : ∀ n ty, (Builtin.len_ #[98] ty #[.map (some ib)]).run Tryz.prog (w2.drewN n) = .ok (.int .i64 0) (w2.drewN n) := fun n ty => Ct.len0 (Mp.keep (w' := w2.drewN n) hMp2' fun _ _ => rfl) (fun _ => rfl) Tryz.underlying98 ty
  have HP2 : Hid (w2.heap[pb]? = some (.cells #[.pointer (some ⟨sb, 0, none⟩), .map (some ub)] 96 (0, 0))) := hp2
  clear hp2 hn2
  go_wp2
  go_quiet (fail)
  generalize nq = n1
  go_wp2
  (refine Go.Lq.wp_region_lastN (fun w' => ∃ k, w' = _root_.Go.World.drewN _ k) 6 (by kernel_rfl) (by kernel_rfl) ⟨1, rfl⟩ ?_; dsimp only [List.dropLast]; (repeat (quiet_step (fail))); refine wpQuiet_nil ?_; intro _ hw'; obtain ⟨nq, hw''⟩ := hw'; subst hw''; refine Go.Lq.wpOp_last rfl rfl ?_; unfold Oper.wp; go_simp)
  obtain ⟨w3, hrun3, hMp3, hg3, hs3, hf3⟩ := (Mp.keep (w' := w2.drewN (n1 + nq)) i3 fun k e => (by cases e; exact hu2)).drop Tryz.underlying94 (Tryz.keyT x)
  have hrun3' : ∀ ty, (Builtin.delete_ #[94, 9] ty #[.map (some ub), .string x.1.u]).run Tryz.prog (w2.drewN (n1 + nq)) = .ok (.tuple #[]) w3 := hrun3
  have hk3 : ∀ k, k < w2.heap.size → k ≠ ub → w3.heap[k]? = w2.heap[k]? := fun k hk hki => hg3.block k hk fun e => hki (Option.some.inj e)
  have hs3' : w3.heap.size = w2.heap.size := hs3
  rw [hrun3']
  go_wp2
  go_end0
  have hold : ∀ k, k < w.heap.size → k ≠ ib → k ≠ ub → w3.heap[k]? = w.heap[k]? := fun k hk a b => (hk3 k (by omega) b).trans ((hk2 k (by omega) a).trans (hbel.block k hk))
  have hMp3' : Mp Tryz.txtKy w3 (some ub) 0 (fun _ => none) := Ct.tight (hMp3.cong fun y => by
    by_cases hy : y = x.1.u
    · subst hy; rw [upd_same]
    · rw [upd_ne _ _ hy, upd_ne _ _ hy]) [] fun y e => by cases e
  refine ⟨⟨_, rfl⟩, ⟨⟨own, ⟨⟨sb, ub, os, ou, (hold pb hpl (Ne.symm hip) (Ne.symm hup)).trans h1, h2.keep (fun k e => hold k (h2.lt k e) (fun e' => (h5 k e).2.1 (by rw [e']; exact i1)) (fun e' => (h5 k e).2.1 (by rw [e']; exact h4))) (by omega), hMp3', h4, h5, h6⟩, h.op, fun k e => by have := h.lt k e; omega⟩, fun k e => .inl e⟩, ?_⟩⟩
  have hwo2 : Wo own w w2 := ((Wo.ofBelow hbel).drewN _).grown hg2 fun k e => .inl (by cases e; exact (h6 ib i1).1)
  exact (hwo2.drewN (n1 + nq)).grown hg3 fun k e => .inl (by cases e; exact (h6 ub h4).1)
set_option maxHeartbeats 4000000 in
set_option maxRecDepth 4000 in
theorem Tryz.premove_one {w : World} {own : Nat → Prop} {pb : Nat} {x : {x : Tk // x.ok}} {d : Int} (h : Tryz.Pu w own pb [(x, d)] (some x)) :
    Calls Tryz.prog 29 #[.pointer (some ⟨pb, 0, none⟩), .agg #[.string x.1.u, .int .i64 x.1.n, .int .i64 x.1.t]] w fun e w' => (∃ v, e = .returned v) ∧ Tryz.PChg own w w' pb [] none := by
  obtain ⟨sb, ub, os, ou, h1, h2, h3, h4, h5, h6⟩ := h.ex
  have hpl := h.lt pb h.op
  obtain ⟨W, hW⟩ : ∃ W, W = w.alloc (.cells #[.string x.1.u, .int .i64 x.1.n, .int .i64 x.1.t] 58) := ⟨_, rfl⟩
  have hbel : Below w.heap.size w W := by rw [hW]; exact (Below.refl w.heap.size w).alloc (Nat.le_refl _) _
  have hWn : W.heap[w.heap.size]? = some (.cells #[.string x.1.u, .int .i64 x.1.n, .int .i64 x.1.t] 58 (0, 0)) := by rw [hW]; exact heap_alloc_new w _
  have c2 : W.cell? ⟨w.heap.size, 0, none⟩ = some (.string x.1.u) := cell_of_row W _ 0 _ _ _ hWn
  have c3 : W.cell? ⟨w.heap.size, 1, none⟩ = some (.int .i64 x.1.n) := cell_of_row W _ 1 _ _ _ hWn
  have c4 : W.cell? ⟨w.heap.size, 2, none⟩ = some (.int .i64 x.1.t) := cell_of_row W _ 2 _ _ _ hWn
  have hb1 : W.heap[pb]? = _ := (hbel.block pb hpl).trans h1
  have c0 : W.cell? ⟨pb, 0, none⟩ = some (.pointer (some ⟨sb, 0, none⟩)) := cell_of_row W pb 0 _ _ _ hb1
  have HW : Hid (w.alloc (.cells #[.string x.1.u, .int .i64 x.1.n, .int .i64 x.1.t] 58) = W) := hW.symm
  have hrm : ∀ n, Calls Tryz.prog 58 #[.pointer (some ⟨sb, 0, none⟩), .agg #[.string x.1.u, .int .i64 x.1.n, .int .i64 x.1.t]] (W.drewN n) fun e w' => (∃ v, e = .returned v) ∧ Tryz.PChg own w w' pb [] (some x) ∧ w'.heap[w.heap.size]? = W.heap[w.heap.size]? := fun n =>
    (Tryz.removeT_one (h2.keep (w' := W.drewN n) (fun k e => hbel.block k (h2.lt k e)) hbel.size) trivial).mono fun e w' ⟨e1, e2⟩ => by
      have hc : Tryz.SChgT os w w' sb [] := Tryz.SChgT.trans (own1 := os) ((Wo.ofBelow hbel).drewN n) (fun k e => .inl e) e2
      obtain ⟨os', q1, q2, q3, q5⟩ := Tryz.Pu.shelf h1 h3 h4 h5 h6 h.op h.lt hc
      have hsz := hc.wo.size
      refine ⟨e1, ⟨⟨fun k => own k ∨ (w.heap.size ≤ k ∧ k < w'.heap.size), ⟨⟨sb, ub, os', ou, q1, q2, q3, h4, fun k e => ⟨?_, (q5 k e).2⟩, fun k e => ⟨.inl (h6 k e).1, (h6 k e).2⟩⟩, .inl h.op, fun k e => ?_⟩, fun k e => e.imp id (·.1)⟩, hc.wo.mono fun k e => (h5 k e).1⟩, e2.wo.block _ (block_lt hWn) fun e => by have := h2.lt _ e; omega⟩
      · rcases (q5 k e).1 with e5 | e5
        · exact .inl e5
        · exact .inr ⟨e5, q2.lt k e⟩
      · rcases e with e5 | e5
        · have := h.lt k e5
          omega
        · exact e5.2
  have HWn : Hid (W.heap[w.heap.size]? = some (.cells #[.string x.1.u, .int .i64 x.1.n, .int .i64 x.1.t] 58 (0, 0))) := hWn
  clear hW hWn hb1
  go_enter Tryz.func29, Tryz.ntmps29
  go_upto_region 1 with (fail)
  rw [HW.out]
  (refine Go.Lq.wp_region_lastN (fun w' => ∃ k, w' = _root_.Go.World.drewN _ k) 5 (by kernel_rfl) (by kernel_rfl) ⟨1, rfl⟩ ?_; dsimp only [List.dropLast]; (repeat (quiet_step (fail))); refine wpQuiet_nil ?_; intro _ hw'; obtain ⟨nq, hw''⟩ := hw'; subst hw''; refine Go.Lq.wpOp_last rfl rfl ?_; unfold Oper.wp; go_simp)
  refine (hrm nq).mono ?_
  rintro e w2 ⟨⟨v, rfl⟩, hc, hbx⟩
  clear hrm c0 c2 c3 c4
  have hn2 : w2.heap[w.heap.size]? = _ := hbx.trans HWn.out
  have c2 : w2.cell? ⟨w.heap.size, 0, none⟩ = some (.string x.1.u) := cell_of_row w2 _ 0 _ _ _ hn2
  have c3 : w2.cell? ⟨w.heap.size, 1, none⟩ = some (.int .i64 x.1.n) := cell_of_row w2 _ 1 _ _ _ hn2
  have c4 : w2.cell? ⟨w.heap.size, 2, none⟩ = some (.int .i64 x.1.t) := cell_of_row w2 _ 2 _ _ _ hn2
  obtain ⟨own1, hP, ho1⟩ := hc.ex
  have hdis := Tryz.disown_one hP
  clear hn2
  go_wp2_with (first
    | (go_at_call 59; refine hdis.mono ?_; clear hdis; rintro e w3 ⟨⟨v3, rfl⟩, hc3⟩)
    | fail)
  go_end0
  exact ⟨⟨_, rfl⟩, Tryz.PChg.trans hc.wo ho1 hc3⟩
end Go.Proofs
