/-
  Laid together by pack.py of ScT SdT SeT SfT SgT SiT.
-/
import Derived.Test.YtlfiebapfgpchaaGreatDoorPkA
import Derived.Test.YtlfiebapfgpchaaGreatDoorSqLq
import Derived.Test.YtlfiebapfgpchaaGreatDoorLqn
import Derived.Deep.RegionLaw
import Derived.Deep.DeepCutAuto
import Derived.Laws.CopyRow
namespace Go.Proofs
open Go.RowKit Go.Wi Go.Se Go.Ct
theorem Tryz.infoRowT : (Tryz.prog.info? 130).map (fun i => (i.zero, i.size, i.bytes)) = some (some (.agg #[.string ⟨#[]⟩, .int .i64 0, .int .i64 0, .int .i64 0]), 4, 40) := by kernel_rfl
def Tryz.rowT (x : {x : Tk // x.ok}) (d : Int) : List Value := [.string x.1.u, .int .i64 x.1.n, .int .i64 x.1.t, .int .i64 d]
/-- All rows' cells. -/
def Tryz.rowsT (L : List ({x : Tk // x.ok} × Int)) : List Value := L.flatMap fun p => Tryz.rowT p.1 p.2
/-- Where a key stands. -/
noncomputable def Tryz.atT (L : List ({x : Tk // x.ok} × Int)) : {x : Tk // x.ok} → Option Value := fun x => (L.findIdx? fun p => decide (p.1 = x)).map fun (i : Nat) => .int .i64 (i : Int)
/-- A shelf that holds L, all of it in blocks of its own. -/
structure Tryz.ShT (w : World) (own : Nat → Prop) (b : Nat) (L : List ({x : Tk // x.ok} × Int)) : Prop where
  ex : ∃ V m, w.heap[b]? = some (.cells #[V, .map (some m)] 128 (0, 0)) ∧ w.ownsRow 0 130 4 V L.length (Tryz.rowsT L) ∧ Mp Tryz.tokKy w (some m) L.length (Tryz.atT L) ∧ V.ownBlock ≠ some b ∧ V.ownBlock ≠ some m ∧ m ≠ b ∧ own m ∧ (∀ k, V.ownBlock = some k → own k)
  ob : own b
  lt : ∀ k, own k → k < w.heap.size
theorem Tryz.ShT.keep {w w' : World} {own : Nat → Prop} {b : Nat} {L : List ({x : Tk // x.ok} × Int)} (h : Tryz.ShT w own b L) (hk : ∀ k, own k → w'.heap[k]? = w.heap[k]?) (hs : w.heap.size ≤ w'.heap.size) : Tryz.ShT w' own b L := by
  obtain ⟨V, m, h1, h2, h3, h4, h5, h6, h7, h8⟩ := h.ex
  exact ⟨⟨V, m, (hk b h.ob).trans h1, Wi.row_heap h2 fun k e => hk k (h8 k e), h3.keep fun k e => (by cases e; exact hk m h7), h4, h5, h6, h7, h8⟩, h.ob, fun k e => Nat.lt_of_lt_of_le (h.lt k e) hs⟩
/-- What a call on a shelf leaves. -/
structure Tryz.SChgT (own : Nat → Prop) (w w' : World) (b : Nat) (L : List ({x : Tk // x.ok} × Int)) : Prop where
  ex : ∃ own', Tryz.ShT w' own' b L ∧ ∀ k, own' k → own k ∨ w.heap.size ≤ k
  wo : Wo own w w'
theorem Tryz.SChgT.refl {own : Nat → Prop} {w : World} {b : Nat} {L : List ({x : Tk // x.ok} × Int)} (h : Tryz.ShT w own b L) : Tryz.SChgT own w w b L := ⟨⟨own, h, fun _ e => .inl e⟩, Wo.refl _ _⟩
theorem Tryz.SChgT.trans {own own1 : Nat → Prop} {w w1 w2 : World} {b : Nat} {L : List ({x : Tk // x.ok} × Int)} (hw : Wo own w w1) (ho : ∀ k, own1 k → own k ∨ w.heap.size ≤ k) (g : Tryz.SChgT own1 w1 w2 b L) : Tryz.SChgT own w w2 b L := by
  obtain ⟨own2, h1, h2⟩ := g.ex
  have hs := hw.size
  refine ⟨⟨own2, h1, fun k e => ?_⟩, hw.step ho g.wo⟩
  rcases h2 k e with e1 | e1
  · exact ho k e1
  · exact .inr (by omega)
theorem Tryz.SChgT.drewN {own : Nat → Prop} {w w' : World} {b : Nat} {L : List ({x : Tk // x.ok} × Int)} (h : Tryz.SChgT own w w' b L) (n : Nat) : Tryz.SChgT own w (w'.drewN n) b L := by
  obtain ⟨own', h1, h2⟩ := h.ex
  exact ⟨⟨own', h1.keep (fun _ _ => rfl) (Nat.le_refl _), h2⟩, h.wo.drewN n⟩
theorem Tryz.SChgT.later {own : Nat → Prop} {w w1 w2 : World} {b : Nat} {L : List ({x : Tk // x.ok} × Int)} (h : Tryz.SChgT own w w1 b L) (g : Below w1.heap.size w1 w2) : Tryz.SChgT own w w2 b L := by
  obtain ⟨own', h1, h2⟩ := h.ex
  exact ⟨⟨own', h1.keep (fun k e => g.block k (h1.lt k e)) g.size, h2⟩, h.wo.below g h.wo.size⟩
set_option maxHeartbeats 1000000 in
theorem Tryz.lenT_any {w : World} {own : Nat → Prop} {b : Nat} {L : List ({x : Tk // x.ok} × Int)} (h : Tryz.ShT w own b L) :
    Calls Tryz.prog 138 #[.pointer (some ⟨b, 0, none⟩)] w fun e w' => e = .returned (.int .i64 (L.length : Nat)) ∧ w' = w := by
  obtain ⟨V, m, h1, h2, h3, h4, h5, h6, h7, h8⟩ := h.ex
  have hV : ∃ ad cap, V = .slice ad L.length cap := by
    rcases h2.2 with ⟨rfl, e⟩ | ⟨g, cap, cur, e, _⟩
    · exact ⟨none, 0, by rw [e]⟩
    · exact ⟨_, _, e⟩
  obtain ⟨ad, cap, rfl⟩ := hV
  have hc := cell_of_row w b 0 _ _ _ h1
  clear h1 h2 h3 h4 h5 h6 h7 h8 h
  go_enter Tryz.func138, Tryz.ntmps138
  go_wp2
  go_ret
  exact ⟨rfl, rfl⟩
theorem Tryz.atT_nil (x : {x : Tk // x.ok}) : Tryz.atT [] x = none := rfl
set_option maxHeartbeats 1000000 in
set_option maxRecDepth 20000 in
theorem Tryz.newShelfT_any (w : World) :
    Calls Tryz.prog 63 #[] w fun e w' => ∃ b, e = .returned (.pointer (some ⟨b, 0, none⟩)) ∧ Tryz.ShT w' (fun k => w.heap.size ≤ k ∧ k < w'.heap.size) b [] ∧ Below w.heap.size w w' := by
  have hmm := @run_makeMap Tryz.prog
  go_enter Tryz.func63, Tryz.ntmps63
  go_wp2
  go_ret
  have e0 : (w.alloc (.map #[] 0)).heap.size = w.heap.size + 1 := by simp
  have p0 := Mp.made Tryz.tokKy w
  have hb := heap_alloc_new (w.alloc (.map #[] 0)) (.cells #[.slice none 0 0, .map (some w.heap.size)] 128)
  rw [e0] at hb
  refine ⟨w.heap.size + 1, rfl, ⟨⟨.slice none 0 0, w.heap.size, hb, World.ownsRow_nil _ _ _ _, (p0.keep fun x e => by injection e with e; subst e; rw [Ct.alloc_old _ (by omega)]), by simp [Value.ownBlock], by simp [Value.ownBlock], by omega, ⟨by omega, by simp; omega⟩, fun k e => by simp [Value.ownBlock] at e⟩, ⟨by omega, by simp⟩, fun k e => e.2⟩, ((Below.refl _ w).alloc (Nat.le_refl _) _).alloc (by omega) _⟩
theorem Tryz.rowsT_len (L : List ({x : Tk // x.ok} × Int)) : (Tryz.rowsT L).length = L.length * 4 := by
  induction L with
  | nil => rfl
  | cons p L ih =>
    have e : Tryz.rowsT (p :: L) = Tryz.rowT p.1 p.2 ++ Tryz.rowsT L := rfl
    have e2 : (Tryz.rowT p.1 p.2).length = 4 := rfl
    rw [e, List.length_append, ih, e2, List.length_cons]
    omega
theorem Tryz.rowsT_app (L M : List ({x : Tk // x.ok} × Int)) : Tryz.rowsT (L ++ M) = Tryz.rowsT L ++ Tryz.rowsT M := by simp [Tryz.rowsT]
/-- 'append(s.rows, r)', and where it lies then. -/
theorem Tryz.appRowT {ops : Array Oper} {o : Oper} {a : Act} {K : Act → World → Prop} {Q : Exit → Act → World → Prop} {E : Prop} (hgd : o.guard = none) (s y : Operand)
    (ho : o.op = .call { callee := .builtin .append, args := #[s, y], argTypes := #[125, 125] })
    {w : World} {b m : Nat} {V : Value} {L : List ({x : Tk // x.ok} × Int)} (hb : w.heap[b]? = some (.cells #[V, .map (some m)] 128 (0, 0))) (hrow : w.ownsRow 0 130 4 V L.length (Tryz.rowsT L)) (hV : V.ownBlock ≠ some b)
    (hs : a.eval s = V) (hy : a.eval y = .slice (some ⟨w.heap.size, 0, none⟩) 1 1) (x : {x : Tk // x.ok}) (d : Int) (hlen : L.length + 1 ≤ 1000000000000)
    (hK : ∀ g n cap w1, w1.cell? ⟨b, 0, none⟩ = some V → w1.frozen? ⟨b, 0, none⟩ = false → (w1.setCell ⟨b, 0, none⟩ (.slice (some ⟨g, 0, none⟩) n cap)).heap[b]? = some (.cells #[.slice (some ⟨g, 0, none⟩) n cap, .map (some m)] 128 (0, 0)) →
      (w1.setCell ⟨b, 0, none⟩ (.slice (some ⟨g, 0, none⟩) n cap)).ownsRow 0 130 4 (.slice (some ⟨g, 0, none⟩) n cap) (L ++ [(x, d)]).length (Tryz.rowsT (L ++ [(x, d)])) → g ≠ b → (V.ownBlock = some g ∨ w.heap.size ≤ g) → g < w1.heap.size →
      Wo (fun k => k = b ∨ V.ownBlock = some k) w (w1.setCell ⟨b, 0, none⟩ (.slice (some ⟨g, 0, none⟩) n cap)) → K (a.put o.dst (.slice (some ⟨g, 0, none⟩) n cap)) w1) :
    if Region.wanted o (yielded ops a.tmps) = true then Oper.wp Tryz.prog o a (w.alloc (.cells (Tryz.rowT x d).toArray 130)) K Q else E := by
  obtain ⟨i0, hi0, hz0, hz1, hz2⟩ := info_parts Tryz.infoRowT
  have hn : (w.alloc (.cells (Tryz.rowT x d).toArray 130)).heap[w.heap.size]? = some (.cells (Tryz.rowT x d).toArray 130 (0, 0)) := heap_alloc_new w _
  have hbel : Below w.heap.size w (w.alloc (.cells (Tryz.rowT x d).toArray 130)) := (Below.refl w.heap.size w).alloc (Nat.le_refl _) _
  have hrow1 := Wi.row_heap hrow fun k e => hbel.block k (hrow.lt k e).2
  have hsz : (w.alloc (.cells (Tryz.rowT x d).toArray 130)).heap.size = w.heap.size + 1 := by simp
  refine step_append_lies _ hgd s y 125 ho 0 130 i0 _ 4 40 Tryz.underlying125 hi0 hz0 hz1 hz2 rfl (by omega) V L.length (Tryz.rowsT L) hs hrow1 ⟨w.heap.size, 0, none⟩ 1 1 (Tryz.rowT x d) hy rfl (World.news_of_block hn) (fun u hu => ?_) (by omega) (by unfold maxLen; omega) (by omega) (by omega) _ rfl ?_
  · simp [Tryz.rowT] at hu
    rcases hu with hu | hu
    · rw [hu]; rfl
    · rcases hu with rfl | rfl | rfl <;> rfl
  · intro g cap w' hown hg hat hlt
    have hbl : b < w.heap.size := block_lt hb
    have hw : Wo (fun k => V.ownBlock = some k) w w' := (Wo.ofBelow hbel).grown hg fun k e => .inl e
    have hgb : g ≠ b := fun e => by
      subst e
      rcases hat with e1 | e1
      · exact hV e1
      · omega
    have hb1 : w'.heap[b]? = some (.cells #[V, .map (some m)] 128 (0, 0)) := (hw.block b hbl hV).trans hb
    have e : Tryz.rowsT L ++ Tryz.rowT x d = Tryz.rowsT (L ++ [(x, d)]) := by rw [Tryz.rowsT_app]; simp [Tryz.rowsT]
    have el : L.length + 1 = (L ++ [(x, d)]).length := by simp
    rw [e] at hown
    refine hK g (L.length + 1) cap w' (cell_of_row _ _ _ _ _ _ hb1) (frozen_of_row _ _ _ _ _ hb1) (heap_setCell_same w' b 0 _ _ _ hb1) ?_ hgb ?_ hlt ?_
    · rw [el] at hown ⊢
      exact ownsRow_setCell_other hown (by simpa [Value.ownBlock] using hgb) _
    · rcases hat with e1 | e1
      · exact .inl e1
      · exact .inr (by omega)
    · exact (hw.mono fun k e => .inr e).setCell b 0 _ (.inl (.inl rfl))
theorem Tryz.isRowT (v : Value) (w : World) : (Instr.typeAssert (.iface 130 v) 20 130 true).run Tryz.prog w = .ok (.tuple #[v, .bool true]) w := by kernel_rfl
end Go.Proofs
namespace Go.Proofs
open Go.RowKit Go.Wi Go.Se Go.Ct
theorem Tryz.atT_snoc {L : List ({x : Tk // x.ok} × Int)} {x : {x : Tk // x.ok}} {d : Int} (hn : ∀ p ∈ L, p.1 ≠ x) : Tryz.atT (L ++ [(x, d)]) = upd (Tryz.atT L) x (some (.int .i64 (L.length : Nat))) := by
  funext y
  unfold Tryz.atT
  rw [List.findIdx?_append]
  by_cases hy : y = x
  · subst hy
    rw [upd_same]
    have : L.findIdx? (fun p => decide (p.1 = y)) = none := by
      rw [List.findIdx?_eq_none_iff]
      intro p hp
      simpa using hn p hp
    rw [this]
    simp
  · rw [upd_ne _ _ hy]
    have : decide (x = y) = false := by simp [Ne.symm hy]
    cases hL : L.findIdx? (fun p => decide (p.1 = y)) with
    | none => simp [List.findIdx?_cons, this]
    | some i => simp
theorem Se.row_other {w w' : World} {m : Nat} {B : Nat} {e : TypeId} {size : Nat} {v : Value} {n : Nat} {xs : List Value} (h : w.ownsRow B e size v n xs) (hv : v.ownBlock ≠ some m) (hk : ∀ k, k ≠ m → w'.heap[k]? = w.heap[k]?) : w'.ownsRow B e size v n xs :=
  Wi.row_heap h fun k e => hk k fun e' => hv (by rw [e, e'])
set_option maxHeartbeats 2000000 in
set_option maxRecDepth 4000 in
theorem Tryz.pushT_any {w : World} {own : Nat → Prop} {b : Nat} {L : List ({x : Tk // x.ok} × Int)} (h : Tryz.ShT w own b L) (x : {x : Tk // x.ok}) (d : Int) (hx : (Tryz.tokKy).ok x) (hn : ∀ p ∈ L, p.1 ≠ x) (hlen : L.length ≤ 1000000000) :
    Calls Tryz.prog 141 #[.pointer (some ⟨b, 0, none⟩), .iface 130 (.agg #[.string x.1.u, .int .i64 x.1.n, .int .i64 x.1.t, .int .i64 d])] w fun e w' => (∃ v, e = .returned v) ∧ Tryz.SChgT own w w' b (L ++ [(x, d)]) := by
  obtain ⟨V, m, h1, h2, h3, h4, h5, h6, h7, h8⟩ := h.ex
  have hV : ∃ ad cap, V = .slice ad L.length cap := by
    rcases h2.2 with ⟨rfl, e⟩ | ⟨g, cap, cur, e, _⟩
    · exact ⟨none, 0, by rw [e]⟩
    · exact ⟨_, _, e⟩
  obtain ⟨ad, cap, rfl⟩ := hV
  have hbl := h.lt b h.ob
  have H1 : Hid _ := h1
  have H2 : Hid (w.ownsRow 0 130 4 (.slice ad L.length cap) L.length (Tryz.rowsT L)) := h2
  have H3 : Hid _ := h3
  have Hlen : Hid (L.length ≤ 1000000000) := hlen
  have tA := Tryz.isRowT
  obtain ⟨W, hW⟩ : ∃ W, W = w.alloc (.cells #[.string x.1.u, .int .i64 x.1.n, .int .i64 x.1.t, .int .i64 d] 130) := ⟨_, rfl⟩
  have hbel : Below w.heap.size w W := by rw [hW]; exact (Below.refl w.heap.size w).alloc (Nat.le_refl _) _
  have hWn : W.heap[w.heap.size]? = some (.cells #[.string x.1.u, .int .i64 x.1.n, .int .i64 x.1.t, .int .i64 d] 130 (0, 0)) := by rw [hW]; exact heap_alloc_new w _
  have hb1 : W.heap[b]? = _ := (hbel.block b hbl).trans h1
  have c0 : W.cell? ⟨b, 0, none⟩ = some (.slice ad L.length cap) := cell_of_row W b 0 _ _ _ hb1
  have c1 : W.cell? ⟨b, 1, none⟩ = some (.map (some m)) := cell_of_row W b 1 _ _ _ hb1
  have c2 : W.cell? ⟨w.heap.size, 0, none⟩ = some (.string x.1.u) := cell_of_row W _ 0 _ _ _ hWn
  have c3 : W.cell? ⟨w.heap.size, 1, none⟩ = some (.int .i64 x.1.n) := cell_of_row W _ 1 _ _ _ hWn
  have c4 : W.cell? ⟨w.heap.size, 2, none⟩ = some (.int .i64 x.1.t) := cell_of_row W _ 2 _ _ _ hWn
  have c5 : W.cell? ⟨w.heap.size, 3, none⟩ = some (.int .i64 d) := cell_of_row W _ 3 _ _ _ hWn
  have Hb1 : Hid (W.heap[b]? = some (.cells #[.slice ad L.length cap, .map (some m)] 128 (0, 0))) := hb1
  have Hn1 : Hid (W.heap[w.heap.size]? = some (.cells #[.string x.1.u, .int .i64 x.1.n, .int .i64 x.1.t, .int .i64 d] 130 (0, 0))) := hWn
  have hmp : Mp Tryz.tokKy W (some m) L.length (Tryz.atT L) := h3.keep fun k e => (by cases e; exact hbel.block m (h.lt m h7))
  have Hmp : Hid (Mp Tryz.tokKy W (some m) L.length (Tryz.atT L)) := hmp
  have HW : Hid (W = w.alloc (.cells #[.string x.1.u, .int .i64 x.1.n, .int .i64 x.1.t, .int .i64 d] 130)) := hW
  clear h1 h2 h3 hlen hb1 hmp hWn hW
  go_enter Tryz.func141, Tryz.ntmps141
  go_upto_region 2 with (fail)
  rw [← HW.out]
  (refine Go.Lq.wp_region_last 11 (by kernel_rfl) (by kernel_rfl) ?_; dsimp only [List.dropLast]; (repeat (quiet_step (fail))); refine wpQuiet_nil ?_; intro _ hw'; obtain ⟨nq, hw''⟩ := hw'; subst hw''; refine Go.Lq.wpOp_last rfl rfl ?_; unfold Oper.wp; go_simp)
  obtain ⟨w1, hrun, hMp1, htu⟩ := (Mp.keep (w' := W.drewN nq) Hmp.out fun _ _ => rfl).store Tryz.underlying126 (by have := Hlen.out; unfold maxLen; omega) hx (.int .i64 (L.length : Nat))
  have hrun' : (Instr.mapUpdate 126 (.map (some m)) (.agg #[.string x.1.u, .int .i64 x.1.n, .int .i64 x.1.t]) (.int .i64 (L.length : Nat))).run Tryz.prog (W.drewN nq) = .ok () w1 := hrun
  have hg1 := htu.grown
  have hk1 : ∀ k, k < W.heap.size → k ≠ m → w1.heap[k]? = W.heap[k]? := fun k hk hkm => hg1.block k hk fun e => hkm (Option.some.inj e)
  have hs1 : W.heap.size ≤ w1.heap.size := hg1.size
  have hbw : b < W.heap.size := block_lt Hb1.out
  have hnw : w.heap.size < W.heap.size := block_lt Hn1.out
  have hmw : m < w.heap.size := h.lt m h7
  have hb2 : w1.heap[b]? = _ := (hk1 b hbw (Ne.symm h6)).trans Hb1.out
  have hn2 : w1.heap[w.heap.size]? = _ := (hk1 _ hnw (by omega)).trans Hn1.out
  have hrow2 : w1.ownsRow 0 130 4 (.slice ad L.length cap) L.length (Tryz.rowsT L) := Wi.row_heap H2.out fun k e => (hk1 k (Nat.lt_of_lt_of_le (h.lt k (h8 k e)) hbel.size) (fun e' => h5 (by rw [e, e']))).trans (hbel.block k (h.lt k (h8 k e)))
  have hwo1 : Wo (fun k => k = m) w w1 := ((Wo.ofBelow hbel).drewN nq).grown (w2 := w1) hg1 fun k e => .inl (Option.some.inj e).symm
  have Hb2 : Hid (w1.heap[b]? = some (.cells #[.slice ad L.length cap, .map (some m)] 128 (0, 0))) := hb2
  have Hrow2 : Hid (w1.ownsRow 0 130 4 (.slice ad L.length cap) L.length (Tryz.rowsT L)) := hrow2
  have HMp1 : Hid (Mp Tryz.tokKy w1 (some m) (L.length + 1) (upd (Tryz.atT L) x (some (.int .i64 (L.length : Nat))))) := hMp1
  have Hwo1 : Hid (Wo (fun k => k = m) w w1) := hwo1
  rw [hrun']
  clear c0 c1 c2 c3
  clear c4 c5
  have c0 : w1.cell? ⟨b, 0, none⟩ = some (.slice ad L.length cap) := cell_of_row w1 b 0 _ _ _ hb2
  have c2 : w1.cell? ⟨w.heap.size, 0, none⟩ = some (.string x.1.u) := cell_of_row w1 _ 0 _ _ _ hn2
  have c3 : w1.cell? ⟨w.heap.size, 1, none⟩ = some (.int .i64 x.1.n) := cell_of_row w1 _ 1 _ _ _ hn2
  have c4 : w1.cell? ⟨w.heap.size, 2, none⟩ = some (.int .i64 x.1.t) := cell_of_row w1 _ 2 _ _ _ hn2
  have c5 : w1.cell? ⟨w.heap.size, 3, none⟩ = some (.int .i64 d) := cell_of_row w1 _ 3 _ _ _ hn2
  have hbw1 : b < w1.heap.size := block_lt hb2
  have c0a : (w1.alloc (.cells #[.string x.1.u, .int .i64 x.1.n, .int .i64 x.1.t, .int .i64 d] 130)).cell? ⟨b, 0, none⟩ = some (.slice ad L.length cap) := (World.cell?_of_block (a := ⟨b, 0, none⟩) (Ct.alloc_old _ hbw1)).trans c0
  clear hrun hrun' hMp1 htu hg1 hk1 hb2 hn2 hrow2 hwo1 tA
  go_wp2
  go_region_law (first | (refine Tryz.appRowT rfl _ _ rfl (w := w1.drew) Hb2.out Hrow2.out h4 rfl rfl x d (by have := Hlen.out; omega) ?_; intro g n cap' w2 d1 d2 d3 d4 d5 d6 d7 d8) | fail)
  all_goals go_end0
  all_goals
    refine ⟨⟨_, rfl⟩, ?_⟩
    have hws : w.heap.size ≤ w1.heap.size := Hwo1.out.size
    have hmw1 : m < w1.heap.size := by omega
    have hs2 : w1.heap.size ≤ (w2.setCell ⟨b, 0, none⟩ (.slice (some ⟨g, 0, none⟩) n cap')).heap.size := d8.size
    have hsc : (w2.setCell ⟨b, 0, none⟩ (.slice (some ⟨g, 0, none⟩) n cap')).heap.size = w2.heap.size := by simp
    have hkm := d8.block m hmw1 (by rintro (e | e); exact h6 e; exact h5 e)
    refine ⟨⟨fun k => own k ∨ (w.heap.size ≤ k ∧ k < (w2.setCell ⟨b, 0, none⟩ (.slice (some ⟨g, 0, none⟩) n cap')).heap.size), ⟨⟨_, m, d3, d4, ?_, ?_, ?_, h6, .inl h7, ?_⟩, .inl h.ob, ?_⟩, fun k e => e.imp id (·.1)⟩, ?_⟩
    · rw [Tryz.atT_snoc hn, List.length_append]
      exact HMp1.out.keep fun k e => (by cases e; exact hkm)
    · simpa [Value.ownBlock] using d5
    · intro e
      simp only [Value.ownBlock, Option.some.injEq] at e
      subst e
      rcases d6 with e1 | e1
      · exact h5 e1
      · have e1' : w1.heap.size ≤ g := e1
        omega
    · intro k e
      simp only [Value.ownBlock, Option.some.injEq] at e
      subst e
      rcases d6 with e1 | e1
      · exact .inl (h8 g e1)
      · have e1' : w1.heap.size ≤ g := e1
        exact .inr ⟨by omega, by rw [hsc]; exact d7⟩
    · rintro k (e | e)
      · have := h.lt k e
        omega
      · exact e.2
    · refine (Hwo1.out.mono fun k e => ?_).drew.step (own1 := fun k => k = b ∨ (Value.slice ad L.length cap).ownBlock = some k) (fun k e => ?_) d8
      · subst e; exact h7
      · rcases e with e | e
        · subst e; exact .inl h.ob
        · exact .inl (h8 k e)
end Go.Proofs
namespace Go.Proofs
open Go.RowKit Go.Wi Go.Se Go.Ct
/-- The time of a key. -/
noncomputable def Tryz.dueT (L : List ({x : Tk // x.ok} × Int)) (x : {x : Tk // x.ok}) : Int := match L with
  | [] => 0
  | p :: _ => if p.1 = x then p.2 else 0
theorem Tryz.atT_one (y x : {x : Tk // x.ok}) (d : Int) : Tryz.atT [(y, d)] x = if y = x then some (.int .i64 0) else none := by
  unfold Tryz.atT
  by_cases h : y = x
  · simp [List.findIdx?_cons, h]
  · simp [List.findIdx?_cons, h]
theorem Tryz.ShT.row1 {w : World} {V : Value} {y : {x : Tk // x.ok}} {d : Int} (h : w.ownsRow 0 130 4 V 1 (Tryz.rowsT [(y, d)])) : ∃ g cap cur, V = .slice (some ⟨g, 0, none⟩) 1 cap ∧ w.heap[g]? = some (.cells cur 130 (0, 0)) ∧ 1 ≤ cap ∧ cap ≤ maxLen ∧ cur.size = cap * 4 ∧ cur.toList.take 4 = Tryz.rowT y d := by
  rcases h.2 with ⟨_, e⟩ | ⟨g, cap, cur, e, _, h1, h2, h3, h4, h5⟩
  · cases e
  · exact ⟨g, cap, cur, e, h1, h2, h3, h4, by rw [Nat.one_mul] at h5; rw [h5]; simp [Tryz.rowsT]⟩
theorem Se.take_cell {w : World} {g : Nat} {cur : Array Value} {T : TypeId} {n : Nat} {xs : List Value} (hg : w.heap[g]? = some (.cells cur T (0, 0))) (h : cur.toList.take n = xs) (j : Nat) (v : Value) (hv : xs[j]? = some v) : w.cell? ⟨g, j, none⟩ = some v := by
  rw [cell_of_row _ _ _ _ _ _ hg]
  rw [← h, List.getElem?_take] at hv
  split at hv
  · simpa using hv
  · cases hv
set_option maxHeartbeats 2000000 in
set_option maxRecDepth 4000 in
theorem Tryz.untilT_nil {w : World} {own : Nat → Prop} {b : Nat} (h : Tryz.ShT w own b []) (x : {x : Tk // x.ok}) (hx : (Tryz.tokKy).ok x) :
    Calls Tryz.prog 76 #[.pointer (some ⟨b, 0, none⟩), (.agg #[.string x.1.u, .int .i64 x.1.n, .int .i64 x.1.t])] w fun e w' => e = .returned (.int .i64 0) ∧ Below w.heap.size w w' := by
  obtain ⟨V, m, h1, h2, h3, h4, h5, h6, h7, h8⟩ := h.ex
  have hbl := h.lt b h.ob
  have hml := h.lt m h7
  obtain ⟨W, hW⟩ : ∃ W, W = w.alloc (.cells #[.string x.1.u, .int .i64 x.1.n, .int .i64 x.1.t] 58) := ⟨_, rfl⟩
  have hbel : Below w.heap.size w W := by rw [hW]; exact (Below.refl w.heap.size w).alloc (Nat.le_refl _) _
  have hWn : W.heap[w.heap.size]? = some (.cells #[.string x.1.u, .int .i64 x.1.n, .int .i64 x.1.t] 58 (0, 0)) := by rw [hW]; exact heap_alloc_new w _
  have c2 : W.cell? ⟨w.heap.size, 0, none⟩ = some (.string x.1.u) := cell_of_row W _ 0 _ _ _ hWn
  have c3 : W.cell? ⟨w.heap.size, 1, none⟩ = some (.int .i64 x.1.n) := cell_of_row W _ 1 _ _ _ hWn
  have c4 : W.cell? ⟨w.heap.size, 2, none⟩ = some (.int .i64 x.1.t) := cell_of_row W _ 2 _ _ _ hWn
  have HW : Hid (w.alloc (.cells #[.string x.1.u, .int .i64 x.1.n, .int .i64 x.1.t] 58) = W) := hW.symm
  clear hWn
  have hb1 : W.heap[b]? = _ := (hbel.block b hbl).trans h1
  have c0 : W.cell? ⟨b, 0, none⟩ = some V := cell_of_row W b 0 _ _ _ hb1
  have c1 : W.cell? ⟨b, 1, none⟩ = some (.map (some m)) := cell_of_row W b 1 _ _ _ hb1
  have hmp : Mp Tryz.tokKy W (some m) _ (Tryz.atT []) := h3.keep fun k e => (by cases e; exact hbel.block m hml)
  have hlk : ∀ W', W'.heap = W.heap → (Instr.lookup 126 (.map (some m)) (.agg #[.string x.1.u, .int .i64 x.1.n, .int .i64 x.1.t]) true).run Tryz.prog W' = .ok (.tuple #[(Tryz.atT [] x).getD (.int .i64 0), .bool (Tryz.atT [] x).isSome]) W' := fun W' e => Ct.lookOk (Mp.keep (w' := W') hmp fun _ _ => by rw [e]) Tryz.underlying126 (Tryz.zeroInt W') hx
  have hlkN : ∀ n, (Instr.lookup 126 (.map (some m)) (.agg #[.string x.1.u, .int .i64 x.1.n, .int .i64 x.1.t]) true).run Tryz.prog (W.drewN n) = .ok (.tuple #[(Tryz.atT [] x).getD (.int .i64 0), .bool (Tryz.atT [] x).isSome]) (W.drewN n) := fun n => hlk _ rfl
  rw [Tryz.atT_nil] at hlkN
  simp only [Option.getD_none, Option.isSome_none] at hlkN
  clear hlk hW h1 h2 h3 h4 h5 h6 h7 h8 hb1 hmp h
  go_enter Tryz.func76, Tryz.ntmps76
  go_upto_region 1 with (fail)
  rw [HW.out]
  go_quiet (fail)
  go_wp2
  go_ret
  exact ⟨rfl, belowN hbel nq⟩
set_option maxHeartbeats 2000000 in
set_option maxRecDepth 4000 in
theorem Tryz.untilT_one {w : World} {own : Nat → Prop} {b : Nat} {y : {x : Tk // x.ok}} {d : Int} (h : Tryz.ShT w own b [(y, d)]) (x : {x : Tk // x.ok}) (hx : (Tryz.tokKy).ok x) :
    Calls Tryz.prog 76 #[.pointer (some ⟨b, 0, none⟩), (.agg #[.string x.1.u, .int .i64 x.1.n, .int .i64 x.1.t])] w fun e w' => e = .returned (.int .i64 (if y = x then d else 0)) ∧ Below w.heap.size w w' := by
  obtain ⟨V, m, h1, h2, h3, h4, h5, h6, h7, h8⟩ := h.ex
  have hbl := h.lt b h.ob
  have hml := h.lt m h7
  obtain ⟨W, hW⟩ : ∃ W, W = w.alloc (.cells #[.string x.1.u, .int .i64 x.1.n, .int .i64 x.1.t] 58) := ⟨_, rfl⟩
  have hbel : Below w.heap.size w W := by rw [hW]; exact (Below.refl w.heap.size w).alloc (Nat.le_refl _) _
  have hWn : W.heap[w.heap.size]? = some (.cells #[.string x.1.u, .int .i64 x.1.n, .int .i64 x.1.t] 58 (0, 0)) := by rw [hW]; exact heap_alloc_new w _
  have c2 : W.cell? ⟨w.heap.size, 0, none⟩ = some (.string x.1.u) := cell_of_row W _ 0 _ _ _ hWn
  have c3 : W.cell? ⟨w.heap.size, 1, none⟩ = some (.int .i64 x.1.n) := cell_of_row W _ 1 _ _ _ hWn
  have c4 : W.cell? ⟨w.heap.size, 2, none⟩ = some (.int .i64 x.1.t) := cell_of_row W _ 2 _ _ _ hWn
  have HW : Hid (w.alloc (.cells #[.string x.1.u, .int .i64 x.1.n, .int .i64 x.1.t] 58) = W) := hW.symm
  clear hWn
  have hb1 : W.heap[b]? = _ := (hbel.block b hbl).trans h1
  have c0 : W.cell? ⟨b, 0, none⟩ = some V := cell_of_row W b 0 _ _ _ hb1
  have c1 : W.cell? ⟨b, 1, none⟩ = some (.map (some m)) := cell_of_row W b 1 _ _ _ hb1
  have hmp : Mp Tryz.tokKy W (some m) _ (Tryz.atT [(y, d)]) := h3.keep fun k e => (by cases e; exact hbel.block m hml)
  have hlk : ∀ W', W'.heap = W.heap → (Instr.lookup 126 (.map (some m)) (.agg #[.string x.1.u, .int .i64 x.1.n, .int .i64 x.1.t]) true).run Tryz.prog W' = .ok (.tuple #[(Tryz.atT [(y, d)] x).getD (.int .i64 0), .bool (Tryz.atT [(y, d)] x).isSome]) W' := fun W' e => Ct.lookOk (Mp.keep (w' := W') hmp fun _ _ => by rw [e]) Tryz.underlying126 (Tryz.zeroInt W') hx
  have hlkN : ∀ n, (Instr.lookup 126 (.map (some m)) (.agg #[.string x.1.u, .int .i64 x.1.n, .int .i64 x.1.t]) true).run Tryz.prog (W.drewN n) = .ok (.tuple #[(Tryz.atT [(y, d)] x).getD (.int .i64 0), .bool (Tryz.atT [(y, d)] x).isSome]) (W.drewN n) := fun n => hlk _ rfl
  rw [Tryz.atT_one] at hlkN
  obtain ⟨g, cap, cur, rfl, hg, hcap, _, hcs, htk⟩ := Tryz.ShT.row1 h2
  have hgl : g < w.heap.size := block_lt hg
  have hg1 : W.heap[g]? = _ := (hbel.block g hgl).trans hg
  have c6 : W.cell? ⟨g, 3, none⟩ = some (.int .i64 d) := Se.take_cell hg1 htk 3 _ rfl
  clear hlk hW h1 h2 h3 h4 h5 h6 h7 h8 hb1 hmp h hg hg1 hcs htk hcap
  by_cases hyx : y = x
  · rw [if_pos hyx] at hlkN ⊢
    simp only [Option.getD_some, Option.isSome_some] at hlkN
    clear hyx
    go_enter Tryz.func76, Tryz.ntmps76
    go_upto_region 1 with (fail)
    rw [HW.out]
    go_quiet (fail)
    go_wp2
    go_ret
    exact ⟨rfl, belowN hbel nq⟩
  · rw [if_neg hyx] at hlkN ⊢
    simp only [Option.getD_none, Option.isSome_none] at hlkN
    clear hyx
    go_enter Tryz.func76, Tryz.ntmps76
    go_upto_region 1 with (fail)
    rw [HW.out]
    go_quiet (fail)
    go_wp2
    go_ret
    exact ⟨rfl, belowN hbel nq⟩
end Go.Proofs
namespace Go.Proofs
open Go.RowKit Go.Wi Go.Se Go.Ct
theorem Tryz.zeroRowT (w : World) : (zeroValue 130).run Tryz.prog w = .ok (.agg #[.string ⟨#[]⟩, .int .i64 0, .int .i64 0, .int .i64 0]) w := by kernel_rfl
def Tryz.zlT : List Value := [.string ⟨#[]⟩, .int .i64 0, .int .i64 0, .int .i64 0]
theorem Tryz.zrowT : (Builtin.zeroCells (.agg #[.string ⟨#[]⟩, .int .i64 0, .int .i64 0, .int .i64 0] : Value).cells 1).toList = Tryz.zlT := by kernel_rfl
/-- 'clear' of one row. -/
theorem Tryz.clearT {w : World} {g cap : Nat} {cur : Array Value} (hg : w.heap[g]? = some (.cells cur 130 (0, 0))) (hs : 4 ≤ cur.size) :
    ∃ (w2 : World) (cur' : Array Value), cur'.size = cur.size ∧ (∀ ty, (Builtin.clear_ #[125] ty #[.slice (some ⟨g, 0, none⟩) 1 cap]).run Tryz.prog w = .ok (.tuple #[]) w2) ∧ w2.heap[g]? = some (.cells cur' 130 (0, 0)) ∧ Wo (fun k => k = g) w w2 := by
  have hl : Tryz.zlT.length = 4 := rfl
  have h := run_storeCells_at (P := Tryz.prog) g 0 130 Tryz.zlT 0 cur w hg (by rw [hl]; simpa using hs) (by simp [Tryz.zlT, Value.oneCell'])
  refine ⟨w.setRow g (cur.toList.take (0 + 0) ++ Tryz.zlT ++ cur.toList.drop (0 + 0 + Tryz.zlT.length)).toArray, (cur.toList.take (0 + 0) ++ Tryz.zlT ++ cur.toList.drop (0 + 0 + Tryz.zlT.length)).toArray, ?_, fun ty => ?_, setRow_heap w g cur _ _ _ hg, ?_⟩
  · simp [hl]; omega
  · simp only [Builtin.clear_, run_underlying Tryz.underlying125, Sem.run_bind, Sem.run_pure, Result.andThen_ok, Tryz.zeroRowT, Tryz.zrowT, h, List.getElem?_toArray, List.getElem?_cons_zero]
  · refine ⟨rfl, rfl, rfl, ?_, ?_⟩
    · simp [World.setRow]
    · intro k hk hkg
      simp [World.setRow, Array.getElem?_modify, Ne.symm hkg]
set_option maxHeartbeats 2000000 in
set_option maxRecDepth 4000 in
theorem Tryz.popT_one {w : World} {own : Nat → Prop} {b : Nat} {x : {x : Tk // x.ok}} {d : Int} (h : Tryz.ShT w own b [(x, d)]) (hx : (Tryz.tokKy).ok x) :
    Calls Tryz.prog 140 #[.pointer (some ⟨b, 0, none⟩)] w fun e w' => e = .returned (.iface 130 (.agg #[.string x.1.u, .int .i64 x.1.n, .int .i64 x.1.t, .int .i64 d])) ∧ Tryz.SChgT own w w' b [] := by
  obtain ⟨V, m, h1, h2, h3, h4, h5, h6, h7, h8⟩ := h.ex
  obtain ⟨g, cap, cur, rfl, hg, hcap, hcm, hcs, htk⟩ := Tryz.ShT.row1 h2
  have hbl := h.lt b h.ob
  have hml := h.lt m h7
  have hgl : g < w.heap.size := block_lt hg
  have hgb : g ≠ b := fun e => h4 (by rw [e]; rfl)
  have hgm : g ≠ m := fun e => h5 (by rw [e]; rfl)
  have q0 : w.cell? ⟨b, 0, none⟩ = some (.slice (some ⟨g, 0, none⟩) 1 cap) := cell_of_row w b 0 _ _ _ h1
  have q1 : w.cell? ⟨g, 0, none⟩ = some (.string x.1.u) := Se.take_cell hg htk 0 _ rfl
  have q2 : w.cell? ⟨g, 1, none⟩ = some (.int .i64 x.1.n) := Se.take_cell hg htk 1 _ rfl
  have q3 : w.cell? ⟨g, 2, none⟩ = some (.int .i64 x.1.t) := Se.take_cell hg htk 2 _ rfl
  have q4 : w.cell? ⟨g, 3, none⟩ = some (.int .i64 d) := Se.take_cell hg htk 3 _ rfl
  obtain ⟨W, hW⟩ : ∃ W, W = w.alloc (.cells #[.string x.1.u, .int .i64 x.1.n, .int .i64 x.1.t, .int .i64 d] 130) := ⟨_, rfl⟩
  have hbel : Below w.heap.size w W := by rw [hW]; exact (Below.refl w.heap.size w).alloc (Nat.le_refl _) _
  have hWn : W.heap[w.heap.size]? = some (.cells #[.string x.1.u, .int .i64 x.1.n, .int .i64 x.1.t, .int .i64 d] 130 (0, 0)) := by rw [hW]; exact heap_alloc_new w _
  have HW : Hid (w.alloc (.cells #[.string x.1.u, .int .i64 x.1.n, .int .i64 x.1.t, .int .i64 d] 130) = W) := hW.symm
  have H1 : Hid _ := h1
  have H2 : Hid (w.ownsRow 0 130 4 (.slice (some ⟨g, 0, none⟩) 1 cap) 1 (Tryz.rowsT [(x, d)])) := h2
  have H3 : Hid _ := h3
  have Hg : Hid (w.heap[g]? = some (.cells cur 130 (0, 0))) := hg
  have Hcs : Hid (cur.size = cap * 4) := hcs
  have Hcm : Hid (cap ≤ maxLen) := hcm
  have H8 : Hid (∀ k, (Value.slice (some ⟨g, 0, none⟩) 1 cap).ownBlock = some k → own k) := h8
  clear h1 h2 h3 h4 h5 h8 hg htk hcs hW hcm
  go_enter Tryz.func140, Tryz.ntmps140
  go_upto_region 3 with (fail)
  rw [HW.out]
  obtain ⟨w2, cur', hcz, hclr, hg2, hwo2⟩ := Tryz.clearT (w := W) (cap := cap) ((hbel.block g hgl).trans Hg.out) (by rw [Hcs.out]; omega)
  have p0 : W.cell? ⟨b, 0, none⟩ = some (.slice (some ⟨g, 0, none⟩) 1 cap) := (World.cell?_of_block (a := ⟨b, 0, none⟩) (hbel.block b hbl)).trans q0
  have hb2 : w2.heap[b]? = some (.cells #[.slice (some ⟨g, 0, none⟩) 1 cap, .map (some m)] 128 (0, 0)) := (hwo2.block b (Nat.lt_of_lt_of_le hbl hbel.size) (Ne.symm hgb)).trans ((hbel.block b hbl).trans H1.out)
  have p2 : w2.cell? ⟨b, 0, none⟩ = some (.slice (some ⟨g, 0, none⟩) 1 cap) := cell_of_row w2 b 0 _ _ _ hb2
  have p3 := frozen_of_row w2 b 0 _ _ hb2
  have HB2 : Hid (w2.heap[b]? = some (.cells #[.slice (some ⟨g, 0, none⟩) 1 cap, .map (some m)] 128 (0, 0))) := hb2
  have HG2 : Hid (w2.heap[g]? = some (.cells cur' 130 (0, 0))) := hg2
  have hn2 : w2.heap[w.heap.size]? = some (.cells #[.string x.1.u, .int .i64 x.1.n, .int .i64 x.1.t, .int .i64 d] 130 (0, 0)) := (hwo2.block _ (block_lt hWn) (by omega)).trans hWn
  have hm2 : w2.heap[m]? = w.heap[m]? := (hwo2.block m (Nat.lt_of_lt_of_le hml hbel.size) (Ne.symm hgm)).trans (hbel.block m hml)
  clear hg2 hb2
  go_upto_region 5 with (fail)
  generalize hW3 : w2.setCell ⟨b, 0, none⟩ (.slice (some ⟨g, 0, none⟩) 0 cap) = W3
  have hb3 : W3.heap[b]? = some (.cells #[.slice (some ⟨g, 0, none⟩) 0 cap, .map (some m)] 128 (0, 0)) := by rw [← hW3]; exact heap_setCell_same w2 b 0 _ _ _ HB2.out
  have ho3 : ∀ k, k ≠ b → W3.heap[k]? = w2.heap[k]? := fun k hk => by rw [← hW3]; exact Below.heap_setCell w2 ⟨b, 0, none⟩ _ k (fun e => hk (by simpa using e))
  have hs3 : W3.heap.size = w2.heap.size := by rw [← hW3]; simp
  have hwo3 : Wo own w W3 := by rw [← hW3]; exact (((Wo.ofBelow hbel).step (own1 := fun k => k = g) (fun k e => .inl (by subst e; exact H8.out k rfl)) hwo2)).setCell b 0 _ (.inl h.ob)
  have hmp3 : Mp Tryz.tokKy W3 (some m) 1 (Tryz.atT [(x, d)]) := H3.out.keep fun k e => (by cases e; exact (ho3 m h6).trans hm2)
  have hn3 : W3.heap[w.heap.size]? = _ := (ho3 _ (by omega)).trans hn2
  have hg3 : W3.heap[g]? = _ := (ho3 _ hgb).trans HG2.out
  have r1 : W3.cell? ⟨b, 1, none⟩ = some (.map (some m)) := cell_of_row W3 b 1 _ _ _ hb3
  have r2 : W3.cell? ⟨w.heap.size, 0, none⟩ = some (.string x.1.u) := cell_of_row W3 _ 0 _ _ _ hn3
  have r3 : W3.cell? ⟨w.heap.size, 1, none⟩ = some (.int .i64 x.1.n) := cell_of_row W3 _ 1 _ _ _ hn3
  have r4 : W3.cell? ⟨w.heap.size, 2, none⟩ = some (.int .i64 x.1.t) := cell_of_row W3 _ 2 _ _ _ hn3
  have HB3 : Hid (W3.heap[b]? = some (.cells #[.slice (some ⟨g, 0, none⟩) 0 cap, .map (some m)] 128 (0, 0))) := hb3
  have HG3 : Hid (W3.heap[g]? = some (.cells cur' 130 (0, 0))) := hg3
  have HN3 : Hid (W3.heap[w.heap.size]? = some (.cells #[.string x.1.u, .int .i64 x.1.n, .int .i64 x.1.t, .int .i64 d] 130 (0, 0))) := hn3
  have HCZ : Hid (cur'.size = cur.size) := hcz
  clear hW3 hb3 hn3 hg3 p0 p2 p3 hclr hn2 hm2 hcz
  (refine Go.Lq.wp_region_lastN (fun w' => ∃ k, w' = _root_.Go.World.drewN _ k) 6 (by kernel_rfl) (by kernel_rfl) ⟨1, rfl⟩ ?_; dsimp only [List.dropLast]; (repeat (quiet_step (fail))); refine wpQuiet_nil ?_; intro _ hw'; obtain ⟨nq, hw''⟩ := hw'; subst hw''; refine Go.Lq.wpOp_last rfl rfl ?_; unfold Oper.wp; go_simp)
  obtain ⟨w4, hrun, hMp4, hgr4, hs4, hfz4⟩ := (Mp.keep (w' := W3.drewN nq) hmp3 fun _ _ => rfl).drop Tryz.underlying126 hx
  have hrun' : ∀ ty, (Builtin.delete_ #[126, 58] ty #[.map (some m), (.agg #[.string x.1.u, .int .i64 x.1.n, .int .i64 x.1.t])]).run Tryz.prog (W3.drewN nq) = .ok (.tuple #[]) w4 := hrun
  rw [hrun']
  have hk4 : ∀ k, k < W3.heap.size → k ≠ m → w4.heap[k]? = W3.heap[k]? := fun k hk hkm => hgr4.block k hk fun e => hkm (Option.some.inj e)
  have hs4' : w4.heap.size = W3.heap.size := hs4
  have hn4 : w4.heap[w.heap.size]? = _ := (hk4 _ (block_lt HN3.out) (by omega)).trans HN3.out
  have t2 : w4.cell? ⟨w.heap.size, 0, none⟩ = some (.string x.1.u) := cell_of_row w4 _ 0 _ _ _ hn4
  have t3 : w4.cell? ⟨w.heap.size, 1, none⟩ = some (.int .i64 x.1.n) := cell_of_row w4 _ 1 _ _ _ hn4
  have t4 : w4.cell? ⟨w.heap.size, 2, none⟩ = some (.int .i64 x.1.t) := cell_of_row w4 _ 2 _ _ _ hn4
  have t5 : w4.cell? ⟨w.heap.size, 3, none⟩ = some (.int .i64 d) := cell_of_row w4 _ 3 _ _ _ hn4
  clear hrun hrun' hn4 hs4
  go_wp2
  go_ret
  refine ⟨rfl, ⟨⟨own, ⟨⟨.slice (some ⟨g, 0, none⟩) 0 cap, m, ?_, ⟨rfl, .inr ⟨g, cap, cur', rfl, Nat.zero_le _, ?_, Nat.zero_le _, Hcm.out, by rw [HCZ.out, Hcs.out], by simp [Tryz.rowsT]⟩⟩, ?_, ?_, ?_, h6, h7, fun k e => H8.out k (by simpa [Value.ownBlock] using e)⟩, h.ob, fun k e => ?_⟩, fun k e => .inl e⟩, ?_⟩⟩
  · exact (hk4 b (block_lt HB3.out) (Ne.symm h6)).trans HB3.out
  · exact (hk4 g (block_lt HG3.out) hgm).trans HG3.out
  · refine Ct.tight (hMp4.cong fun y => ?_) [] fun y e => by simp [Tryz.atT_nil] at e
    rw [Tryz.atT_nil]
    by_cases hy : y = x
    · subst hy; rw [upd_same]
    · rw [upd_ne _ _ hy, Tryz.atT_one, if_neg (Ne.symm hy)]
  · simpa [Value.ownBlock] using hgb
  · simpa [Value.ownBlock] using hgm
  · have := h.lt k e
    have := hwo3.size
    omega
  · exact (hwo3.drewN nq).grown hgr4 fun k e => .inl (by cases e; exact h7)
end Go.Proofs
namespace Go.Proofs
open Go.RowKit Go.Wi Go.Se Go.Ct
theorem Tryz.mLenT (v : Value) (w : World) : (Go.method 339 93 v "Len").run Tryz.prog w = .ok (138, v) w := by kernel_rfl
theorem Tryz.mPushT (v : Value) (w : World) : (Go.method 339 93 v "Push").run Tryz.prog w = .ok (141, v) w := by kernel_rfl
theorem Tryz.mPopT (v : Value) (w : World) : (Go.method 339 93 v "Pop").run Tryz.prog w = .ok (140, v) w := by kernel_rfl
set_option maxHeartbeats 1000000 in
theorem Tryz.upT_0 (v : Value) (w : World) : Calls Tryz.prog 67 #[.iface 93 v, .int .i64 0] w fun e w' => (∃ v, e = .returned v) ∧ w' = w := by
  go_enter Tryz.func67, Tryz.ntmps67
  go_wp2
  refine wp_loop_rounds 1 ?_
  rw [rounds_succ]
  go_wp2
  go_end0
  exact ⟨⟨_, rfl⟩, rfl⟩
set_option maxHeartbeats 1000000 in
theorem Tryz.downT_0 (v : Value) (w : World) : Calls Tryz.prog 66 #[.iface 93 v, .int .i64 0, .int .i64 1] w fun e w' => e = .returned (.bool false) ∧ w' = w := by
  go_enter Tryz.func66, Tryz.ntmps66
  go_wp2
  refine wp_loop_rounds 1 ?_
  rw [rounds_succ]
  go_wp2
  go_ret
  exact ⟨rfl, rfl⟩
set_option maxHeartbeats 1000000 in
theorem Tryz.hPushT {w : World} {own : Nat → Prop} {b : Nat} (h : Tryz.ShT w own b []) (x : {x : Tk // x.ok}) (d : Int) (hx : (Tryz.tokKy).ok x) :
    Calls Tryz.prog 47 #[.iface 93 (.pointer (some ⟨b, 0, none⟩)), .iface 130 (.agg #[.string x.1.u, .int .i64 x.1.n, .int .i64 x.1.t, .int .i64 d])] w fun e w' => (∃ v, e = .returned v) ∧ Tryz.SChgT own w w' b [(x, d)] := by
  have hp := Tryz.pushT_any h x d hx (by simp) (by simp)
  have mL := Tryz.mLenT
  have mP := Tryz.mPushT
  go_enter Tryz.func47, Tryz.ntmps47
  go_wp2_with (first
    | (go_at_call 141; refine hp.mono ?_; clear hp; rintro e w1 ⟨⟨v, rfl⟩, h1⟩; obtain ⟨own1, hS1, ho1⟩ := h1.ex; have hl := Tryz.lenT_any hS1; simp only [List.nil_append, List.length_cons, List.length_nil] at hl)
    | (go_at_call 138; refine hl.mono ?_; clear hl; rintro e w2 ⟨rfl, rfl⟩)
    | (go_at_call 67; refine (Tryz.upT_0 _ _).mono ?_; rintro e w3 ⟨⟨v2, rfl⟩, rfl⟩)
    | fail)
  go_end0
  exact ⟨⟨_, rfl⟩, h1⟩
set_option maxHeartbeats 1000000 in
theorem Tryz.hRemoveT {w : World} {own : Nat → Prop} {b : Nat} {x : {x : Tk // x.ok}} {d : Int} (h : Tryz.ShT w own b [(x, d)]) (hx : (Tryz.tokKy).ok x) :
    Calls Tryz.prog 65 #[.iface 93 (.pointer (some ⟨b, 0, none⟩)), .int .i64 0] w fun e w' => (∃ v, e = .returned v) ∧ Tryz.SChgT own w w' b [] := by
  have hl := Tryz.lenT_any h
  simp only [List.length_cons, List.length_nil] at hl
  have hp := Tryz.popT_one h hx
  have mL := Tryz.mLenT
  have mP := Tryz.mPopT
  go_enter Tryz.func65, Tryz.ntmps65
  go_wp2_with (first
    | (go_at_call 138; refine hl.mono ?_; clear hl; rintro e w2 ⟨rfl, rfl⟩)
    | (go_at_call 140; refine hp.mono ?_; clear hp; rintro e w1 ⟨rfl, h1⟩)
    | fail)
  go_ret
  exact ⟨⟨_, rfl⟩, h1⟩
end Go.Proofs
namespace Go.Proofs
open Go.RowKit Go.Wi Go.Se Go.Ct
set_option maxHeartbeats 2000000 in
set_option maxRecDepth 4000 in
theorem Tryz.putT_new {w : World} {own : Nat → Prop} {b : Nat} (h : Tryz.ShT w own b []) (x : {x : Tk // x.ok}) (d : Int) (hx : (Tryz.tokKy).ok x) :
    Calls Tryz.prog 48 #[.pointer (some ⟨b, 0, none⟩), (.agg #[.string x.1.u, .int .i64 x.1.n, .int .i64 x.1.t]), .int .i64 d] w fun e w' => (∃ v, e = .returned v) ∧ Tryz.SChgT own w w' b [(x, d)] := by
  obtain ⟨V, m, h1, h2, h3, h4, h5, h6, h7, h8⟩ := h.ex
  have hbl := h.lt b h.ob
  have hml := h.lt m h7
  obtain ⟨W, hW⟩ : ∃ W, W = w.alloc (.cells #[.string x.1.u, .int .i64 x.1.n, .int .i64 x.1.t] 58) := ⟨_, rfl⟩
  have hbel : Below w.heap.size w W := by rw [hW]; exact (Below.refl w.heap.size w).alloc (Nat.le_refl _) _
  have hWn : W.heap[w.heap.size]? = some (.cells #[.string x.1.u, .int .i64 x.1.n, .int .i64 x.1.t] 58 (0, 0)) := by rw [hW]; exact heap_alloc_new w _
  have c2 : W.cell? ⟨w.heap.size, 0, none⟩ = some (.string x.1.u) := cell_of_row W _ 0 _ _ _ hWn
  have c3 : W.cell? ⟨w.heap.size, 1, none⟩ = some (.int .i64 x.1.n) := cell_of_row W _ 1 _ _ _ hWn
  have c4 : W.cell? ⟨w.heap.size, 2, none⟩ = some (.int .i64 x.1.t) := cell_of_row W _ 2 _ _ _ hWn
  have HW : Hid (w.alloc (.cells #[.string x.1.u, .int .i64 x.1.n, .int .i64 x.1.t] 58) = W) := hW.symm
  clear hWn
  have hb1 : W.heap[b]? = _ := (hbel.block b hbl).trans h1
  have c1 : W.cell? ⟨b, 1, none⟩ = some (.map (some m)) := cell_of_row W b 1 _ _ _ hb1
  have hmp : Mp Tryz.tokKy W (some m) _ (Tryz.atT []) := h3.keep fun k e => (by cases e; exact hbel.block m hml)
  have hlk : ∀ n, (Instr.lookup 126 (.map (some m)) (.agg #[.string x.1.u, .int .i64 x.1.n, .int .i64 x.1.t]) true).run Tryz.prog (W.drewN n) = .ok (.tuple #[.int .i64 0, .bool false]) (W.drewN n) := fun n => Ct.lookOk (Mp.keep (w' := W.drewN n) hmp fun _ _ => rfl) Tryz.underlying126 (Tryz.zeroInt _) hx
  have hsh : ∀ n, Tryz.ShT (W.drewN n) own b [] := fun n => h.keep (fun k e => hbel.block k (h.lt k e)) hbel.size
  have hps := fun n => Tryz.hPushT (hsh n) x d hx
  clear hW h1 h2 h3 h4 h5 h6 h7 h8 hb1 hmp
  go_enter Tryz.func48, Tryz.ntmps48
  go_upto_region 1 with (fail)
  rw [HW.out]
  go_quiet (fail)
  go_wp2_with (first
    | (go_at_call 47; refine (hps nq).mono ?_; clear hps; rintro e w2 ⟨⟨v, rfl⟩, h9⟩)
    | fail)
  go_end0
  exact ⟨⟨_, rfl⟩, Tryz.SChgT.trans (own1 := own) ((Wo.ofBelow hbel).drewN nq) (fun k e => .inl e) h9⟩
/-- Nothing is over. -/
theorem Tryz.ShT.cells0 {w : World} {own : Nat → Prop} {b : Nat} (h : Tryz.ShT w own b []) : ∃ ad cap, w.cell? ⟨b, 0, none⟩ = some (.slice ad 0 cap) := by
  obtain ⟨V, m, h1, h2, h3, h4, h5, h6, h7, h8⟩ := h.ex
  rcases h2.2 with ⟨rfl, _⟩ | ⟨g, cap, cur, rfl, _⟩
  · exact ⟨none, 0, cell_of_row w b 0 _ _ _ h1⟩
  · exact ⟨_, cap, cell_of_row w b 0 _ _ _ h1⟩
set_option maxHeartbeats 2000000 in
theorem Tryz.dropT_nil {w : World} {own : Nat → Prop} {b : Nat} (h : Tryz.ShT w own b []) (now : Int) :
    Calls Tryz.prog 64 #[.pointer (some ⟨b, 0, none⟩), .int .i64 now] w fun e w' => e = .returned (.slice none 0 0) ∧ w' = w := by
  obtain ⟨ad, cap, c0⟩ := h.cells0
  clear h
  go_enter Tryz.func64, Tryz.ntmps64
  go_wp2
  refine wp_loop_rounds 1 ?_
  rw [rounds_succ]
  go_wp2
  go_ret
  exact ⟨rfl, rfl⟩
set_option maxHeartbeats 2000000 in
theorem Tryz.dropT_not {w : World} {own : Nat → Prop} {b : Nat} {x : {x : Tk // x.ok}} {d : Int} (h : Tryz.ShT w own b [(x, d)]) (now : Int) (hd : now < d) :
    Calls Tryz.prog 64 #[.pointer (some ⟨b, 0, none⟩), .int .i64 now] w fun e w' => e = .returned (.slice none 0 0) ∧ w' = w := by
  obtain ⟨V, m, h1, h2, h3, h4, h5, h6, h7, h8⟩ := h.ex
  obtain ⟨g, cap, cur, rfl, hg, hcap, hcm, hcs, htk⟩ := Tryz.ShT.row1 h2
  have c0 : w.cell? ⟨b, 0, none⟩ = some (.slice (some ⟨g, 0, none⟩) 1 cap) := cell_of_row w b 0 _ _ _ h1
  have c1 : w.cell? ⟨g, 3, none⟩ = some (.int .i64 d) := Se.take_cell hg htk 3 _ rfl
  have hd' : ¬ d ≤ now := by omega
  clear h h1 h2 h3 h4 h5 h6 h7 h8 hg htk hcs hcm hd
  go_enter Tryz.func64, Tryz.ntmps64
  go_wp2
  refine wp_loop_rounds 1 ?_
  rw [rounds_succ]
  go_wp2
  go_ret
  exact ⟨rfl, rfl⟩
set_option maxHeartbeats 2000000 in
set_option maxRecDepth 4000 in
theorem Tryz.removeT_one {w : World} {own : Nat → Prop} {b : Nat} {x : {x : Tk // x.ok}} {d : Int} (h : Tryz.ShT w own b [(x, d)]) (hx : (Tryz.tokKy).ok x) :
    Calls Tryz.prog 58 #[.pointer (some ⟨b, 0, none⟩), (.agg #[.string x.1.u, .int .i64 x.1.n, .int .i64 x.1.t])] w fun e w' => (∃ v, e = .returned v) ∧ Tryz.SChgT own w w' b [] := by
  obtain ⟨V, m, h1, h2, h3, h4, h5, h6, h7, h8⟩ := h.ex
  have hbl := h.lt b h.ob
  have hml := h.lt m h7
  obtain ⟨W, hW⟩ : ∃ W, W = w.alloc (.cells #[.string x.1.u, .int .i64 x.1.n, .int .i64 x.1.t] 58) := ⟨_, rfl⟩
  have hbel : Below w.heap.size w W := by rw [hW]; exact (Below.refl w.heap.size w).alloc (Nat.le_refl _) _
  have hWn : W.heap[w.heap.size]? = some (.cells #[.string x.1.u, .int .i64 x.1.n, .int .i64 x.1.t] 58 (0, 0)) := by rw [hW]; exact heap_alloc_new w _
  have c2 : W.cell? ⟨w.heap.size, 0, none⟩ = some (.string x.1.u) := cell_of_row W _ 0 _ _ _ hWn
  have c3 : W.cell? ⟨w.heap.size, 1, none⟩ = some (.int .i64 x.1.n) := cell_of_row W _ 1 _ _ _ hWn
  have c4 : W.cell? ⟨w.heap.size, 2, none⟩ = some (.int .i64 x.1.t) := cell_of_row W _ 2 _ _ _ hWn
  have HW : Hid (w.alloc (.cells #[.string x.1.u, .int .i64 x.1.n, .int .i64 x.1.t] 58) = W) := hW.symm
  have hb1 : W.heap[b]? = _ := (hbel.block b hbl).trans h1
  have c1 : W.cell? ⟨b, 1, none⟩ = some (.map (some m)) := cell_of_row W b 1 _ _ _ hb1
  have hmp : Mp Tryz.tokKy W (some m) _ (Tryz.atT [(x, d)]) := h3.keep fun k e => (by cases e; exact hbel.block m hml)
  have hlk : ∀ n, (Instr.lookup 126 (.map (some m)) (.agg #[.string x.1.u, .int .i64 x.1.n, .int .i64 x.1.t]) true).run Tryz.prog (W.drewN n) = .ok (.tuple #[.int .i64 0, .bool true]) (W.drewN n) := fun n => by
    have := Ct.lookOk (Mp.keep (w' := W.drewN n) hmp fun _ _ => rfl) Tryz.underlying126 (Tryz.zeroInt _) hx
    rw [Tryz.atT_one, if_pos rfl] at this
    exact this
  have hsh : ∀ n, Tryz.ShT (W.drewN n) own b [(x, d)] := fun n => h.keep (fun k e => hbel.block k (h.lt k e)) hbel.size
  have hps := fun n => Tryz.hRemoveT (hsh n) hx
  clear hW h1 h2 h3 h4 h5 h6 h7 h8 hb1 hmp hWn
  go_enter Tryz.func58, Tryz.ntmps58
  go_upto_region 1 with (fail)
  rw [HW.out]
  go_quiet (fail)
  go_wp2_with (first
    | (go_at_call 65; refine (hps nq).mono ?_; clear hps; rintro e w2 ⟨⟨v, rfl⟩, h9⟩)
    | fail)
  go_end0
  exact ⟨⟨_, rfl⟩, Tryz.SChgT.trans (own1 := own) ((Wo.ofBelow hbel).drewN nq) (fun k e => .inl e) h9⟩
end Go.Proofs
