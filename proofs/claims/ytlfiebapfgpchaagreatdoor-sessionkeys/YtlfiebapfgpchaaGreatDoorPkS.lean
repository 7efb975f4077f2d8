/-
  Laid together by pack.py of ScS SdS SeS SfS SgS SiS Sj.
-/
import Derived.Test.YtlfiebapfgpchaaGreatDoorPkA
import Derived.Test.YtlfiebapfgpchaaGreatDoorSqLq
import Derived.Test.YtlfiebapfgpchaaGreatDoorLqn
import Derived.Deep.RegionLaw
import Derived.Deep.DeepCutAuto
import Derived.Laws.CopyRow
namespace Go.Proofs
open Go.RowKit Go.Wi Go.Se Go.Ct
theorem Tryz.infoRowS : (Tryz.prog.info? 90).map (fun i => (i.zero, i.size, i.bytes)) = some (some (.agg #[.string ⟨#[]⟩, .int .i64 0]), 2, 24) := by kernel_rfl
def Tryz.rowS (x : ByteArray) (d : Int) : List Value := [.string x, .int .i64 d]
/-- All rows' cells. -/
def Tryz.rowsS (L : List (ByteArray × Int)) : List Value := L.flatMap fun p => Tryz.rowS p.1 p.2
/-- Where a key stands. -/
noncomputable def Tryz.atS (L : List (ByteArray × Int)) : ByteArray → Option Value := fun x => (L.findIdx? fun p => decide (p.1 = x)).map fun (i : Nat) => .int .i64 (i : Int)
/-- A shelf that holds L, all of it in blocks of its own. -/
structure Tryz.ShS (w : World) (own : Nat → Prop) (b : Nat) (L : List (ByteArray × Int)) : Prop where
  ex : ∃ V m, w.heap[b]? = some (.cells #[V, .map (some m)] 88 (0, 0)) ∧ w.ownsRow 0 90 2 V L.length (Tryz.rowsS L) ∧ Mp Tryz.txtKy w (some m) L.length (Tryz.atS L) ∧ V.ownBlock ≠ some b ∧ V.ownBlock ≠ some m ∧ m ≠ b ∧ own m ∧ (∀ k, V.ownBlock = some k → own k)
  ob : own b
  lt : ∀ k, own k → k < w.heap.size
theorem Tryz.ShS.keep {w w' : World} {own : Nat → Prop} {b : Nat} {L : List (ByteArray × Int)} (h : Tryz.ShS w own b L) (hk : ∀ k, own k → w'.heap[k]? = w.heap[k]?) (hs : w.heap.size ≤ w'.heap.size) : Tryz.ShS w' own b L := by
  obtain ⟨V, m, h1, h2, h3, h4, h5, h6, h7, h8⟩ := h.ex
  exact ⟨⟨V, m, (hk b h.ob).trans h1, Wi.row_heap h2 fun k e => hk k (h8 k e), h3.keep fun k e => (by cases e; exact hk m h7), h4, h5, h6, h7, h8⟩, h.ob, fun k e => Nat.lt_of_lt_of_le (h.lt k e) hs⟩
/-- What a call on a shelf leaves. -/
structure Tryz.SChgS (own : Nat → Prop) (w w' : World) (b : Nat) (L : List (ByteArray × Int)) : Prop where
  ex : ∃ own', Tryz.ShS w' own' b L ∧ ∀ k, own' k → own k ∨ w.heap.size ≤ k
  wo : Wo own w w'
theorem Tryz.SChgS.refl {own : Nat → Prop} {w : World} {b : Nat} {L : List (ByteArray × Int)} (h : Tryz.ShS w own b L) : Tryz.SChgS own w w b L := ⟨⟨own, h, fun _ e => .inl e⟩, Wo.refl _ _⟩
theorem Tryz.SChgS.trans {own own1 : Nat → Prop} {w w1 w2 : World} {b : Nat} {L : List (ByteArray × Int)} (hw : Wo own w w1) (ho : ∀ k, own1 k → own k ∨ w.heap.size ≤ k) (g : Tryz.SChgS own1 w1 w2 b L) : Tryz.SChgS own w w2 b L := by
  obtain ⟨own2, h1, h2⟩ := g.ex
  have hs := hw.size
  refine ⟨⟨own2, h1, fun k e => ?_⟩, hw.step ho g.wo⟩
  rcases h2 k e with e1 | e1
  · exact ho k e1
  · exact .inr (by omega)
theorem Tryz.SChgS.drewN {own : Nat → Prop} {w w' : World} {b : Nat} {L : List (ByteArray × Int)} (h : Tryz.SChgS own w w' b L) (n : Nat) : Tryz.SChgS own w (w'.drewN n) b L := by
  obtain ⟨own', h1, h2⟩ := h.ex
  exact ⟨⟨own', h1.keep (fun _ _ => rfl) (Nat.le_refl _), h2⟩, h.wo.drewN n⟩
theorem Tryz.SChgS.later {own : Nat → Prop} {w w1 w2 : World} {b : Nat} {L : List (ByteArray × Int)} (h : Tryz.SChgS own w w1 b L) (g : Below w1.heap.size w1 w2) : Tryz.SChgS own w w2 b L := by
  obtain ⟨own', h1, h2⟩ := h.ex
  exact ⟨⟨own', h1.keep (fun k e => g.block k (h1.lt k e)) g.size, h2⟩, h.wo.below g h.wo.size⟩
set_option maxHeartbeats 1000000 in
theorem Tryz.lenS_any {w : World} {own : Nat → Prop} {b : Nat} {L : List (ByteArray × Int)} (h : Tryz.ShS w own b L) :
    Calls Tryz.prog 132 #[.pointer (some ⟨b, 0, none⟩)] w fun e w' => e = .returned (.int .i64 (L.length : Nat)) ∧ w' = w := by
  obtain ⟨V, m, h1, h2, h3, h4, h5, h6, h7, h8⟩ := h.ex
  have hV : ∃ ad cap, V = .slice ad L.length cap := by
    rcases h2.2 with ⟨rfl, e⟩ | ⟨g, cap, cur, e, _⟩
    · exact ⟨none, 0, by rw [e]⟩
    · exact ⟨_, _, e⟩
  obtain ⟨ad, cap, rfl⟩ := hV
  have hc := cell_of_row w b 0 _ _ _ h1
  clear h1 h2 h3 h4 h5 h6 h7 h8 h
  go_enter Tryz.func132, Tryz.ntmps132
  go_wp2
  go_ret
  exact ⟨rfl, rfl⟩
theorem Tryz.atS_nil (x : ByteArray) : Tryz.atS [] x = none := rfl
set_option maxHeartbeats 1000000 in
set_option maxRecDepth 20000 in
theorem Tryz.newShelfS_any (w : World) :
    Calls Tryz.prog 41 #[] w fun e w' => ∃ b, e = .returned (.pointer (some ⟨b, 0, none⟩)) ∧ Tryz.ShS w' (fun k => w.heap.size ≤ k ∧ k < w'.heap.size) b [] ∧ Below w.heap.size w w' := by
  have hmm := @run_makeMap Tryz.prog
  go_enter Tryz.func41, Tryz.ntmps41
  go_wp2
  go_ret
  have e0 : (w.alloc (.map #[] 0)).heap.size = w.heap.size + 1 := by simp
  have p0 := Mp.made Tryz.txtKy w
  have hb := heap_alloc_new (w.alloc (.map #[] 0)) (.cells #[.slice none 0 0, .map (some w.heap.size)] 88)
  rw [e0] at hb
  refine ⟨w.heap.size + 1, rfl, ⟨⟨.slice none 0 0, w.heap.size, hb, World.ownsRow_nil _ _ _ _, (p0.keep fun x e => by injection e with e; subst e; rw [Ct.alloc_old _ (by omega)]), by simp [Value.ownBlock], by simp [Value.ownBlock], by omega, ⟨by omega, by simp; omega⟩, fun k e => by simp [Value.ownBlock] at e⟩, ⟨by omega, by simp⟩, fun k e => e.2⟩, ((Below.refl _ w).alloc (Nat.le_refl _) _).alloc (by omega) _⟩
theorem Tryz.rowsS_len (L : List (ByteArray × Int)) : (Tryz.rowsS L).length = L.length * 2 := by
  induction L with
  | nil => rfl
  | cons p L ih =>
    have e : Tryz.rowsS (p :: L) = Tryz.rowS p.1 p.2 ++ Tryz.rowsS L := rfl
    have e2 : (Tryz.rowS p.1 p.2).length = 2 := rfl
    rw [e, List.length_append, ih, e2, List.length_cons]
    omega
theorem Tryz.rowsS_app (L M : List (ByteArray × Int)) : Tryz.rowsS (L ++ M) = Tryz.rowsS L ++ Tryz.rowsS M := by simp [Tryz.rowsS]
/-- 'append(s.rows, r)', and where it lies then. -/
theorem Tryz.appRowS {ops : Array Oper} {o : Oper} {a : Act} {K : Act → World → Prop} {Q : Exit → Act → World → Prop} {E : Prop} (hgd : o.guard = none) (s y : Operand)
    (ho : o.op = .call { callee := .builtin .append, args := #[s, y], argTypes := #[85, 85] })
    {w : World} {b m : Nat} {V : Value} {L : List (ByteArray × Int)} (hb : w.heap[b]? = some (.cells #[V, .map (some m)] 88 (0, 0))) (hrow : w.ownsRow 0 90 2 V L.length (Tryz.rowsS L)) (hV : V.ownBlock ≠ some b)
    (hs : a.eval s = V) (hy : a.eval y = .slice (some ⟨w.heap.size, 0, none⟩) 1 1) (x : ByteArray) (d : Int) (hlen : L.length + 1 ≤ 1000000000000)
    (hK : ∀ g n cap w1, w1.cell? ⟨b, 0, none⟩ = some V → w1.frozen? ⟨b, 0, none⟩ = false → (w1.setCell ⟨b, 0, none⟩ (.slice (some ⟨g, 0, none⟩) n cap)).heap[b]? = some (.cells #[.slice (some ⟨g, 0, none⟩) n cap, .map (some m)] 88 (0, 0)) →
      (w1.setCell ⟨b, 0, none⟩ (.slice (some ⟨g, 0, none⟩) n cap)).ownsRow 0 90 2 (.slice (some ⟨g, 0, none⟩) n cap) (L ++ [(x, d)]).length (Tryz.rowsS (L ++ [(x, d)])) → g ≠ b → (V.ownBlock = some g ∨ w.heap.size ≤ g) → g < w1.heap.size →
      Wo (fun k => k = b ∨ V.ownBlock = some k) w (w1.setCell ⟨b, 0, none⟩ (.slice (some ⟨g, 0, none⟩) n cap)) → K (a.put o.dst (.slice (some ⟨g, 0, none⟩) n cap)) w1) :
    if Region.wanted o (yielded ops a.tmps) = true then Oper.wp Tryz.prog o a (w.alloc (.cells (Tryz.rowS x d).toArray 90)) K Q else E := by
  obtain ⟨i0, hi0, hz0, hz1, hz2⟩ := info_parts Tryz.infoRowS
  have hn : (w.alloc (.cells (Tryz.rowS x d).toArray 90)).heap[w.heap.size]? = some (.cells (Tryz.rowS x d).toArray 90 (0, 0)) := heap_alloc_new w _
  have hbel : Below w.heap.size w (w.alloc (.cells (Tryz.rowS x d).toArray 90)) := (Below.refl w.heap.size w).alloc (Nat.le_refl _) _
  have hrow1 := Wi.row_heap hrow fun k e => hbel.block k (hrow.lt k e).2
  have hsz : (w.alloc (.cells (Tryz.rowS x d).toArray 90)).heap.size = w.heap.size + 1 := by simp
  refine step_append_lies _ hgd s y 85 ho 0 90 i0 _ 2 24 Tryz.underlying85 hi0 hz0 hz1 hz2 rfl (by omega) V L.length (Tryz.rowsS L) hs hrow1 ⟨w.heap.size, 0, none⟩ 1 1 (Tryz.rowS x d) hy rfl (World.news_of_block hn) (fun u hu => ?_) (by omega) (by unfold maxLen; omega) (by omega) (by omega) _ rfl ?_
  · simp [Tryz.rowS] at hu
    rcases hu with hu | hu
    · rw [hu]; rfl
    · rw [hu]; rfl
  · intro g cap w' hown hg hat hlt
    have hbl : b < w.heap.size := block_lt hb
    have hw : Wo (fun k => V.ownBlock = some k) w w' := (Wo.ofBelow hbel).grown hg fun k e => .inl e
    have hgb : g ≠ b := fun e => by
      subst e
      rcases hat with e1 | e1
      · exact hV e1
      · omega
    have hb1 : w'.heap[b]? = some (.cells #[V, .map (some m)] 88 (0, 0)) := (hw.block b hbl hV).trans hb
    have e : Tryz.rowsS L ++ Tryz.rowS x d = Tryz.rowsS (L ++ [(x, d)]) := by rw [Tryz.rowsS_app]; simp [Tryz.rowsS]
    have el : L.length + 1 = (L ++ [(x, d)]).length := by simp
    rw [e] at hown
    refine hK g (L.length + 1) cap w' (cell_of_row _ _ _ _ _ _ hb1) (frozen_of_row _ _ _ _ _ hb1) (heap_setCell_same w' b 0 _ _ _ hb1) ?_ hgb ?_ hlt ?_
    · rw [el] at hown ⊢
      exact ownsRow_setCell_other hown (by simpa [Value.ownBlock] using hgb) _
    · rcases hat with e1 | e1
      · exact .inl e1
      · exact .inr (by omega)
    · exact (hw.mono fun k e => .inr e).setCell b 0 _ (.inl (.inl rfl))
theorem Tryz.isRowS (v : Value) (w : World) : (Instr.typeAssert (.iface 90 v) 20 90 true).run Tryz.prog w = .ok (.tuple #[v, .bool true]) w := by kernel_rfl
end Go.Proofs
namespace Go.Proofs
open Go.RowKit Go.Wi Go.Se Go.Ct
theorem Tryz.atS_snoc {L : List (ByteArray × Int)} {x : ByteArray} {d : Int} (hn : ∀ p ∈ L, p.1 ≠ x) : Tryz.atS (L ++ [(x, d)]) = upd (Tryz.atS L) x (some (.int .i64 (L.length : Nat))) := by
  funext y
  unfold Tryz.atS
  rw [List.findIdx?_append]
  by_cases hy : y = x
  · subst hy
    rw [upd_same]
    have : L.findIdx? (fun p => decide (p.1 = y)) = none := by
      rw [List.findIdx?_eq_none_iff]
      intro p hp
      simpa using hn p hp
    rw [this]
    simp
  · rw [upd_ne _ _ hy]
    have : decide (x = y) = false := by simp [Ne.symm hy]
    cases hL : L.findIdx? (fun p => decide (p.1 = y)) with
    | none => simp [List.findIdx?_cons, this]
    | some i => simp
theorem Se.row_other {w w' : World} {m : Nat} {B : Nat} {e : TypeId} {size : Nat} {v : Value} {n : Nat} {xs : List Value} (h : w.ownsRow B e size v n xs) (hv : v.ownBlock ≠ some m) (hk : ∀ k, k ≠ m → w'.heap[k]? = w.heap[k]?) : w'.ownsRow B e size v n xs :=
  Wi.row_heap h fun k e => hk k fun e' => hv (by rw [e, e'])
set_option maxHeartbeats 2000000 in
set_option maxRecDepth 4000 in
theorem Tryz.pushS_any {w : World} {own : Nat → Prop} {b : Nat} {L : List (ByteArray × Int)} (h : Tryz.ShS w own b L) (x : ByteArray) (d : Int) (hx : (Tryz.txtKy).ok x) (hn : ∀ p ∈ L, p.1 ≠ x) (hlen : L.length ≤ 1000000000) :
    Calls Tryz.prog 135 #[.pointer (some ⟨b, 0, none⟩), .iface 90 (.agg #[.string x, .int .i64 d])] w fun e w' => (∃ v, e = .returned v) ∧ Tryz.SChgS own w w' b (L ++ [(x, d)]) := by
  obtain ⟨V, m, h1, h2, h3, h4, h5, h6, h7, h8⟩ := h.ex
  have hV : ∃ ad cap, V = .slice ad L.length cap := by
    rcases h2.2 with ⟨rfl, e⟩ | ⟨g, cap, cur, e, _⟩
    · exact ⟨none, 0, by rw [e]⟩
    · exact ⟨_, _, e⟩
  obtain ⟨ad, cap, rfl⟩ := hV
  have hbl := h.lt b h.ob
  have H1 : Hid _ := h1
  have H2 : Hid (w.ownsRow 0 90 2 (.slice ad L.length cap) L.length (Tryz.rowsS L)) := h2
  have H3 : Hid _ := h3
  have Hlen : Hid (L.length ≤ 1000000000) := hlen
  have tA := Tryz.isRowS
  obtain ⟨W, hW⟩ : ∃ W, W = w.alloc (.cells #[.string x, .int .i64 d] 90) := ⟨_, rfl⟩
  have hbel : Below w.heap.size w W := by rw [hW]; exact (Below.refl w.heap.size w).alloc (Nat.le_refl _) _
  have hWn : W.heap[w.heap.size]? = some (.cells #[.string x, .int .i64 d] 90 (0, 0)) := by rw [hW]; exact heap_alloc_new w _
  have hb1 : W.heap[b]? = _ := (hbel.block b hbl).trans h1
  have c0 : W.cell? ⟨b, 0, none⟩ = some (.slice ad L.length cap) := cell_of_row W b 0 _ _ _ hb1
  have c1 : W.cell? ⟨b, 1, none⟩ = some (.map (some m)) := cell_of_row W b 1 _ _ _ hb1
  have c2 : W.cell? ⟨w.heap.size, 0, none⟩ = some (.string x) := cell_of_row W _ 0 _ _ _ hWn
  have c3 : W.cell? ⟨w.heap.size, 1, none⟩ = some (.int .i64 d) := cell_of_row W _ 1 _ _ _ hWn
  have Hb1 : Hid (W.heap[b]? = some (.cells #[.slice ad L.length cap, .map (some m)] 88 (0, 0))) := hb1
  have Hn1 : Hid (W.heap[w.heap.size]? = some (.cells #[.string x, .int .i64 d] 90 (0, 0))) := hWn
  have hmp : Mp Tryz.txtKy W (some m) L.length (Tryz.atS L) := h3.keep fun k e => (by cases e; exact hbel.block m (h.lt m h7))
  have Hmp : Hid (Mp Tryz.txtKy W (some m) L.length (Tryz.atS L)) := hmp
  have HW : Hid (W = w.alloc (.cells #[.string x, .int .i64 d] 90)) := hW
  clear h1 h2 h3 hlen hb1 hmp hWn hW
  go_enter Tryz.func135, Tryz.ntmps135
  go_upto_region 2 with (fail)
  rw [← HW.out]
  (refine Go.Lq.wp_region_last 11 (by kernel_rfl) (by kernel_rfl) ?_; dsimp only [List.dropLast]; (repeat (quiet_step (fail))); refine wpQuiet_nil ?_; intro _ hw'; obtain ⟨nq, hw''⟩ := hw'; subst hw''; refine Go.Lq.wpOp_last rfl rfl ?_; unfold Oper.wp; go_simp)
  obtain ⟨w1, hrun, hMp1, htu⟩ := (Mp.keep (w' := W.drewN nq) Hmp.out fun _ _ => rfl).store Tryz.underlying86 (by have := Hlen.out; unfold maxLen; omega) hx (.int .i64 (L.length : Nat))
  have hrun' : (Instr.mapUpdate 86 (.map (some m)) (.string x) (.int .i64 (L.length : Nat))).run Tryz.prog (W.drewN nq) = .ok () w1 := hrun
  have hg1 := htu.grown
  have hk1 : ∀ k, k < W.heap.size → k ≠ m → w1.heap[k]? = W.heap[k]? := fun k hk hkm => hg1.block k hk fun e => hkm (Option.some.inj e)
  have hs1 : W.heap.size ≤ w1.heap.size := hg1.size
  have hbw : b < W.heap.size := block_lt Hb1.out
  have hnw : w.heap.size < W.heap.size := block_lt Hn1.out
  have hmw : m < w.heap.size := h.lt m h7
  have hb2 : w1.heap[b]? = _ := (hk1 b hbw (Ne.symm h6)).trans Hb1.out
  have hn2 : w1.heap[w.heap.size]? = _ := (hk1 _ hnw (by omega)).trans Hn1.out
  have hrow2 : w1.ownsRow 0 90 2 (.slice ad L.length cap) L.length (Tryz.rowsS L) := Wi.row_heap H2.out fun k e => (hk1 k (Nat.lt_of_lt_of_le (h.lt k (h8 k e)) hbel.size) (fun e' => h5 (by rw [e, e']))).trans (hbel.block k (h.lt k (h8 k e)))
  have hwo1 : Wo (fun k => k = m) w w1 := ((Wo.ofBelow hbel).drewN nq).grown (w2 := w1) hg1 fun k e => .inl (Option.some.inj e).symm
  have Hb2 : Hid (w1.heap[b]? = some (.cells #[.slice ad L.length cap, .map (some m)] 88 (0, 0))) := hb2
  have Hrow2 : Hid (w1.ownsRow 0 90 2 (.slice ad L.length cap) L.length (Tryz.rowsS L)) := hrow2
  have HMp1 : Hid (Mp Tryz.txtKy w1 (some m) (L.length + 1) (upd (Tryz.atS L) x (some (.int .i64 (L.length : Nat))))) := hMp1
  have Hwo1 : Hid (Wo (fun k => k = m) w w1) := hwo1
  rw [hrun']
  clear c0 c1 c2 c3
  have c0 : w1.cell? ⟨b, 0, none⟩ = some (.slice ad L.length cap) := cell_of_row w1 b 0 _ _ _ hb2
  have c2 : w1.cell? ⟨w.heap.size, 0, none⟩ = some (.string x) := cell_of_row w1 _ 0 _ _ _ hn2
  have c3 : w1.cell? ⟨w.heap.size, 1, none⟩ = some (.int .i64 d) := cell_of_row w1 _ 1 _ _ _ hn2
  have hbw1 : b < w1.heap.size := block_lt hb2
  have c0a : (w1.alloc (.cells #[.string x, .int .i64 d] 90)).cell? ⟨b, 0, none⟩ = some (.slice ad L.length cap) := (World.cell?_of_block (a := ⟨b, 0, none⟩) (Ct.alloc_old _ hbw1)).trans c0
  clear hrun hrun' hMp1 htu hg1 hk1 hb2 hn2 hrow2 hwo1 tA
  go_wp2
  go_region_law (first | (refine Tryz.appRowS rfl _ _ rfl (w := w1.drew) Hb2.out Hrow2.out h4 rfl rfl x d (by have := Hlen.out; omega) ?_; intro g n cap' w2 d1 d2 d3 d4 d5 d6 d7 d8) | fail)
  all_goals go_end0
  all_goals
    refine ⟨⟨_, rfl⟩, ?_⟩
    have hws : w.heap.size ≤ w1.heap.size := Hwo1.out.size
    have hmw1 : m < w1.heap.size := by omega
    have hs2 : w1.heap.size ≤ (w2.setCell ⟨b, 0, none⟩ (.slice (some ⟨g, 0, none⟩) n cap')).heap.size := d8.size
    have hsc : (w2.setCell ⟨b, 0, none⟩ (.slice (some ⟨g, 0, none⟩) n cap')).heap.size = w2.heap.size := by simp
    have hkm := d8.block m hmw1 (by rintro (e | e); exact h6 e; exact h5 e)
    refine ⟨⟨fun k => own k ∨ (w.heap.size ≤ k ∧ k < (w2.setCell ⟨b, 0, none⟩ (.slice (some ⟨g, 0, none⟩) n cap')).heap.size), ⟨⟨_, m, d3, d4, ?_, ?_, ?_, h6, .inl h7, ?_⟩, .inl h.ob, ?_⟩, fun k e => e.imp id (·.1)⟩, ?_⟩
    · rw [Tryz.atS_snoc hn, List.length_append]
      exact HMp1.out.keep fun k e => (by cases e; exact hkm)
    · simpa [Value.ownBlock] using d5
    · intro e
      simp only [Value.ownBlock, Option.some.injEq] at e
      subst e
      rcases d6 with e1 | e1
      · exact h5 e1
      · have e1' : w1.heap.size ≤ g := e1
        omega
    · intro k e
      simp only [Value.ownBlock, Option.some.injEq] at e
      subst e
      rcases d6 with e1 | e1
      · exact .inl (h8 g e1)
      · have e1' : w1.heap.size ≤ g := e1
        exact .inr ⟨by omega, by rw [hsc]; exact d7⟩
    · rintro k (e | e)
      · have := h.lt k e
        omega
      · exact e.2
    · refine (Hwo1.out.mono fun k e => ?_).drew.step (own1 := fun k => k = b ∨ (Value.slice ad L.length cap).ownBlock = some k) (fun k e => ?_) d8
      · subst e; exact h7
      · rcases e with e | e
        · subst e; exact .inl h.ob
        · exact .inl (h8 k e)
end Go.Proofs
namespace Go.Proofs
open Go.RowKit Go.Wi Go.Se Go.Ct
/-- The time of a key. -/
noncomputable def Tryz.dueS (L : List (ByteArray × Int)) (x : ByteArray) : Int := match L with
  | [] => 0
  | p :: _ => if p.1 = x then p.2 else 0
theorem Tryz.atS_one (y x : ByteArray) (d : Int) : Tryz.atS [(y, d)] x = if y = x then some (.int .i64 0) else none := by
  unfold Tryz.atS
  by_cases h : y = x
  · simp [List.findIdx?_cons, h]
  · simp [List.findIdx?_cons, h]
theorem Tryz.ShS.row1 {w : World} {V : Value} {y : ByteArray} {d : Int} (h : w.ownsRow 0 90 2 V 1 (Tryz.rowsS [(y, d)])) : ∃ g cap cur, V = .slice (some ⟨g, 0, none⟩) 1 cap ∧ w.heap[g]? = some (.cells cur 90 (0, 0)) ∧ 1 ≤ cap ∧ cap ≤ maxLen ∧ cur.size = cap * 2 ∧ cur.toList.take 2 = Tryz.rowS y d := by
  rcases h.2 with ⟨_, e⟩ | ⟨g, cap, cur, e, _, h1, h2, h3, h4, h5⟩
  · cases e
  · exact ⟨g, cap, cur, e, h1, h2, h3, h4, by rw [Nat.one_mul] at h5; rw [h5]; simp [Tryz.rowsS]⟩
theorem Se.take_cell {w : World} {g : Nat} {cur : Array Value} {T : TypeId} {n : Nat} {xs : List Value} (hg : w.heap[g]? = some (.cells cur T (0, 0))) (h : cur.toList.take n = xs) (j : Nat) (v : Value) (hv : xs[j]? = some v) : w.cell? ⟨g, j, none⟩ = some v := by
  rw [cell_of_row _ _ _ _ _ _ hg]
  rw [← h, List.getElem?_take] at hv
  split at hv
  · simpa using hv
  · cases hv
set_option maxHeartbeats 2000000 in
set_option maxRecDepth 4000 in
theorem Tryz.untilS_nil {w : World} {own : Nat → Prop} {b : Nat} (h : Tryz.ShS w own b []) (x : ByteArray) (hx : (Tryz.txtKy).ok x) :
    Calls Tryz.prog 23 #[.pointer (some ⟨b, 0, none⟩), (.string x)] w fun e w' => e = .returned (.int .i64 0) ∧ Below w.heap.size w w' := by
  obtain ⟨V, m, h1, h2, h3, h4, h5, h6, h7, h8⟩ := h.ex
  have hbl := h.lt b h.ob
  have hml := h.lt m h7
  obtain ⟨W, hW⟩ : ∃ W, W = w := ⟨_, rfl⟩
  have hbel : Below w.heap.size w W := by rw [hW]; exact Below.refl w.heap.size w
  have HW : Hid (w = W) := hW.symm
  have hb1 : W.heap[b]? = _ := (hbel.block b hbl).trans h1
  have c0 : W.cell? ⟨b, 0, none⟩ = some V := cell_of_row W b 0 _ _ _ hb1
  have c1 : W.cell? ⟨b, 1, none⟩ = some (.map (some m)) := cell_of_row W b 1 _ _ _ hb1
  have hmp : Mp Tryz.txtKy W (some m) _ (Tryz.atS []) := h3.keep fun k e => (by cases e; exact hbel.block m hml)
  have hlk : ∀ W', W'.heap = W.heap → (Instr.lookup 86 (.map (some m)) (.string x) true).run Tryz.prog W' = .ok (.tuple #[(Tryz.atS [] x).getD (.int .i64 0), .bool (Tryz.atS [] x).isSome]) W' := fun W' e => Ct.lookOk (Mp.keep (w' := W') hmp fun _ _ => by rw [e]) Tryz.underlying86 (Tryz.zeroInt W') hx
  have hlkN : (Instr.lookup 86 (.map (some m)) (.string x) true).run Tryz.prog W = .ok (.tuple #[(Tryz.atS [] x).getD (.int .i64 0), .bool (Tryz.atS [] x).isSome]) W := hlk _ rfl
  rw [Tryz.atS_nil] at hlkN
  simp only [Option.getD_none, Option.isSome_none] at hlkN
  clear hlk hW h1 h2 h3 h4 h5 h6 h7 h8 hb1 hmp h
  rw [HW.out]
  go_enter Tryz.func23, Tryz.ntmps23
  go_wp2
  go_ret
  exact ⟨rfl, Below.refl _ _⟩
set_option maxHeartbeats 2000000 in
set_option maxRecDepth 4000 in
theorem Tryz.untilS_one {w : World} {own : Nat → Prop} {b : Nat} {y : ByteArray} {d : Int} (h : Tryz.ShS w own b [(y, d)]) (x : ByteArray) (hx : (Tryz.txtKy).ok x) :
    Calls Tryz.prog 23 #[.pointer (some ⟨b, 0, none⟩), (.string x)] w fun e w' => e = .returned (.int .i64 (if y = x then d else 0)) ∧ Below w.heap.size w w' := by
  obtain ⟨V, m, h1, h2, h3, h4, h5, h6, h7, h8⟩ := h.ex
  have hbl := h.lt b h.ob
  have hml := h.lt m h7
  obtain ⟨W, hW⟩ : ∃ W, W = w := ⟨_, rfl⟩
  have hbel : Below w.heap.size w W := by rw [hW]; exact Below.refl w.heap.size w
  have HW : Hid (w = W) := hW.symm
  have hb1 : W.heap[b]? = _ := (hbel.block b hbl).trans h1
  have c0 : W.cell? ⟨b, 0, none⟩ = some V := cell_of_row W b 0 _ _ _ hb1
  have c1 : W.cell? ⟨b, 1, none⟩ = some (.map (some m)) := cell_of_row W b 1 _ _ _ hb1
  have hmp : Mp Tryz.txtKy W (some m) _ (Tryz.atS [(y, d)]) := h3.keep fun k e => (by cases e; exact hbel.block m hml)
  have hlk : ∀ W', W'.heap = W.heap → (Instr.lookup 86 (.map (some m)) (.string x) true).run Tryz.prog W' = .ok (.tuple #[(Tryz.atS [(y, d)] x).getD (.int .i64 0), .bool (Tryz.atS [(y, d)] x).isSome]) W' := fun W' e => Ct.lookOk (Mp.keep (w' := W') hmp fun _ _ => by rw [e]) Tryz.underlying86 (Tryz.zeroInt W') hx
  have hlkN : (Instr.lookup 86 (.map (some m)) (.string x) true).run Tryz.prog W = .ok (.tuple #[(Tryz.atS [(y, d)] x).getD (.int .i64 0), .bool (Tryz.atS [(y, d)] x).isSome]) W := hlk _ rfl
  rw [Tryz.atS_one] at hlkN
  obtain ⟨g, cap, cur, rfl, hg, hcap, _, hcs, htk⟩ := Tryz.ShS.row1 h2
  have hgl : g < w.heap.size := block_lt hg
  have hg1 : W.heap[g]? = _ := (hbel.block g hgl).trans hg
  have c6 : W.cell? ⟨g, 1, none⟩ = some (.int .i64 d) := Se.take_cell hg1 htk 1 _ rfl
  clear hlk hW h1 h2 h3 h4 h5 h6 h7 h8 hb1 hmp h hg hg1 hcs htk hcap
  by_cases hyx : y = x
  · rw [if_pos hyx] at hlkN ⊢
    simp only [Option.getD_some, Option.isSome_some] at hlkN
    clear hyx
    rw [HW.out]
    go_enter Tryz.func23, Tryz.ntmps23
    go_wp2
    go_ret
    exact ⟨rfl, Below.refl _ _⟩
  · rw [if_neg hyx] at hlkN ⊢
    simp only [Option.getD_none, Option.isSome_none] at hlkN
    clear hyx
    rw [HW.out]
    go_enter Tryz.func23, Tryz.ntmps23
    go_wp2
    go_ret
    exact ⟨rfl, Below.refl _ _⟩
end Go.Proofs
namespace Go.Proofs
open Go.RowKit Go.Wi Go.Se Go.Ct
theorem Tryz.zeroRowS (w : World) : (zeroValue 90).run Tryz.prog w = .ok (.agg #[.string ⟨#[]⟩, .int .i64 0]) w := by kernel_rfl
def Tryz.zlS : List Value := [.string ⟨#[]⟩, .int .i64 0]
theorem Tryz.zrowS : (Builtin.zeroCells (.agg #[.string ⟨#[]⟩, .int .i64 0] : Value).cells 1).toList = Tryz.zlS := by kernel_rfl
/-- 'clear' of one row. -/
theorem Tryz.clearS {w : World} {g cap : Nat} {cur : Array Value} (hg : w.heap[g]? = some (.cells cur 90 (0, 0))) (hs : 2 ≤ cur.size) :
    ∃ (w2 : World) (cur' : Array Value), cur'.size = cur.size ∧ (∀ ty, (Builtin.clear_ #[85] ty #[.slice (some ⟨g, 0, none⟩) 1 cap]).run Tryz.prog w = .ok (.tuple #[]) w2) ∧ w2.heap[g]? = some (.cells cur' 90 (0, 0)) ∧ Wo (fun k => k = g) w w2 := by
  have hl : Tryz.zlS.length = 2 := rfl
  have h := run_storeCells_at (P := Tryz.prog) g 0 90 Tryz.zlS 0 cur w hg (by rw [hl]; simpa using hs) (by simp [Tryz.zlS, Value.oneCell'])
  refine ⟨w.setRow g (cur.toList.take (0 + 0) ++ Tryz.zlS ++ cur.toList.drop (0 + 0 + Tryz.zlS.length)).toArray, (cur.toList.take (0 + 0) ++ Tryz.zlS ++ cur.toList.drop (0 + 0 + Tryz.zlS.length)).toArray, ?_, fun ty => ?_, setRow_heap w g cur _ _ _ hg, ?_⟩
  · simp [hl]; omega
  · simp only [Builtin.clear_, run_underlying Tryz.underlying85, Sem.run_bind, Sem.run_pure, Result.andThen_ok, Tryz.zeroRowS, Tryz.zrowS, h, List.getElem?_toArray, List.getElem?_cons_zero]
  · refine ⟨rfl, rfl, rfl, ?_, ?_⟩
    · simp [World.setRow]
    · intro k hk hkg
      simp [World.setRow, Array.getElem?_modify, Ne.symm hkg]
set_option maxHeartbeats 2000000 in
set_option maxRecDepth 4000 in
theorem Tryz.popS_one {w : World} {own : Nat → Prop} {b : Nat} {x : ByteArray} {d : Int} (h : Tryz.ShS w own b [(x, d)]) (hx : (Tryz.txtKy).ok x) :
    Calls Tryz.prog 134 #[.pointer (some ⟨b, 0, none⟩)] w fun e w' => e = .returned (.iface 90 (.agg #[.string x, .int .i64 d])) ∧ Tryz.SChgS own w w' b [] := by
  obtain ⟨V, m, h1, h2, h3, h4, h5, h6, h7, h8⟩ := h.ex
  obtain ⟨g, cap, cur, rfl, hg, hcap, hcm, hcs, htk⟩ := Tryz.ShS.row1 h2
  have hbl := h.lt b h.ob
  have hml := h.lt m h7
  have hgl : g < w.heap.size := block_lt hg
  have hgb : g ≠ b := fun e => h4 (by rw [e]; rfl)
  have hgm : g ≠ m := fun e => h5 (by rw [e]; rfl)
  have q0 : w.cell? ⟨b, 0, none⟩ = some (.slice (some ⟨g, 0, none⟩) 1 cap) := cell_of_row w b 0 _ _ _ h1
  have q1 : w.cell? ⟨g, 0, none⟩ = some (.string x) := Se.take_cell hg htk 0 _ rfl
  have q2 : w.cell? ⟨g, 1, none⟩ = some (.int .i64 d) := Se.take_cell hg htk 1 _ rfl
  obtain ⟨W, hW⟩ : ∃ W, W = w.alloc (.cells #[.string x, .int .i64 d] 90) := ⟨_, rfl⟩
  have hbel : Below w.heap.size w W := by rw [hW]; exact (Below.refl w.heap.size w).alloc (Nat.le_refl _) _
  have hWn : W.heap[w.heap.size]? = some (.cells #[.string x, .int .i64 d] 90 (0, 0)) := by rw [hW]; exact heap_alloc_new w _
  have HW : Hid (w.alloc (.cells #[.string x, .int .i64 d] 90) = W) := hW.symm
  have H1 : Hid _ := h1
  have H2 : Hid (w.ownsRow 0 90 2 (.slice (some ⟨g, 0, none⟩) 1 cap) 1 (Tryz.rowsS [(x, d)])) := h2
  have H3 : Hid _ := h3
  have Hg : Hid (w.heap[g]? = some (.cells cur 90 (0, 0))) := hg
  have Hcs : Hid (cur.size = cap * 2) := hcs
  have Hcm : Hid (cap ≤ maxLen) := hcm
  have H8 : Hid (∀ k, (Value.slice (some ⟨g, 0, none⟩) 1 cap).ownBlock = some k → own k) := h8
  clear h1 h2 h3 h4 h5 h8 hg htk hcs hW hcm
  go_enter Tryz.func134, Tryz.ntmps134
  go_upto_region 3 with (fail)
  rw [HW.out]
  obtain ⟨w2, cur', hcz, hclr, hg2, hwo2⟩ := Tryz.clearS (w := W) (cap := cap) ((hbel.block g hgl).trans Hg.out) (by rw [Hcs.out]; omega)
  have p0 : W.cell? ⟨b, 0, none⟩ = some (.slice (some ⟨g, 0, none⟩) 1 cap) := (World.cell?_of_block (a := ⟨b, 0, none⟩) (hbel.block b hbl)).trans q0
  have hb2 : w2.heap[b]? = some (.cells #[.slice (some ⟨g, 0, none⟩) 1 cap, .map (some m)] 88 (0, 0)) := (hwo2.block b (Nat.lt_of_lt_of_le hbl hbel.size) (Ne.symm hgb)).trans ((hbel.block b hbl).trans H1.out)
  have p2 : w2.cell? ⟨b, 0, none⟩ = some (.slice (some ⟨g, 0, none⟩) 1 cap) := cell_of_row w2 b 0 _ _ _ hb2
  have p3 := frozen_of_row w2 b 0 _ _ hb2
  have HB2 : Hid (w2.heap[b]? = some (.cells #[.slice (some ⟨g, 0, none⟩) 1 cap, .map (some m)] 88 (0, 0))) := hb2
  have HG2 : Hid (w2.heap[g]? = some (.cells cur' 90 (0, 0))) := hg2
  have hn2 : w2.heap[w.heap.size]? = some (.cells #[.string x, .int .i64 d] 90 (0, 0)) := (hwo2.block _ (block_lt hWn) (by omega)).trans hWn
  have hm2 : w2.heap[m]? = w.heap[m]? := (hwo2.block m (Nat.lt_of_lt_of_le hml hbel.size) (Ne.symm hgm)).trans (hbel.block m hml)
  clear hg2 hb2
  go_upto_region 5 with (fail)
  generalize hW3 : w2.setCell ⟨b, 0, none⟩ (.slice (some ⟨g, 0, none⟩) 0 cap) = W3
  have hb3 : W3.heap[b]? = some (.cells #[.slice (some ⟨g, 0, none⟩) 0 cap, .map (some m)] 88 (0, 0)) := by rw [← hW3]; exact heap_setCell_same w2 b 0 _ _ _ HB2.out
  have ho3 : ∀ k, k ≠ b → W3.heap[k]? = w2.heap[k]? := fun k hk => by rw [← hW3]; exact Below.heap_setCell w2 ⟨b, 0, none⟩ _ k (fun e => hk (by simpa using e))
  have hs3 : W3.heap.size = w2.heap.size := by rw [← hW3]; simp
  have hwo3 : Wo own w W3 := by rw [← hW3]; exact (((Wo.ofBelow hbel).step (own1 := fun k => k = g) (fun k e => .inl (by subst e; exact H8.out k rfl)) hwo2)).setCell b 0 _ (.inl h.ob)
  have hmp3 : Mp Tryz.txtKy W3 (some m) 1 (Tryz.atS [(x, d)]) := H3.out.keep fun k e => (by cases e; exact (ho3 m h6).trans hm2)
  have hn3 : W3.heap[w.heap.size]? = _ := (ho3 _ (by omega)).trans hn2
  have hg3 : W3.heap[g]? = _ := (ho3 _ hgb).trans HG2.out
  have r1 : W3.cell? ⟨b, 1, none⟩ = some (.map (some m)) := cell_of_row W3 b 1 _ _ _ hb3
  have r2 : W3.cell? ⟨w.heap.size, 0, none⟩ = some (.string x) := cell_of_row W3 _ 0 _ _ _ hn3
  have HB3 : Hid (W3.heap[b]? = some (.cells #[.slice (some ⟨g, 0, none⟩) 0 cap, .map (some m)] 88 (0, 0))) := hb3
  have HG3 : Hid (W3.heap[g]? = some (.cells cur' 90 (0, 0))) := hg3
  have HN3 : Hid (W3.heap[w.heap.size]? = some (.cells #[.string x, .int .i64 d] 90 (0, 0))) := hn3
  have HCZ : Hid (cur'.size = cur.size) := hcz
  clear hW3 hb3 hn3 hg3 p0 p2 p3 hclr hn2 hm2 hcz
  (refine Go.Lq.wp_region_lastN (fun w' => ∃ k, w' = _root_.Go.World.drewN _ k) 6 (by kernel_rfl) (by kernel_rfl) ⟨1, rfl⟩ ?_; dsimp only [List.dropLast]; (repeat (quiet_step (fail))); refine wpQuiet_nil ?_; intro _ hw'; obtain ⟨nq, hw''⟩ := hw'; subst hw''; refine Go.Lq.wpOp_last rfl rfl ?_; unfold Oper.wp; go_simp)
  obtain ⟨w4, hrun, hMp4, hgr4, hs4, hfz4⟩ := (Mp.keep (w' := W3.drewN nq) hmp3 fun _ _ => rfl).drop Tryz.underlying86 hx
  have hrun' : ∀ ty, (Builtin.delete_ #[86, 9] ty #[.map (some m), (.string x)]).run Tryz.prog (W3.drewN nq) = .ok (.tuple #[]) w4 := hrun
  rw [hrun']
  have hk4 : ∀ k, k < W3.heap.size → k ≠ m → w4.heap[k]? = W3.heap[k]? := fun k hk hkm => hgr4.block k hk fun e => hkm (Option.some.inj e)
  have hs4' : w4.heap.size = W3.heap.size := hs4
  have hn4 : w4.heap[w.heap.size]? = _ := (hk4 _ (block_lt HN3.out) (by omega)).trans HN3.out
  have t2 : w4.cell? ⟨w.heap.size, 0, none⟩ = some (.string x) := cell_of_row w4 _ 0 _ _ _ hn4
  have t3 : w4.cell? ⟨w.heap.size, 1, none⟩ = some (.int .i64 d) := cell_of_row w4 _ 1 _ _ _ hn4
  clear hrun hrun' hn4 hs4
  go_wp2
  go_ret
  refine ⟨rfl, ⟨⟨own, ⟨⟨.slice (some ⟨g, 0, none⟩) 0 cap, m, ?_, ⟨rfl, .inr ⟨g, cap, cur', rfl, Nat.zero_le _, ?_, Nat.zero_le _, Hcm.out, by rw [HCZ.out, Hcs.out], by simp [Tryz.rowsS]⟩⟩, ?_, ?_, ?_, h6, h7, fun k e => H8.out k (by simpa [Value.ownBlock] using e)⟩, h.ob, fun k e => ?_⟩, fun k e => .inl e⟩, ?_⟩⟩
  · exact (hk4 b (block_lt HB3.out) (Ne.symm h6)).trans HB3.out
  · exact (hk4 g (block_lt HG3.out) hgm).trans HG3.out
  · refine Ct.tight (hMp4.cong fun y => ?_) [] fun y e => by simp [Tryz.atS_nil] at e
    rw [Tryz.atS_nil]
    by_cases hy : y = x
    · subst hy; rw [upd_same]
    · rw [upd_ne _ _ hy, Tryz.atS_one, if_neg (Ne.symm hy)]
  · simpa [Value.ownBlock] using hgb
  · simpa [Value.ownBlock] using hgm
  · have := h.lt k e
    have := hwo3.size
    omega
  · exact (hwo3.drewN nq).grown hgr4 fun k e => .inl (by cases e; exact h7)
end Go.Proofs
namespace Go.Proofs
open Go.RowKit Go.Wi Go.Se Go.Ct
theorem Tryz.mLenS (v : Value) (w : World) : (Go.method 339 48 v "Len").run Tryz.prog w = .ok (132, v) w := by kernel_rfl
theorem Tryz.mPushS (v : Value) (w : World) : (Go.method 339 48 v "Push").run Tryz.prog w = .ok (135, v) w := by kernel_rfl
theorem Tryz.mPopS (v : Value) (w : World) : (Go.method 339 48 v "Pop").run Tryz.prog w = .ok (134, v) w := by kernel_rfl
set_option maxHeartbeats 1000000 in
theorem Tryz.upS_0 (v : Value) (w : World) : Calls Tryz.prog 67 #[.iface 48 v, .int .i64 0] w fun e w' => (∃ v, e = .returned v) ∧ w' = w := by
  go_enter Tryz.func67, Tryz.ntmps67
  go_wp2
  refine wp_loop_rounds 1 ?_
  rw [rounds_succ]
  go_wp2
  go_end0
  exact ⟨⟨_, rfl⟩, rfl⟩
set_option maxHeartbeats 1000000 in
theorem Tryz.downS_0 (v : Value) (w : World) : Calls Tryz.prog 66 #[.iface 48 v, .int .i64 0, .int .i64 1] w fun e w' => e = .returned (.bool false) ∧ w' = w := by
  go_enter Tryz.func66, Tryz.ntmps66
  go_wp2
  refine wp_loop_rounds 1 ?_
  rw [rounds_succ]
  go_wp2
  go_ret
  exact ⟨rfl, rfl⟩
set_option maxHeartbeats 1000000 in
theorem Tryz.hPushS {w : World} {own : Nat → Prop} {b : Nat} (h : Tryz.ShS w own b []) (x : ByteArray) (d : Int) (hx : (Tryz.txtKy).ok x) :
    Calls Tryz.prog 47 #[.iface 48 (.pointer (some ⟨b, 0, none⟩)), .iface 90 (.agg #[.string x, .int .i64 d])] w fun e w' => (∃ v, e = .returned v) ∧ Tryz.SChgS own w w' b [(x, d)] := by
  have hp := Tryz.pushS_any h x d hx (by simp) (by simp)
  have mL := Tryz.mLenS
  have mP := Tryz.mPushS
  go_enter Tryz.func47, Tryz.ntmps47
  go_wp2_with (first
    | (go_at_call 135; refine hp.mono ?_; clear hp; rintro e w1 ⟨⟨v, rfl⟩, h1⟩; obtain ⟨own1, hS1, ho1⟩ := h1.ex; have hl := Tryz.lenS_any hS1; simp only [List.nil_append, List.length_cons, List.length_nil] at hl)
    | (go_at_call 132; refine hl.mono ?_; clear hl; rintro e w2 ⟨rfl, rfl⟩)
    | (go_at_call 67; refine (Tryz.upS_0 _ _).mono ?_; rintro e w3 ⟨⟨v2, rfl⟩, rfl⟩)
    | fail)
  go_end0
  exact ⟨⟨_, rfl⟩, h1⟩
set_option maxHeartbeats 1000000 in
theorem Tryz.hRemoveS {w : World} {own : Nat → Prop} {b : Nat} {x : ByteArray} {d : Int} (h : Tryz.ShS w own b [(x, d)]) (hx : (Tryz.txtKy).ok x) :
    Calls Tryz.prog 65 #[.iface 48 (.pointer (some ⟨b, 0, none⟩)), .int .i64 0] w fun e w' => (∃ v, e = .returned v) ∧ Tryz.SChgS own w w' b [] := by
  have hl := Tryz.lenS_any h
  simp only [List.length_cons, List.length_nil] at hl
  have hp := Tryz.popS_one h hx
  have mL := Tryz.mLenS
  have mP := Tryz.mPopS
  go_enter Tryz.func65, Tryz.ntmps65
  go_wp2_with (first
    | (go_at_call 132; refine hl.mono ?_; clear hl; rintro e w2 ⟨rfl, rfl⟩)
    | (go_at_call 134; refine hp.mono ?_; clear hp; rintro e w1 ⟨rfl, h1⟩)
    | fail)
  go_ret
  exact ⟨⟨_, rfl⟩, h1⟩
set_option maxHeartbeats 1000000 in
theorem Tryz.hFixS {w : World} {own : Nat → Prop} {b : Nat} {x : ByteArray} {d : Int} (h : Tryz.ShS w own b [(x, d)]) :
    Calls Tryz.prog 46 #[.iface 48 (.pointer (some ⟨b, 0, none⟩)), .int .i64 0] w fun e w' => (∃ v, e = .returned v) ∧ w' = w := by
  have hl := Tryz.lenS_any h
  simp only [List.length_cons, List.length_nil] at hl
  have mL := Tryz.mLenS
  go_enter Tryz.func46, Tryz.ntmps46
  go_wp2_with (first
    | (go_at_call 132; refine hl.mono ?_; clear hl; rintro e w2 ⟨rfl, rfl⟩)
    | (go_at_call 66; refine (Tryz.downS_0 _ _).mono ?_; rintro e w3 ⟨rfl, rfl⟩)
    | (go_at_call 67; refine (Tryz.upS_0 _ _).mono ?_; rintro e w3 ⟨⟨v2, rfl⟩, rfl⟩)
    | fail)
  go_end0
  exact ⟨⟨_, rfl⟩, rfl⟩
end Go.Proofs
namespace Go.Proofs
open Go.RowKit Go.Wi Go.Se Go.Ct
set_option maxHeartbeats 2000000 in
set_option maxRecDepth 4000 in
theorem Tryz.putS_new {w : World} {own : Nat → Prop} {b : Nat} (h : Tryz.ShS w own b []) (x : ByteArray) (d : Int) (hx : (Tryz.txtKy).ok x) :
    Calls Tryz.prog 24 #[.pointer (some ⟨b, 0, none⟩), (.string x), .int .i64 d] w fun e w' => (∃ v, e = .returned v) ∧ Tryz.SChgS own w w' b [(x, d)] := by
  obtain ⟨V, m, h1, h2, h3, h4, h5, h6, h7, h8⟩ := h.ex
  have hbl := h.lt b h.ob
  have hml := h.lt m h7
  obtain ⟨W, hW⟩ : ∃ W, W = w := ⟨_, rfl⟩
  have hbel : Below w.heap.size w W := by rw [hW]; exact Below.refl w.heap.size w
  have HW : Hid (w = W) := hW.symm
  have hb1 : W.heap[b]? = _ := (hbel.block b hbl).trans h1
  have c1 : W.cell? ⟨b, 1, none⟩ = some (.map (some m)) := cell_of_row W b 1 _ _ _ hb1
  have hmp : Mp Tryz.txtKy W (some m) _ (Tryz.atS []) := h3.keep fun k e => (by cases e; exact hbel.block m hml)
  have hlk : ∀ n, (Instr.lookup 86 (.map (some m)) (.string x) true).run Tryz.prog (W.drewN n) = .ok (.tuple #[.int .i64 0, .bool false]) (W.drewN n) := fun n => Ct.lookOk (Mp.keep (w' := W.drewN n) hmp fun _ _ => rfl) Tryz.underlying86 (Tryz.zeroInt _) hx
  have hsh : ∀ n, Tryz.ShS (W.drewN n) own b [] := fun n => h.keep (fun k e => hbel.block k (h.lt k e)) hbel.size
  have hps := fun n => Tryz.hPushS (hsh n) x d hx
  have hlk0 : (Instr.lookup 86 (.map (some m)) (.string x) true).run Tryz.prog W = .ok (.tuple #[.int .i64 0, .bool false]) W := Ct.lookOk hmp Tryz.underlying86 (Tryz.zeroInt _) hx
  subst hW
  have hps0 := Tryz.hPushS h x d hx
  clear hlk hps h1 h2 h3 h4 h5 h6 h7 h8 hb1 hmp hsh HW
  go_enter Tryz.func24, Tryz.ntmps24
  go_wp2_with (first
    | (go_at_call 47; refine hps0.mono ?_; clear hps0; rintro e w2 ⟨⟨v, rfl⟩, h9⟩)
    | fail)
  go_end0
  exact ⟨⟨_, rfl⟩, h9⟩
/-- Nothing is over. -/
theorem Tryz.ShS.cells0 {w : World} {own : Nat → Prop} {b : Nat} (h : Tryz.ShS w own b []) : ∃ ad cap, w.cell? ⟨b, 0, none⟩ = some (.slice ad 0 cap) := by
  obtain ⟨V, m, h1, h2, h3, h4, h5, h6, h7, h8⟩ := h.ex
  rcases h2.2 with ⟨rfl, _⟩ | ⟨g, cap, cur, rfl, _⟩
  · exact ⟨none, 0, cell_of_row w b 0 _ _ _ h1⟩
  · exact ⟨_, cap, cell_of_row w b 0 _ _ _ h1⟩
set_option maxHeartbeats 2000000 in
theorem Tryz.dropS_nil {w : World} {own : Nat → Prop} {b : Nat} (h : Tryz.ShS w own b []) (now : Int) :
    Calls Tryz.prog 45 #[.pointer (some ⟨b, 0, none⟩), .int .i64 now] w fun e w' => e = .returned (.slice none 0 0) ∧ w' = w := by
  obtain ⟨ad, cap, c0⟩ := h.cells0
  clear h
  go_enter Tryz.func45, Tryz.ntmps45
  go_wp2
  refine wp_loop_rounds 1 ?_
  rw [rounds_succ]
  go_wp2
  go_ret
  exact ⟨rfl, rfl⟩
set_option maxHeartbeats 2000000 in
theorem Tryz.dropS_not {w : World} {own : Nat → Prop} {b : Nat} {x : ByteArray} {d : Int} (h : Tryz.ShS w own b [(x, d)]) (now : Int) (hd : now < d) :
    Calls Tryz.prog 45 #[.pointer (some ⟨b, 0, none⟩), .int .i64 now] w fun e w' => e = .returned (.slice none 0 0) ∧ w' = w := by
  obtain ⟨V, m, h1, h2, h3, h4, h5, h6, h7, h8⟩ := h.ex
  obtain ⟨g, cap, cur, rfl, hg, hcap, hcm, hcs, htk⟩ := Tryz.ShS.row1 h2
  have c0 : w.cell? ⟨b, 0, none⟩ = some (.slice (some ⟨g, 0, none⟩) 1 cap) := cell_of_row w b 0 _ _ _ h1
  have c1 : w.cell? ⟨g, 1, none⟩ = some (.int .i64 d) := Se.take_cell hg htk 1 _ rfl
  have hd' : ¬ d ≤ now := by omega
  clear h h1 h2 h3 h4 h5 h6 h7 h8 hg htk hcs hcm hd
  go_enter Tryz.func45, Tryz.ntmps45
  go_wp2
  refine wp_loop_rounds 1 ?_
  rw [rounds_succ]
  go_wp2
  go_ret
  exact ⟨rfl, rfl⟩
end Go.Proofs
namespace Go.Proofs
open Go.RowKit Go.Wi Go.Se Go.Ct
theorem Se.take_two {cur : Array Value} {a b : Value} (h : cur.toList.take 2 = [a, b]) (v : Value) : (cur.setIfInBounds 1 v).toList.take 2 = [a, v] := by
  obtain ⟨l⟩ := cur
  match l, h with
  | c :: d :: r, h =>
    simp at h
    simp [h.1]
set_option maxHeartbeats 2000000 in
set_option maxRecDepth 4000 in
theorem Tryz.putS_same {w : World} {own : Nat → Prop} {b : Nat} {x : ByteArray} {d : Int} (h : Tryz.ShS w own b [(x, d)]) (d' : Int) (hx : (Tryz.txtKy).ok x) :
    Calls Tryz.prog 24 #[.pointer (some ⟨b, 0, none⟩), .string x, .int .i64 d'] w fun e w' => (∃ v, e = .returned v) ∧ Tryz.SChgS own w w' b [(x, d')] := by
  obtain ⟨V, m, h1, h2, h3, h4, h5, h6, h7, h8⟩ := h.ex
  obtain ⟨g, cap, cur, rfl, hg, hcap, hcm, hcs, htk⟩ := Tryz.ShS.row1 h2
  have hgb : g ≠ b := fun e => h4 (by rw [e]; rfl)
  have hgm : g ≠ m := fun e => h5 (by rw [e]; rfl)
  have c0 : w.cell? ⟨b, 0, none⟩ = some (.slice (some ⟨g, 0, none⟩) 1 cap) := cell_of_row w b 0 _ _ _ h1
  have c1 : w.cell? ⟨b, 1, none⟩ = some (.map (some m)) := cell_of_row w b 1 _ _ _ h1
  have c2 : w.cell? ⟨g, 1, none⟩ = some (.int .i64 d) := Se.take_cell hg htk 1 _ rfl
  have c3 : w.frozen? ⟨g, 1, none⟩ = false := frozen_of_row w g 1 _ _ hg
  have hlk : (Instr.lookup 86 (.map (some m)) (.string x) true).run Tryz.prog w = .ok (.tuple #[.int .i64 0, .bool true]) w := by
    have := Ct.lookOk h3 Tryz.underlying86 (Tryz.zeroInt _) hx
    rw [Tryz.atS_one, if_pos rfl] at this
    exact this
  have hsh : Tryz.ShS (w.setCell ⟨g, 1, none⟩ (.int .i64 d')) own b [(x, d')] := by
    have ho : ∀ k, k ≠ g → (w.setCell ⟨g, 1, none⟩ (.int .i64 d')).heap[k]? = w.heap[k]? := fun k hk => Below.heap_setCell w ⟨g, 1, none⟩ _ k (fun e => hk (by simpa using e))
    refine ⟨⟨.slice (some ⟨g, 0, none⟩) 1 cap, m, (ho b (Ne.symm hgb)).trans h1, ⟨rfl, .inr ⟨g, cap, cur.setIfInBounds 1 (.int .i64 d'), rfl, Nat.zero_le _, heap_setCell_same w g 1 _ _ _ hg, hcap, hcm, by simpa using hcs, ?_⟩⟩, ?_, h4, h5, h6, h7, h8⟩, h.ob, fun k e => by simpa using h.lt k e⟩
    · exact Se.take_two htk _
    · refine Mp.cong (h3.keep fun k e => (by cases e; exact ho m (Ne.symm hgm))) fun y => ?_
      rw [Tryz.atS_one, Tryz.atS_one]
  have hwo : Wo own w (w.setCell ⟨g, 1, none⟩ (.int .i64 d')) := (Wo.refl own w).setCell g 1 _ (.inl (h8 g rfl))
  have hfx := Tryz.hFixS hsh
  clear h h1 h2 h3 h4 h5 h6 h7 h8 hg htk hcs hcm hx
  go_enter Tryz.func24, Tryz.ntmps24
  go_wp2_with (first
    | (go_at_call 46; refine hfx.mono ?_; clear hfx; rintro e w2 ⟨⟨v, rfl⟩, rfl⟩)
    | fail)
  refine bodyPost_ret (results_none rfl _ _ _) rfl ?_
  exact ⟨⟨_, rfl⟩, ⟨⟨own, hsh, fun k e => .inl e⟩, hwo⟩⟩
theorem Tryz.infoStr : (Tryz.prog.info? 9).map (fun i => (i.zero, i.size, i.bytes)) = some (some (.string ⟨#[]⟩), 1, 16) := by kernel_rfl
/-- 'append' of one text to nothing. -/
theorem Tryz.appStr0 {ops : Array Oper} {rest : List Oper} {o : Oper} {a : Act} {Q : Exit → Act → World → Prop} (hgd : o.guard = none) (s y : Operand)
    (ho : o.op = .call { callee := .builtin .append, args := #[s, y], argTypes := #[82, 82] })
    {w : World} (hs : a.eval s = .slice none 0 0) (hy : a.eval y = .slice (some ⟨w.heap.size, 0, none⟩) 1 1) (t : ByteArray)
    (hK : ∀ g n cap w1, Below w.heap.size w w1 → wpList Tryz.prog ops Q rest (a.put o.dst (.slice (some ⟨g, 0, none⟩) n cap)) w1) : wpList Tryz.prog ops Q (o :: rest) a (w.alloc (.cells #[.string t] 9)) := by
  obtain ⟨i0, hi0, hz0, hz1, hz2⟩ := info_parts Tryz.infoStr
  have hn : (w.alloc (.cells #[.string t] 9)).heap[w.heap.size]? = some (.cells #[.string t] 9 (0, 0)) := heap_alloc_new w _
  have hbel : Below w.heap.size w (w.alloc (.cells #[.string t] 9)) := (Below.refl w.heap.size w).alloc (Nat.le_refl _) _
  refine wpList_append_lies _ hgd s y 82 ho 0 9 i0 _ 1 16 Tryz.underlying82 hi0 hz0 hz1 hz2 rfl (by omega) (.slice none 0 0) 0 [] hs (World.ownsRow_nil _ _ _ _) ⟨w.heap.size, 0, none⟩ 1 1 [.string t] hy rfl (World.news_of_block hn) (by simp [Value.oneCell']) (by omega) (by unfold maxLen; omega) (by omega) (by omega) _ rfl ?_
  intro g cap w' _ hg _ _
  exact hK g _ cap w' (hbel.grown hg hbel.size fun k e => by cases e)
set_option maxHeartbeats 4000000 in
set_option maxRecDepth 4000 in
theorem Tryz.dropS_one {w : World} {own : Nat → Prop} {b : Nat} {x : ByteArray} {d : Int} (h : Tryz.ShS w own b [(x, d)]) (hx : (Tryz.txtKy).ok x) (now : Int) (hd : d ≤ now) :
    Calls Tryz.prog 45 #[.pointer (some ⟨b, 0, none⟩), .int .i64 now] w fun e w' => (∃ v, e = .returned v) ∧ Tryz.SChgS own w w' b [] := by
  obtain ⟨V, m, h1, h2, h3, h4, h5, h6, h7, h8⟩ := h.ex
  obtain ⟨g, cap, cur, rfl, hg, hcap, hcm, hcs, htk⟩ := Tryz.ShS.row1 h2
  have c0 : w.cell? ⟨b, 0, none⟩ = some (.slice (some ⟨g, 0, none⟩) 1 cap) := cell_of_row w b 0 _ _ _ h1
  have c1 : w.cell? ⟨g, 1, none⟩ = some (.int .i64 d) := Se.take_cell hg htk 1 _ rfl
  have c2 : w.cell? ⟨g, 0, none⟩ = some (.string x) := Se.take_cell hg htk 0 _ rfl
  have hrm : ∀ w', Below w.heap.size w w' → Calls Tryz.prog 65 #[.iface 48 (.pointer (some ⟨b, 0, none⟩)), .int .i64 0] w' fun e w2 => (∃ v, e = .returned v) ∧ Tryz.SChgS own w w2 b [] := fun w' hb => by
    have hs' : Tryz.ShS w' own b [(x, d)] := h.keep (fun k e => hb.block k (h.lt k e)) hb.size
    exact (Tryz.hRemoveS hs' hx).mono fun e w2 ⟨e1, e2⟩ => ⟨e1, Tryz.SChgS.trans (own1 := own) (Wo.ofBelow hb) (fun k e => .inl e) e2⟩
  clear h h1 h2 h3 h4 h5 h6 h7 h8 hg htk hcs hcm hx
  go_enter Tryz.func45, Tryz.ntmps45
  go_wp2
  refine wp_loop_rounds 2 ?_
  rw [rounds_succ]
  go_wp2_with (first
    | (at_builtin; refine Tryz.appStr0 rfl _ _ rfl rfl rfl x ?_; intro g1 n1 cap1 w1 hb1)
    | (go_at_call 65; refine (hrm w1 hb1).mono ?_; clear hrm; rintro e w2 ⟨⟨v, rfl⟩, h9⟩; obtain ⟨own1, hS, ho⟩ := h9.ex; obtain ⟨ad, cap2, c5⟩ := hS.cells0)
    | fail)
  rw [rounds_succ]
  go_wp2
  go_ret
  exact ⟨⟨_, rfl⟩, h9⟩
end Go.Proofs
