/-
  Laid together by packg.py of WsO WsP.
-/
import Derived.Test.YtjiidkkmnlcpcaaGreatDoorPaU
import Derived.Test.YtjiidkkmnlcpcaaGreatDoorPaK
import Derived.Test.YtjiidkkmnlcpcaaGreatDoorPaR
import Derived.Deep.RegionWith
import Derived.Deep.WholeRow
import Derived.Deep.Cut
import Derived.Deep.CutBlock
namespace Go.Wb
open Go.RowKit Go.Wi Go.Proofs
theorem versionD_ok {b : Int} {l r : List UInt8} {i j v : Nat} (h : versionD b l i = .ok v r j) : v = 10 ∨ v = 11 := by
  have e := version_is (R := (.ok () l i : Re Unit)) (b := b) (i0 := i) (fun a r j e => by injection e with _ _ e; exact e.symm)
  rw [bind_ok_eq] at e
  rw [e] at h
  unfold versR at h
  obtain ⟨x, r1, j1, _, h⟩ := bind_ok h
  obtain ⟨u, r2, j2, _, h⟩ := bind_ok h
  obtain ⟨y, r3, j3, _, h⟩ := bind_ok h
  by_cases hc : x ≠ 1 ∨ 1 < y
  · rw [if_pos hc] at h; cases h
  · rw [if_neg hc] at h
    injection h with h
    omega
/-- The place and the number of a fault. -/
def codes {α : Type} : Re α → Nat × Nat
  | .bad a e => (a, e)
  | _ => (0, 0)
theorem codes_fit {α : Type} {x : Sn} {R : Re α} (h : Fitt x R) : x.at_ = (codes R).1 ∧ x.e = (codes R).2 := by
  cases R with
  | bad a e => exact ⟨h.2.2.1, h.1⟩
  | more => exact ⟨h.2.1, h.1⟩
  | ok a r i => exact ⟨h.2.1, h.1⟩
theorem results_row4 {P : Program} {fn : Func} {p t u v q : Tmp} {ty : TypeId} (h : fn.results = #[.cell p ty, .tmp t, .tmp u, .tmp v, .tmp q]) (tmps : Array Value) (w : World) (g : Nat) (tt : TypeId) (cs : Array Value) (fr : Nat × Nat) (d : TypeDesc)
    (hp : tmps.getD p undef = .pointer (some ⟨g, 0, none⟩)) (hg : w.heap[g]? = some (.cells cs tt fr))
    (hu : P.underlying ty = some d) (hd : (match d with | .struct _ | .array _ _ => true | _ => false) = true) (hi : (P.info? ty).map (·.size) = some cs.size) :
    (results fn tmps).run P w = .ok (.tuple #[.agg cs, tmps.getD t undef, tmps.getD u undef, tmps.getD v undef, tmps.getD q undef]) w := by
  have hp' : tmps[p]?.getD undef = .pointer (some ⟨g, 0, none⟩) := by simpa using hp
  simp [results, h, hp', asAddr, run_loadVar_row w g tt ty cs fr d hg hu hd hi]
theorem set7 {w : World} {g : Nat} {T : TypeId} {a0 a1 a2 a3 a4 a5 a6 : Value} (h : w.heap[g]? = some (.cells #[a0, a1, a2, a3, a4, a5, a6] T (0, 0))) (v0 v1 v2 v3 v4 v5 v6 : Value) :
    (((((((w.setCell ⟨g, 0, none⟩ v0).setCell ⟨g, 1, none⟩ v1).setCell ⟨g, 2, none⟩ v2).setCell ⟨g, 3, none⟩ v3).setCell ⟨g, 4, none⟩ v4).setCell ⟨g, 5, none⟩ v5).setCell ⟨g, 6, none⟩ v6).drew.heap[g]? = some (.cells #[v0, v1, v2, v3, v4, v5, v6] T (0, 0)) ∧
    Wo (fun k => k = g) w (((((((w.setCell ⟨g, 0, none⟩ v0).setCell ⟨g, 1, none⟩ v1).setCell ⟨g, 2, none⟩ v2).setCell ⟨g, 3, none⟩ v3).setCell ⟨g, 4, none⟩ v4).setCell ⟨g, 5, none⟩ v5).setCell ⟨g, 6, none⟩ v6).drew := by
  have h0 : (w.setCell ⟨g, 0, none⟩ v0).heap[g]? = some (.cells #[v0, a1, a2, a3, a4, a5, a6] T (0, 0)) := heap_setCell_same w g 0 _ _ v0 h
  have h1 : ((w.setCell ⟨g, 0, none⟩ v0).setCell ⟨g, 1, none⟩ v1).heap[g]? = some (.cells #[v0, v1, a2, a3, a4, a5, a6] T (0, 0)) := heap_setCell_same (w.setCell ⟨g, 0, none⟩ v0) g 1 _ _ v1 h0
  have h2 : (((w.setCell ⟨g, 0, none⟩ v0).setCell ⟨g, 1, none⟩ v1).setCell ⟨g, 2, none⟩ v2).heap[g]? = some (.cells #[v0, v1, v2, a3, a4, a5, a6] T (0, 0)) := heap_setCell_same ((w.setCell ⟨g, 0, none⟩ v0).setCell ⟨g, 1, none⟩ v1) g 2 _ _ v2 h1
  have h3 : ((((w.setCell ⟨g, 0, none⟩ v0).setCell ⟨g, 1, none⟩ v1).setCell ⟨g, 2, none⟩ v2).setCell ⟨g, 3, none⟩ v3).heap[g]? = some (.cells #[v0, v1, v2, v3, a4, a5, a6] T (0, 0)) := heap_setCell_same (((w.setCell ⟨g, 0, none⟩ v0).setCell ⟨g, 1, none⟩ v1).setCell ⟨g, 2, none⟩ v2) g 3 _ _ v3 h2
  have h4 : (((((w.setCell ⟨g, 0, none⟩ v0).setCell ⟨g, 1, none⟩ v1).setCell ⟨g, 2, none⟩ v2).setCell ⟨g, 3, none⟩ v3).setCell ⟨g, 4, none⟩ v4).heap[g]? = some (.cells #[v0, v1, v2, v3, v4, a5, a6] T (0, 0)) := heap_setCell_same ((((w.setCell ⟨g, 0, none⟩ v0).setCell ⟨g, 1, none⟩ v1).setCell ⟨g, 2, none⟩ v2).setCell ⟨g, 3, none⟩ v3) g 4 _ _ v4 h3
  have h5 : ((((((w.setCell ⟨g, 0, none⟩ v0).setCell ⟨g, 1, none⟩ v1).setCell ⟨g, 2, none⟩ v2).setCell ⟨g, 3, none⟩ v3).setCell ⟨g, 4, none⟩ v4).setCell ⟨g, 5, none⟩ v5).heap[g]? = some (.cells #[v0, v1, v2, v3, v4, v5, a6] T (0, 0)) := heap_setCell_same (((((w.setCell ⟨g, 0, none⟩ v0).setCell ⟨g, 1, none⟩ v1).setCell ⟨g, 2, none⟩ v2).setCell ⟨g, 3, none⟩ v3).setCell ⟨g, 4, none⟩ v4) g 5 _ _ v5 h4
  have h6 : (((((((w.setCell ⟨g, 0, none⟩ v0).setCell ⟨g, 1, none⟩ v1).setCell ⟨g, 2, none⟩ v2).setCell ⟨g, 3, none⟩ v3).setCell ⟨g, 4, none⟩ v4).setCell ⟨g, 5, none⟩ v5).setCell ⟨g, 6, none⟩ v6).heap[g]? = some (.cells #[v0, v1, v2, v3, v4, v5, v6] T (0, 0)) := heap_setCell_same ((((((w.setCell ⟨g, 0, none⟩ v0).setCell ⟨g, 1, none⟩ v1).setCell ⟨g, 2, none⟩ v2).setCell ⟨g, 3, none⟩ v3).setCell ⟨g, 4, none⟩ v4).setCell ⟨g, 5, none⟩ v5) g 6 _ _ v6 h5
  have hw : Wo (fun k => k = g) w (((((((w.setCell ⟨g, 0, none⟩ v0).setCell ⟨g, 1, none⟩ v1).setCell ⟨g, 2, none⟩ v2).setCell ⟨g, 3, none⟩ v3).setCell ⟨g, 4, none⟩ v4).setCell ⟨g, 5, none⟩ v5).setCell ⟨g, 6, none⟩ v6) := ((((((((Wo.refl (fun k => k = g) w).setCell g 0 _ (.inl rfl)).setCell g 1 _ (.inl rfl)).setCell g 2 _ (.inl rfl)).setCell g 3 _ (.inl rfl)).setCell g 4 _ (.inl rfl)).setCell g 5 _ (.inl rfl)).setCell g 6 _ (.inl rfl))
  clear h0 h1 h2 h3 h4 h5 h
  generalize (((((((w.setCell ⟨g, 0, none⟩ v0).setCell ⟨g, 1, none⟩ v1).setCell ⟨g, 2, none⟩ v2).setCell ⟨g, 3, none⟩ v3).setCell ⟨g, 4, none⟩ v4).setCell ⟨g, 5, none⟩ v5).setCell ⟨g, 6, none⟩ v6) = W at *
  exact ⟨h6, hw.os, hw.tape, hw.output, hw.size, hw.block⟩
abbrev mCells (me ta : List UInt8) (stt ver : Int) (V : Value) (bo : List UInt8) (la : Bool) : Array Value := #[.string ⟨me.toArray⟩, .string ⟨ta.toArray⟩, .int .i64 stt, .int .i64 ver, V, .string ⟨bo.toArray⟩, .bool la]
end Go.Wb
namespace Go.Proofs
open Go.RowKit Go.Wi Go.Wb
/-- In the midst of reading: what is to be answered, the scan, the message. -/
structure Tryz.RD (w wr : World) (g : Nat) (s : List UInt8) (st li : Nat) {α : Type} (R : Re α) (C : Array Value) : Prop where
  res : wr.heap[g]? = some (.cells (mCells [] [] 0 0 (.slice none 0 0) [] false) 99 (0, 0))
  ss : Tryz.SS wr (g + 1) s st li R
  m : wr.heap[g + 1 + 1]? = some (.cells C 99 (0, 0))
  bel : Below g w wr
theorem Tryz.RD.call {w wr w' : World} {g : Nat} {s : List UInt8} {st li : Nat} {α : Type} {R : Re α} {C : Array Value} (h : Tryz.RD w wr g s st li R C) (hw : Wo (fun k => k = g + 1) wr w') {st2 li2 : Nat} {β : Type} {S : Re β} (hs : Tryz.SS w' (g + 1) s st2 li2 S) : Tryz.RD w w' g s st2 li2 S C :=
  ⟨by rw [hw.block _ (block_lt h.res) (by omega), h.res], hs, by rw [hw.block _ (block_lt h.m) (by omega), h.m], Wo.toBelow h.bel hw (fun k e => by omega) (by have := block_lt h.res; omega)⟩
theorem Tryz.RD.setm {w wr : World} {g : Nat} {s : List UInt8} {st li : Nat} {α : Type} {R : Re α} {C : Array Value} (h : Tryz.RD w wr g s st li R C) (j : Nat) (v : Value) {C2 : Array Value} (hC : (wr.setCell ⟨g + 1 + 1, j, none⟩ v).heap[g + 1 + 1]? = some (.cells C2 99 (0, 0))) : Tryz.RD w (wr.setCell ⟨g + 1 + 1, j, none⟩ v) g s st li R C2 := by
  have hw : Wo (fun k => k = g + 1 + 1) wr (wr.setCell ⟨g + 1 + 1, j, none⟩ v) := (Wo.refl _ _).setCell (g + 1 + 1) j v (.inl rfl)
  exact ⟨by rw [hw.block _ (block_lt h.res) (by omega), h.res], Tryz.SS.keep h.ss (hw.block _ (Tryz.SS.lt h.ss) (by omega)), hC, Wo.toBelow h.bel hw (fun k e => by omega) (by have := block_lt h.res; omega)⟩
theorem Tryz.RD.drewN {w wr : World} {g : Nat} {s : List UInt8} {st li : Nat} {α : Type} {R : Re α} {C : Array Value} (h : Tryz.RD w wr g s st li R C) (n : Nat) : Tryz.RD w (wr.drewN n) g s st li R C := ⟨h.res, Tryz.SS.drewN h.ss n, h.m, ⟨h.bel.os, h.bel.tape, h.bel.output, h.bel.size, h.bel.block⟩⟩
/-- What Read answers of a response. -/
structure Tryz.ReadOk (w w' : World) (g : Nat) (s : List UInt8) (C : Array Value) (en at_ er : Nat) (wh : Bool) : Prop where
  bel : Below g w w'
  dead : deadR (resD s) = true → wh = false ∧ en = 0 ∧ at_ = (codes (resD s)).1 ∧ er = (codes (resD s)).2 ∧ C = mCells [] [] 0 0 (.slice none 0 0) [] false ∧ ∀ a e, resD s = .bad a e → e ≠ 0
  live : ∀ z r k, resD s = .ok z r k → wh = true ∧ en = k ∧ at_ = 0 ∧ er = 0 ∧ (∃ ad cap, C = mCells [] [] z.1.2.1 z.1.1 (.slice ad (z.1.2.2.map hdOf).length cap) z.2.2.1 (endsD (z.1.2.2.map hdOf) (decide (z.1.1 = 11))) ∧ w'.ownsRow g 57 2 (.slice ad (z.1.2.2.map hdOf).length cap) (z.1.2.2.map hdOf).length (hdCells (z.1.2.2.map hdOf))) ∧ k + r.length = s.length
theorem Tryz.RD.zero {w W : World} {g : Nat} {s : List UInt8} {st li : Nat} {α : Type} {R : Re α} {C : Array Value} (h : Tryz.RD w W g s st li R C) (hd : deadR R = true) (f : α → List UInt8 → Nat → Re _) (hT : resD s = R.bind f) {x : Sn} (hx : Fitt x R) :
    (((((((W.setCell ⟨g, 0, none⟩ (.string ⟨#[]⟩)).setCell ⟨g, 1, none⟩ (.string ⟨#[]⟩)).setCell ⟨g, 2, none⟩ (.int .i64 0)).setCell ⟨g, 3, none⟩ (.int .i64 0)).setCell ⟨g, 4, none⟩ (.slice none 0 0)).setCell ⟨g, 5, none⟩ (.string ⟨#[]⟩)).setCell ⟨g, 6, none⟩ (.bool false)).drew.heap[g]? = some (.cells (mCells [] [] 0 0 (.slice none 0 0) [] false) 99 (0, 0)) ∧
    Tryz.ReadOk w (((((((W.setCell ⟨g, 0, none⟩ (.string ⟨#[]⟩)).setCell ⟨g, 1, none⟩ (.string ⟨#[]⟩)).setCell ⟨g, 2, none⟩ (.int .i64 0)).setCell ⟨g, 3, none⟩ (.int .i64 0)).setCell ⟨g, 4, none⟩ (.slice none 0 0)).setCell ⟨g, 5, none⟩ (.string ⟨#[]⟩)).setCell ⟨g, 6, none⟩ (.bool false)).drew g s (mCells [] [] 0 0 (.slice none 0 0) [] false) 0 x.at_ x.e false := by
  obtain ⟨e1, e2⟩ := set7 h.res (.string ⟨#[]⟩) (.string ⟨#[]⟩) (.int .i64 0) (.int .i64 0) (.slice none 0 0) (.string ⟨#[]⟩) (.bool false)
  have hdT : deadR (resD s) = true := by rw [hT]; exact dead_bind hd f
  have hfT : Fitt x (resD s) := by
    rw [hT]
    cases R with
    | bad a e => exact hx
    | more => exact hx
    | ok a r i => cases hd
  exact ⟨e1, Wo.toBelow h.bel e2 (fun k e => by omega) (by have := block_lt h.res; omega), fun _ => ⟨rfl, rfl, (codes_fit hfT).1, (codes_fit hfT).2, rfl, fun a e he => by rw [he] at hfT; exact hfT.2.1⟩, fun z r k e => absurd e (dead_nok hdT z r k)⟩
/-- Behind the headers: the message has its headers. -/
structure Tryz.RH (w wx : World) (g : Nat) (s : List UInt8) (st : Nat) {β : Type} (R : Re β) (v1 v2 : Nat) (ad : Option Addr) (cap : Nat) (H : Hdl) (bo : List UInt8) (la : Bool) : Prop where
  rd : Tryz.RD w wx g s st 0 R (mCells [] [] v2 v1 (.slice ad H.length cap) bo la)
  row : wx.ownsRow (g + 1 + 1 + 1) 57 2 (.slice ad H.length cap) H.length (hdCells H)
  h32 : H.length ≤ 32
  lens : ∀ x ∈ H, x.1.length ≤ s.length ∧ x.2.length ≤ s.length
theorem Tryz.RH.call {w wx w' : World} {g : Nat} {s : List UInt8} {st st2 : Nat} {β γ : Type} {R : Re β} {S : Re γ} {v1 v2 : Nat} {ad : Option Addr} {cap : Nat} {H : Hdl} {bo : List UInt8} {la : Bool} (h : Tryz.RH w wx g s st R v1 v2 ad cap H bo la) (hw : Wo (fun k => k = g + 1) wx w') (hs : Tryz.SS w' (g + 1) s st2 0 S) : Tryz.RH w w' g s st2 S v1 v2 ad cap H bo la :=
  ⟨Tryz.RD.call h.rd hw hs, row_wo h.row (by omega) hw, h.h32, h.lens⟩
theorem Tryz.RH.setm {w wx : World} {g : Nat} {s : List UInt8} {st : Nat} {β : Type} {R : Re β} {v1 v2 : Nat} {ad : Option Addr} {cap : Nat} {H : Hdl} {bo bo2 : List UInt8} {la la2 : Bool} (h : Tryz.RH w wx g s st R v1 v2 ad cap H bo la) (j : Nat) (v : Value) (hC : (wx.setCell ⟨g + 1 + 1, j, none⟩ v).heap[g + 1 + 1]? = some (.cells (mCells [] [] v2 v1 (.slice ad H.length cap) bo2 la2) 99 (0, 0))) : Tryz.RH w (wx.setCell ⟨g + 1 + 1, j, none⟩ v) g s st R v1 v2 ad cap H bo2 la2 :=
  ⟨Tryz.RD.setm h.rd j v hC, row_wo (p := g + 1 + 1) h.row (by omega) ((Wo.refl _ _).setCell (g + 1 + 1) j v (.inl rfl)), h.h32, h.lens⟩
theorem Tryz.RH.keep {w wx w' : World} {g : Nat} {s : List UInt8} {st : Nat} {β : Type} {R : Re β} {v1 v2 : Nat} {ad : Option Addr} {cap : Nat} {H : Hdl} {bo : List UInt8} {la : Bool} (h : Tryz.RH w wx g s st R v1 v2 ad cap H bo la) (hb : Below wx.heap.size wx w') : Tryz.RH w w' g s st R v1 v2 ad cap H bo la :=
  ⟨⟨by rw [hb.block _ (block_lt h.rd.res), h.rd.res], Tryz.SS.keep h.rd.ss (hb.block _ (Tryz.SS.lt h.rd.ss)), by rw [hb.block _ (block_lt h.rd.m), h.rd.m], h.rd.bel.trans (hb.mono (by have := block_lt h.rd.res; omega))⟩, row_past2 h.row hb, h.h32, h.lens⟩
end Go.Proofs
namespace Go.Wb
open Go.RowKit Go.Wi Go.Proofs
theorem row_baseR {w : World} {B C : Nat} {e : TypeId} {size : Nat} {v : Value} {n : Nat} {xs : List Value} (h : w.ownsRow C e size v n xs) (hk : ∀ k, v.ownBlock = some k → B ≤ k) : w.ownsRow B e size v n xs := by
  refine ⟨h.1, ?_⟩
  rcases h.2 with h0 | ⟨g, cap, cur, rfl, h1, h2, h3⟩
  · exact .inl h0
  · exact .inr ⟨g, cap, cur, rfl, hk g rfl, h2, h3⟩
end Go.Wb
namespace Go.Proofs
open Go.RowKit Go.Wi Go.Wb
end Go.Proofs
