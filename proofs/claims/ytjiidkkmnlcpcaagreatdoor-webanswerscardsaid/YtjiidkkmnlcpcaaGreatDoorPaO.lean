/-
  Laid together by packg.py of WsO WsP.
-/
import Derived.Test.YtjiidkkmnlcpcaaGreatDoorPaU
import Derived.Test.YtjiidkkmnlcpcaaGreatDoorPaK
import Derived.Test.YtjiidkkmnlcpcaaGreatDoorPaR
import Derived.Deep.RegionWith
import Derived.Deep.WholeRow
import Derived.Deep.Cut
import Derived.Deep.CutBlock
namespace Go.Wb
open Go.RowKit Go.Wi Go.Proofs
/-- Some digits, one behind the other. -/
def digsR (b : Int) : Nat → Re Unit → Re Nat
  | 0, A => A.bind fun _ r i => .ok 0 r i
  | k + 1, A => (digsR b k A).bind fun x r i => (digitD b r i).bind fun y r i => .ok (10 * x + y) r i
theorem status_is {b : Int} {A : Re Unit} {i0 : Nat} (h : ∀ a r j, A = .ok a r j → j = i0) : (A.bind fun _ r i => statusD b r i) = (digsR b 3 A).bind fun x r j => if 200 ≤ x ∧ x ≤ 599 then .ok x r j else .bad i0 180 := by
  cases A with
  | bad a e => rfl
  | more => rfl
  | ok u r i =>
    obtain rfl := h _ _ _ rfl
    show statusD b r i = _
    unfold statusD digsR digsR digsR digsR
    rw [bind_ok_eq, bind_ok_eq]
    cases digitD b r i with
    | bad a e => rfl
    | more => rfl
    | ok x r1 j1 =>
      simp only [bind_ok_eq]
      cases digitD b r1 j1 with
      | bad a e => rfl
      | more => rfl
      | ok y r2 j2 =>
        simp only [bind_ok_eq]
        cases digitD b r2 j2 with
        | bad a e => rfl
        | more => rfl
        | ok z r3 j3 =>
          simp only [bind_ok_eq]
          rw [show 10 * (10 * (10 * 0 + x) + y) + z = x * 100 + y * 10 + z by omega]
/-- A response's first line. -/
def lineR (b : Int) (l : List UInt8) (i : Nat) : Re (Nat × Nat) :=
  (versionD b l i).bind fun v r j => (mustD b 32 r j).bind fun _ r j => (statusD b r j).bind fun s r j => (mustD b 32 r j).bind fun _ r j =>
  ((bytesD b r j).bind fun _ r j => endD b r j).bind fun _ r j => .ok (v, s) r j
theorem resp_line (b : Int) (n : Nat) (l : List UInt8) (i : Nat) : respD b n l i = (lineR b l i).bind fun x r j => (headersD b n [] r j).bind fun o r j => .ok (x.1, x.2, o) r j := by
  unfold respD lineR
  simp only [bind_bind]
  rfl
/-- The first line as it is read piece by piece. -/
theorem line_pieces (b : Int) (l : List UInt8) (i : Nat) (x : Sn) : Fitt x ((((((versionD b l i).bind fun _ r j => mustD b 32 r j).bind fun _ r j => statusD b r j).bind fun _ r j => mustD b 32 r j).bind fun _ r j => bytesD b r j).bind fun _ r j => endD b r j) → Fitt x (lineR b l i) := by
  unfold lineR
  cases versionD b l i with
  | bad a e => exact id
  | more => exact id
  | ok v r1 j1 =>
    simp only [bind_ok_eq]
    cases mustD b 32 r1 j1 with
    | bad a e => exact id
    | more => exact id
    | ok u r2 j2 =>
      simp only [bind_ok_eq]
      cases statusD b r2 j2 with
      | bad a e => exact id
      | more => exact id
      | ok s r3 j3 =>
        simp only [bind_ok_eq]
        cases mustD b 32 r3 j3 with
        | bad a e => exact id
        | more => exact id
        | ok u2 r4 j4 =>
          simp only [bind_ok_eq]
          cases bytesD b r4 j4 with
          | bad a e => exact id
          | more => exact id
          | ok t r5 j5 =>
            simp only [bind_ok_eq]
            cases endD b r5 j5 <;> exact id
theorem line_vals {b : Int} {l r : List UInt8} {i j : Nat} {x : Nat × Nat} (h : lineR b l i = .ok x r j) : (∃ r1 j1, versionD b l i = .ok x.1 r1 j1) ∧ ∃ r2 j2, (((versionD b l i).bind fun _ r j => mustD b 32 r j).bind fun _ r j => statusD b r j) = .ok x.2 r2 j2 := by
  unfold lineR at h
  obtain ⟨v, r1, j1, h1, h⟩ := bind_ok h
  obtain ⟨u, r2, j2, h2, h⟩ := bind_ok h
  obtain ⟨s, r3, j3, h3, h⟩ := bind_ok h
  obtain ⟨u2, r4, j4, h4, h⟩ := bind_ok h
  obtain ⟨u3, r5, j5, h5, h⟩ := bind_ok h
  injection h with h
  subst h
  exact ⟨⟨r1, j1, h1⟩, r3, j3, by rw [h1, bind_ok_eq, h2, bind_ok_eq, h3]⟩
theorem versionD_ok {b : Int} {l r : List UInt8} {i j v : Nat} (h : versionD b l i = .ok v r j) : v = 10 ∨ v = 11 := by
  have e := version_is (R := (.ok () l i : Re Unit)) (b := b) (i0 := i) (fun a r j e => by injection e with _ _ e; exact e.symm)
  rw [bind_ok_eq] at e
  rw [e] at h
  unfold versR at h
  obtain ⟨x, r1, j1, _, h⟩ := bind_ok h
  obtain ⟨u, r2, j2, _, h⟩ := bind_ok h
  obtain ⟨y, r3, j3, _, h⟩ := bind_ok h
  by_cases hc : x ≠ 1 ∨ 1 < y
  · rw [if_pos hc] at h; cases h
  · rw [if_neg hc] at h
    injection h with h
    omega
theorem resD_line (s : List UInt8) : resD s = (lineR (bnd 0 2048) s 0).bind fun x r j => (headersD (bnd 0 2048) (s.length + 1) [] r j).bind fun o r j => (bodyD (o.map hdOf) true (decide (x.1 = 11)) 999999999 x.2 r j).bind fun y r k => .ok ((x.1, x.2, o), j, y) r k := by
  unfold resD
  rw [resp_line]
  simp only [bind_bind]
  rfl
/-- The place and the number of a fault. -/
def codes {α : Type} : Re α → Nat × Nat
  | .bad a e => (a, e)
  | _ => (0, 0)
theorem codes_fit {α : Type} {x : Sn} {R : Re α} (h : Fitt x R) : x.at_ = (codes R).1 ∧ x.e = (codes R).2 := by
  cases R with
  | bad a e => exact ⟨h.2.2.1, h.1⟩
  | more => exact ⟨h.2.1, h.1⟩
  | ok a r i => exact ⟨h.2.1, h.1⟩
theorem results_row4 {P : Program} {fn : Func} {p t u v q : Tmp} {ty : TypeId} (h : fn.results = #[.cell p ty, .tmp t, .tmp u, .tmp v, .tmp q]) (tmps : Array Value) (w : World) (g : Nat) (tt : TypeId) (cs : Array Value) (fr : Nat × Nat) (d : TypeDesc)
    (hp : tmps.getD p undef = .pointer (some ⟨g, 0, none⟩)) (hg : w.heap[g]? = some (.cells cs tt fr))
    (hu : P.underlying ty = some d) (hd : (match d with | .struct _ | .array _ _ => true | _ => false) = true) (hi : (P.info? ty).map (·.size) = some cs.size) :
    (results fn tmps).run P w = .ok (.tuple #[.agg cs, tmps.getD t undef, tmps.getD u undef, tmps.getD v undef, tmps.getD q undef]) w := by
  have hp' : tmps[p]?.getD undef = .pointer (some ⟨g, 0, none⟩) := by simpa using hp
  simp [results, h, hp', asAddr, run_loadVar_row w g tt ty cs fr d hg hu hd hi]
theorem set7 {w : World} {g : Nat} {T : TypeId} {a0 a1 a2 a3 a4 a5 a6 : Value} (h : w.heap[g]? = some (.cells #[a0, a1, a2, a3, a4, a5, a6] T (0, 0))) (v0 v1 v2 v3 v4 v5 v6 : Value) :
    (((((((w.setCell ⟨g, 0, none⟩ v0).setCell ⟨g, 1, none⟩ v1).setCell ⟨g, 2, none⟩ v2).setCell ⟨g, 3, none⟩ v3).setCell ⟨g, 4, none⟩ v4).setCell ⟨g, 5, none⟩ v5).setCell ⟨g, 6, none⟩ v6).drew.heap[g]? = some (.cells #[v0, v1, v2, v3, v4, v5, v6] T (0, 0)) ∧
    Wo (fun k => k = g) w (((((((w.setCell ⟨g, 0, none⟩ v0).setCell ⟨g, 1, none⟩ v1).setCell ⟨g, 2, none⟩ v2).setCell ⟨g, 3, none⟩ v3).setCell ⟨g, 4, none⟩ v4).setCell ⟨g, 5, none⟩ v5).setCell ⟨g, 6, none⟩ v6).drew := by
  have h0 : (w.setCell ⟨g, 0, none⟩ v0).heap[g]? = some (.cells #[v0, a1, a2, a3, a4, a5, a6] T (0, 0)) := heap_setCell_same w g 0 _ _ v0 h
  have h1 : ((w.setCell ⟨g, 0, none⟩ v0).setCell ⟨g, 1, none⟩ v1).heap[g]? = some (.cells #[v0, v1, a2, a3, a4, a5, a6] T (0, 0)) := heap_setCell_same (w.setCell ⟨g, 0, none⟩ v0) g 1 _ _ v1 h0
  have h2 : (((w.setCell ⟨g, 0, none⟩ v0).setCell ⟨g, 1, none⟩ v1).setCell ⟨g, 2, none⟩ v2).heap[g]? = some (.cells #[v0, v1, v2, a3, a4, a5, a6] T (0, 0)) := heap_setCell_same ((w.setCell ⟨g, 0, none⟩ v0).setCell ⟨g, 1, none⟩ v1) g 2 _ _ v2 h1
  have h3 : ((((w.setCell ⟨g, 0, none⟩ v0).setCell ⟨g, 1, none⟩ v1).setCell ⟨g, 2, none⟩ v2).setCell ⟨g, 3, none⟩ v3).heap[g]? = some (.cells #[v0, v1, v2, v3, a4, a5, a6] T (0, 0)) := heap_setCell_same (((w.setCell ⟨g, 0, none⟩ v0).setCell ⟨g, 1, none⟩ v1).setCell ⟨g, 2, none⟩ v2) g 3 _ _ v3 h2
  have h4 : (((((w.setCell ⟨g, 0, none⟩ v0).setCell ⟨g, 1, none⟩ v1).setCell ⟨g, 2, none⟩ v2).setCell ⟨g, 3, none⟩ v3).setCell ⟨g, 4, none⟩ v4).heap[g]? = some (.cells #[v0, v1, v2, v3, v4, a5, a6] T (0, 0)) := heap_setCell_same ((((w.setCell ⟨g, 0, none⟩ v0).setCell ⟨g, 1, none⟩ v1).setCell ⟨g, 2, none⟩ v2).setCell ⟨g, 3, none⟩ v3) g 4 _ _ v4 h3
  have h5 : ((((((w.setCell ⟨g, 0, none⟩ v0).setCell ⟨g, 1, none⟩ v1).setCell ⟨g, 2, none⟩ v2).setCell ⟨g, 3, none⟩ v3).setCell ⟨g, 4, none⟩ v4).setCell ⟨g, 5, none⟩ v5).heap[g]? = some (.cells #[v0, v1, v2, v3, v4, v5, a6] T (0, 0)) := heap_setCell_same (((((w.setCell ⟨g, 0, none⟩ v0).setCell ⟨g, 1, none⟩ v1).setCell ⟨g, 2, none⟩ v2).setCell ⟨g, 3, none⟩ v3).setCell ⟨g, 4, none⟩ v4) g 5 _ _ v5 h4
  have h6 : (((((((w.setCell ⟨g, 0, none⟩ v0).setCell ⟨g, 1, none⟩ v1).setCell ⟨g, 2, none⟩ v2).setCell ⟨g, 3, none⟩ v3).setCell ⟨g, 4, none⟩ v4).setCell ⟨g, 5, none⟩ v5).setCell ⟨g, 6, none⟩ v6).heap[g]? = some (.cells #[v0, v1, v2, v3, v4, v5, v6] T (0, 0)) := heap_setCell_same ((((((w.setCell ⟨g, 0, none⟩ v0).setCell ⟨g, 1, none⟩ v1).setCell ⟨g, 2, none⟩ v2).setCell ⟨g, 3, none⟩ v3).setCell ⟨g, 4, none⟩ v4).setCell ⟨g, 5, none⟩ v5) g 6 _ _ v6 h5
  have hw : Wo (fun k => k = g) w (((((((w.setCell ⟨g, 0, none⟩ v0).setCell ⟨g, 1, none⟩ v1).setCell ⟨g, 2, none⟩ v2).setCell ⟨g, 3, none⟩ v3).setCell ⟨g, 4, none⟩ v4).setCell ⟨g, 5, none⟩ v5).setCell ⟨g, 6, none⟩ v6) := ((((((((Wo.refl (fun k => k = g) w).setCell g 0 _ (.inl rfl)).setCell g 1 _ (.inl rfl)).setCell g 2 _ (.inl rfl)).setCell g 3 _ (.inl rfl)).setCell g 4 _ (.inl rfl)).setCell g 5 _ (.inl rfl)).setCell g 6 _ (.inl rfl))
  clear h0 h1 h2 h3 h4 h5 h
  generalize (((((((w.setCell ⟨g, 0, none⟩ v0).setCell ⟨g, 1, none⟩ v1).setCell ⟨g, 2, none⟩ v2).setCell ⟨g, 3, none⟩ v3).setCell ⟨g, 4, none⟩ v4).setCell ⟨g, 5, none⟩ v5).setCell ⟨g, 6, none⟩ v6) = W at *
  exact ⟨h6, hw.os, hw.tape, hw.output, hw.size, hw.block⟩
abbrev mCells (me ta : List UInt8) (stt ver : Int) (V : Value) (bo : List UInt8) (la : Bool) : Array Value := #[.string ⟨me.toArray⟩, .string ⟨ta.toArray⟩, .int .i64 stt, .int .i64 ver, V, .string ⟨bo.toArray⟩, .bool la]
end Go.Wb
namespace Go.Proofs
open Go.RowKit Go.Wi Go.Wb
/-- In the midst of reading: what is to be answered, the scan, the message. -/
structure Tryz.RD (w wr : World) (g : Nat) (s : List UInt8) (st li : Nat) {α : Type} (R : Re α) (C : Array Value) : Prop where
  res : wr.heap[g]? = some (.cells (mCells [] [] 0 0 (.slice none 0 0) [] false) 99 (0, 0))
  ss : Tryz.SS wr (g + 1) s st li R
  m : wr.heap[g + 1 + 1]? = some (.cells C 99 (0, 0))
  bel : Below g w wr
theorem Tryz.RD.call {w wr w' : World} {g : Nat} {s : List UInt8} {st li : Nat} {α : Type} {R : Re α} {C : Array Value} (h : Tryz.RD w wr g s st li R C) (hw : Wo (fun k => k = g + 1) wr w') {st2 li2 : Nat} {β : Type} {S : Re β} (hs : Tryz.SS w' (g + 1) s st2 li2 S) : Tryz.RD w w' g s st2 li2 S C :=
  ⟨by rw [hw.block _ (block_lt h.res) (by omega), h.res], hs, by rw [hw.block _ (block_lt h.m) (by omega), h.m], Wo.toBelow h.bel hw (fun k e => by omega) (by have := block_lt h.res; omega)⟩
theorem Tryz.RD.setm {w wr : World} {g : Nat} {s : List UInt8} {st li : Nat} {α : Type} {R : Re α} {C : Array Value} (h : Tryz.RD w wr g s st li R C) (j : Nat) (v : Value) {C2 : Array Value} (hC : (wr.setCell ⟨g + 1 + 1, j, none⟩ v).heap[g + 1 + 1]? = some (.cells C2 99 (0, 0))) : Tryz.RD w (wr.setCell ⟨g + 1 + 1, j, none⟩ v) g s st li R C2 := by
  have hw : Wo (fun k => k = g + 1 + 1) wr (wr.setCell ⟨g + 1 + 1, j, none⟩ v) := (Wo.refl _ _).setCell (g + 1 + 1) j v (.inl rfl)
  exact ⟨by rw [hw.block _ (block_lt h.res) (by omega), h.res], Tryz.SS.keep h.ss (hw.block _ (Tryz.SS.lt h.ss) (by omega)), hC, Wo.toBelow h.bel hw (fun k e => by omega) (by have := block_lt h.res; omega)⟩
theorem Tryz.RD.drewN {w wr : World} {g : Nat} {s : List UInt8} {st li : Nat} {α : Type} {R : Re α} {C : Array Value} (h : Tryz.RD w wr g s st li R C) (n : Nat) : Tryz.RD w (wr.drewN n) g s st li R C := ⟨h.res, Tryz.SS.drewN h.ss n, h.m, ⟨h.bel.os, h.bel.tape, h.bel.output, h.bel.size, h.bel.block⟩⟩
/-- The message as it stands behind the first line, for the walk. -/
structure Tryz.Ln1 (w wx : World) (g : Nat) (s : List UInt8) (ver stt : Nat) : Prop where
  rd : Tryz.RD w wx g s 0 2048 (((((versionD (bnd 0 2048) s 0).bind fun _ r j => mustD (bnd 0 2048) 32 r j).bind fun _ r j => statusD (bnd 0 2048) r j).bind fun _ r j => mustD (bnd 0 2048) 32 r j).bind fun _ r j => bytesD (bnd 0 2048) r j) (mCells [] [] stt ver (.slice none 0 0) [] false)
  ver : NumOk ver 99 (versionD (bnd 0 2048) s 0)
  stt : NumOk stt 999 (((versionD (bnd 0 2048) s 0).bind fun _ r j => mustD (bnd 0 2048) 32 r j).bind fun _ r j => statusD (bnd 0 2048) r j)
theorem digs_is {b : Int} {k st y : Nat} {A : Re Unit} (h : ∀ x r j, digsR b k A = .ok x r j → st = x) (hy : valR 0 ((digsR b k A).bind fun _ r i => digitD b r i) = y) : ∀ x r j, digsR b (k + 1) A = .ok x r j → 10 * st + y = x := by
  intro x r j e
  unfold digsR at e
  obtain ⟨x1, r1, j1, e1, e⟩ := bind_ok e
  obtain ⟨y1, r2, j2, e2, e⟩ := bind_ok e
  injection e with e
  rw [h _ _ _ e1, ← hy, e1, bind_ok_eq, e2, ← e]
  rfl
theorem digs_fit {b : Int} {k : Nat} {A : Re Unit} (x : Sn) : Fitt x ((digsR b k A).bind fun _ r i => digitD b r i) → Fitt x (digsR b (k + 1) A) := by
  show _ → Fitt x ((digsR b k A).bind fun x r i => (digitD b r i).bind fun y r i => .ok (10 * x + y) r i)
  cases digsR b k A with
  | bad a e => exact id
  | more => exact id
  | ok n r i =>
    rw [bind_ok_eq, bind_ok_eq]
    cases digitD b r i <;> exact id
theorem status_bad {b : Int} {A : Re Unit} {i0 st : Nat} (h : ∀ a r j, A = .ok a r j → j = i0) (hs : ∀ x r j, digsR b 3 A = .ok x r j → st = x) (hc : ¬ (200 ≤ st ∧ st ≤ 599)) (x : Sn) : Fitt x ((digsR b 3 A).bind fun _ _ _ => (.bad i0 180 : Re Nat)) → Fitt x (A.bind fun _ r i => statusD b r i) := by
  rw [status_is h]
  cases hd : digsR b 3 A with
  | bad a e => exact id
  | more => exact id
  | ok n r i =>
    rw [bind_ok_eq, bind_ok_eq, if_neg (by rw [← hs _ _ _ hd]; exact hc)]
    exact id
theorem status_bad_no {b : Int} {A : Re Unit} {i0 st : Nat} (h : ∀ a r j, A = .ok a r j → j = i0) (hs : ∀ x r j, digsR b 3 A = .ok x r j → st = x) (hc : ¬ (200 ≤ st ∧ st ≤ 599)) : ∀ a r j, (A.bind fun _ r i => statusD b r i) ≠ .ok a r j := by
  rw [status_is h]
  intro a r j e
  obtain ⟨x, r1, j1, e1, e⟩ := bind_ok e
  rw [if_neg (by rw [← hs _ _ _ e1]; exact hc)] at e
  cases e
theorem status_good {b : Int} {A : Re Unit} {i0 st : Nat} (h : ∀ a r j, A = .ok a r j → j = i0) (hs : ∀ x r j, digsR b 3 A = .ok x r j → st = x) (hc : 200 ≤ st ∧ st ≤ 599) : (A.bind fun _ r i => statusD b r i) = digsR b 3 A := by
  rw [status_is h]
  cases hd : digsR b 3 A with
  | bad a e => rfl
  | more => rfl
  | ok n r i =>
    rw [bind_ok_eq, if_pos (by rw [← hs _ _ _ hd]; exact hc)]
/-- What Read answers of a response. -/
structure Tryz.ReadOk (w w' : World) (g : Nat) (s : List UInt8) (C : Array Value) (en at_ er : Nat) (wh : Bool) : Prop where
  bel : Below g w w'
  dead : deadR (resD s) = true → wh = false ∧ en = 0 ∧ at_ = (codes (resD s)).1 ∧ er = (codes (resD s)).2 ∧ C = mCells [] [] 0 0 (.slice none 0 0) [] false ∧ ∀ a e, resD s = .bad a e → e ≠ 0
  live : ∀ z r k, resD s = .ok z r k → wh = true ∧ en = k ∧ at_ = 0 ∧ er = 0 ∧ (∃ ad cap, C = mCells [] [] z.1.2.1 z.1.1 (.slice ad (z.1.2.2.map hdOf).length cap) z.2.2.1 (endsD (z.1.2.2.map hdOf) (decide (z.1.1 = 11))) ∧ w'.ownsRow g 57 2 (.slice ad (z.1.2.2.map hdOf).length cap) (z.1.2.2.map hdOf).length (hdCells (z.1.2.2.map hdOf))) ∧ k + r.length = s.length
theorem Tryz.RD.zero {w W : World} {g : Nat} {s : List UInt8} {st li : Nat} {α : Type} {R : Re α} {C : Array Value} (h : Tryz.RD w W g s st li R C) (hd : deadR R = true) (f : α → List UInt8 → Nat → Re _) (hT : resD s = R.bind f) {x : Sn} (hx : Fitt x R) :
    (((((((W.setCell ⟨g, 0, none⟩ (.string ⟨#[]⟩)).setCell ⟨g, 1, none⟩ (.string ⟨#[]⟩)).setCell ⟨g, 2, none⟩ (.int .i64 0)).setCell ⟨g, 3, none⟩ (.int .i64 0)).setCell ⟨g, 4, none⟩ (.slice none 0 0)).setCell ⟨g, 5, none⟩ (.string ⟨#[]⟩)).setCell ⟨g, 6, none⟩ (.bool false)).drew.heap[g]? = some (.cells (mCells [] [] 0 0 (.slice none 0 0) [] false) 99 (0, 0)) ∧
    Tryz.ReadOk w (((((((W.setCell ⟨g, 0, none⟩ (.string ⟨#[]⟩)).setCell ⟨g, 1, none⟩ (.string ⟨#[]⟩)).setCell ⟨g, 2, none⟩ (.int .i64 0)).setCell ⟨g, 3, none⟩ (.int .i64 0)).setCell ⟨g, 4, none⟩ (.slice none 0 0)).setCell ⟨g, 5, none⟩ (.string ⟨#[]⟩)).setCell ⟨g, 6, none⟩ (.bool false)).drew g s (mCells [] [] 0 0 (.slice none 0 0) [] false) 0 x.at_ x.e false := by
  obtain ⟨e1, e2⟩ := set7 h.res (.string ⟨#[]⟩) (.string ⟨#[]⟩) (.int .i64 0) (.int .i64 0) (.slice none 0 0) (.string ⟨#[]⟩) (.bool false)
  have hdT : deadR (resD s) = true := by rw [hT]; exact dead_bind hd f
  have hfT : Fitt x (resD s) := by
    rw [hT]
    cases R with
    | bad a e => exact hx
    | more => exact hx
    | ok a r i => cases hd
  exact ⟨e1, Wo.toBelow h.bel e2 (fun k e => by omega) (by have := block_lt h.res; omega), fun _ => ⟨rfl, rfl, (codes_fit hfT).1, (codes_fit hfT).2, rfl, fun a e he => by rw [he] at hfT; exact hfT.2.1⟩, fun z r k e => absurd e (dead_nok hdT z r k)⟩
/-- Behind the headers: the message has its headers. -/
structure Tryz.RH (w wx : World) (g : Nat) (s : List UInt8) (st : Nat) {β : Type} (R : Re β) (v1 v2 : Nat) (ad : Option Addr) (cap : Nat) (H : Hdl) (bo : List UInt8) (la : Bool) : Prop where
  rd : Tryz.RD w wx g s st 0 R (mCells [] [] v2 v1 (.slice ad H.length cap) bo la)
  row : wx.ownsRow (g + 1 + 1 + 1) 57 2 (.slice ad H.length cap) H.length (hdCells H)
  h32 : H.length ≤ 32
  lens : ∀ x ∈ H, x.1.length ≤ s.length ∧ x.2.length ≤ s.length
theorem Tryz.RH.call {w wx w' : World} {g : Nat} {s : List UInt8} {st st2 : Nat} {β γ : Type} {R : Re β} {S : Re γ} {v1 v2 : Nat} {ad : Option Addr} {cap : Nat} {H : Hdl} {bo : List UInt8} {la : Bool} (h : Tryz.RH w wx g s st R v1 v2 ad cap H bo la) (hw : Wo (fun k => k = g + 1) wx w') (hs : Tryz.SS w' (g + 1) s st2 0 S) : Tryz.RH w w' g s st2 S v1 v2 ad cap H bo la :=
  ⟨Tryz.RD.call h.rd hw hs, row_wo h.row (by omega) hw, h.h32, h.lens⟩
theorem Tryz.RH.setm {w wx : World} {g : Nat} {s : List UInt8} {st : Nat} {β : Type} {R : Re β} {v1 v2 : Nat} {ad : Option Addr} {cap : Nat} {H : Hdl} {bo bo2 : List UInt8} {la la2 : Bool} (h : Tryz.RH w wx g s st R v1 v2 ad cap H bo la) (j : Nat) (v : Value) (hC : (wx.setCell ⟨g + 1 + 1, j, none⟩ v).heap[g + 1 + 1]? = some (.cells (mCells [] [] v2 v1 (.slice ad H.length cap) bo2 la2) 99 (0, 0))) : Tryz.RH w (wx.setCell ⟨g + 1 + 1, j, none⟩ v) g s st R v1 v2 ad cap H bo2 la2 :=
  ⟨Tryz.RD.setm h.rd j v hC, row_wo (p := g + 1 + 1) h.row (by omega) ((Wo.refl _ _).setCell (g + 1 + 1) j v (.inl rfl)), h.h32, h.lens⟩
theorem Tryz.RH.keep {w wx w' : World} {g : Nat} {s : List UInt8} {st : Nat} {β : Type} {R : Re β} {v1 v2 : Nat} {ad : Option Addr} {cap : Nat} {H : Hdl} {bo : List UInt8} {la : Bool} (h : Tryz.RH w wx g s st R v1 v2 ad cap H bo la) (hb : Below wx.heap.size wx w') : Tryz.RH w w' g s st R v1 v2 ad cap H bo la :=
  ⟨⟨by rw [hb.block _ (block_lt h.rd.res), h.rd.res], Tryz.SS.keep h.rd.ss (hb.block _ (Tryz.SS.lt h.rd.ss)), by rw [hb.block _ (block_lt h.rd.m), h.rd.m], h.rd.bel.trans (hb.mono (by have := block_lt h.rd.res; omega))⟩, row_past2 h.row hb, h.h32, h.lens⟩
end Go.Proofs
namespace Go.Wb
open Go.RowKit Go.Wi Go.Proofs
theorem row_baseR {w : World} {B C : Nat} {e : TypeId} {size : Nat} {v : Value} {n : Nat} {xs : List Value} (h : w.ownsRow C e size v n xs) (hk : ∀ k, v.ownBlock = some k → B ≤ k) : w.ownsRow B e size v n xs := by
  refine ⟨h.1, ?_⟩
  rcases h.2 with h0 | ⟨g, cap, cur, rfl, h1, h2, h3⟩
  · exact .inl h0
  · exact .inr ⟨g, cap, cur, rfl, hk g rfl, h2, h3⟩
end Go.Wb
namespace Go.Proofs
open Go.RowKit Go.Wi Go.Wb
set_option maxRecDepth 20000 in
set_option maxHeartbeats 8000000 in
theorem Tryz.readResp_any {w : World} {s : List UInt8} (hs47 : s.length ≤ 140737488355328) :
    Calls Tryz.prog 47 #[.string ⟨s.toArray⟩, .int .i64 0, .bool true] w fun e w' => ∃ C, ∃ en at_ er : Nat, ∃ wh, e = .returned (.tuple #[.agg C, .int .i64 en, .int .i64 at_, .int .i64 er, .bool wh]) ∧ Tryz.ReadOk w w' w.heap.size s C en at_ er wh := by
  obtain ⟨g, hg⟩ : ∃ g, w.heap.size = g := ⟨_, rfl⟩
  have HG : Hid (w.heap.size = g) := hg
  rw [hg]
  clear hg
  go_enter Tryz.func47, Tryz.ntmps47
  go_upto_region 6 with (fail)
  rw [HG.out]
  generalize hW : (((w.alloc _).alloc _).alloc _) = W0
  have H0 : Hid (Tryz.RD w W0 g s 0 0 (.ok () s 0 : Re Unit) (mCells [] [] 0 0 (.slice none 0 0) [] false)) := (by
    show Tryz.RD _ _ _ _ _ _ _ _
    rw [← hW, ← HG.out]
    have a1 := heap_alloc_new w (.cells (mCells [] [] 0 0 (.slice none 0 0) [] false) 99)
    have b1 : Below w.heap.size w (w.alloc (.cells (mCells [] [] 0 0 (.slice none 0 0) [] false) 99)) := (Below.refl _ w).alloc (Nat.le_refl _) _
    have z1 : (w.alloc (.cells (mCells [] [] 0 0 (.slice none 0 0) [] false) 99)).heap.size = w.heap.size + 1 := by simp
    generalize w.alloc (.cells (mCells [] [] 0 0 (.slice none 0 0) [] false) 99) = w1 at *
    have a2 := heap_alloc_new w1 (.cells (Sn.cells ⟨s, 0, 0, 0, 0, 0, false⟩) 112)
    have b2 : Below w1.heap.size w1 (w1.alloc (.cells (Sn.cells ⟨s, 0, 0, 0, 0, 0, false⟩) 112)) := (Below.refl _ w1).alloc (Nat.le_refl _) _
    have z2 : (w1.alloc (.cells (Sn.cells ⟨s, 0, 0, 0, 0, 0, false⟩) 112)).heap.size = w1.heap.size + 1 := by simp
    show Tryz.RD w ((w1.alloc (.cells (Sn.cells ⟨s, 0, 0, 0, 0, 0, false⟩) 112)).alloc (.cells (mCells [] [] 0 0 (.slice none 0 0) [] false) 99)) w.heap.size s 0 0 (.ok () s 0 : Re Unit) (mCells [] [] 0 0 (.slice none 0 0) [] false)
    generalize w1.alloc (.cells (Sn.cells ⟨s, 0, 0, 0, 0, 0, false⟩) 112) = w2 at *
    have a3 := heap_alloc_new w2 (.cells (mCells [] [] 0 0 (.slice none 0 0) [] false) 99)
    have b3 : Below w2.heap.size w2 (w2.alloc (.cells (mCells [] [] 0 0 (.slice none 0 0) [] false) 99)) := (Below.refl _ w2).alloc (Nat.le_refl _) _
    rw [z1] at a2 z2
    rw [z2] at a3
    refine ⟨?_, ⟨⟨s, 0, 0, 0, 0, 0, false⟩, ?_, ⟨rfl, rfl, rfl, by omega, Nat.zero_le _, Nat.le_refl _, Nat.zero_le _, fun e => absurd rfl e⟩, rfl, rfl, rfl, rfl, rfl⟩, a3, ?_⟩
    · rw [b3.block _ (by omega), b2.block _ (by omega), a1]
    · show _ = _
      rw [b3.block _ (by omega), a2]
    · exact b1.trans ((b2.trans (b3.mono (by omega))).mono (by omega)))
  clear hW
  go_loopw [] (fun wr => wr = W0) (fun _ => 0)
  case atStart => exact rfl
  case round =>
    obtain rfl := hrel
    obtain ⟨d2, d3, f2, f3⟩ := Tryz.SS.cl H0.out.ss
    have d1 := (Tryz.SS.c H0.out.ss).2.1
    go_upto_if 41 with (fail)
    have h1 : Tryz.RD w ((wr.setCell ⟨g + 1, 2, none⟩ (.int .i64 0)).setCell ⟨g + 1, 3, none⟩ (.int .i64 2048)) g s 0 2048 (.ok () s 0 : Re Unit) (mCells [] [] 0 0 (.slice none 0 0) [] false) := Tryz.RD.call H0.out (((Wo.refl (fun k => k = g + 1) wr).setCell (g + 1) 2 _ (.inl rfl)).setCell (g + 1) 3 _ (.inl rfl)) (Tryz.SS.head H0.out.ss)
    clear H0
    generalize (wr.setCell ⟨g + 1, 2, none⟩ (.int .i64 0)).setCell ⟨g + 1, 3, none⟩ (.int .i64 2048) = W1 at *
    have H1 : Hid (Tryz.RD w W1 g s 0 2048 (.ok () s 0 : Re Unit) (mCells [] [] 0 0 (.slice none 0 0) [] false)) := h1
    clear h1 d1 d2 d3 f2 f3
    go_cut [13] (fun mv wx => mv = .int .i64 999999999 ∧ ∃ ver stt, Tryz.Ln1 w wx g s ver stt)
    case first =>
      have k1 := Tryz.ssVersion H1.out.ss
      rw [bind_ok_eq] at k1
      obtain ⟨A, hA⟩ : ∃ A, ((versionD (bnd 0 2048) s 0).bind fun _ r j => mustD (bnd 0 2048) 32 r j) = A := ⟨_, rfl⟩
      have HA : Hid (((versionD (bnd 0 2048) s 0).bind fun _ r j => mustD (bnd 0 2048) 32 r j) = A) := hA
      clear hA
      go_wp2_with (first
        | (go_at_call 64; refine k1.mono ?_; clear k1; rintro e w1 ⟨v, rfl, hv, g1, hw1⟩; have H2 : Hid (Tryz.RD w w1 g s 0 2048 (versionD (bnd 0 2048) s 0) (mCells [] [] 0 0 (.slice none 0 0) [] false)) := Tryz.RD.call H1.out hw1 g1; have c3 : w1.cell? ⟨g + 1 + 1, 3, none⟩ = some (.int .i64 0) := cell_of_row _ _ 3 _ _ _ H2.out.m; have f3 : w1.frozen? ⟨g + 1 + 1, 3, none⟩ = false := frozen_of_row _ _ 3 _ _ H2.out.m; have H3 : Hid (Tryz.RD w (w1.setCell ⟨g + 1 + 1, 3, none⟩ (.int .i64 v)) g s 0 2048 (versionD (bnd 0 2048) s 0) (mCells [] [] 0 v (.slice none 0 0) [] false)) := Tryz.RD.setm H2.out 3 (.int .i64 v) (heap_setCell_same _ (g + 1 + 1) 3 _ _ (.int .i64 v) H2.out.m); have k2 := Tryz.ssMust H3.out.ss 32; rw [HA.out] at k2; clear g1 hw1 H1 H2; have HV : Hid (NumOk v 99 (versionD (bnd 0 2048) s 0)) := hv; clear hv)
        | (go_at_call 65; refine k2.mono ?_; clear k2; rintro e w2 ⟨⟨v2, rfl⟩, g2, hw2, hm2⟩; clear hm2 c3 f3; have H4 : Hid (Tryz.RD w w2 g s 0 2048 A (mCells [] [] 0 v (.slice none 0 0) [] false)) := Tryz.RD.call H3.out hw2 g2; obtain ⟨at0, p0, p1, pf, pl, ps, pj⟩ := Tryz.SS.place g2; have HJ : Hid (∀ a r j, A = .ok a r j → j = at0) := pj; clear p0 pf ps pj g2 hw2 H3)
        | fail)
      clear p1
      go_loopw [15] (fun kv wl => ∃ k stt : Nat, kv = .int .i64 k ∧ k ≤ 3 ∧ stt < 10 ^ k ∧ (∀ x r j, digsR (bnd 0 2048) k A = .ok x r j → stt = x) ∧ Tryz.RD w wl g s 0 2048 (digsR (bnd 0 2048) k A) (mCells [] [] stt v (.slice none 0 0) [] false)) (fun kv _ => 3 - (intOf kv).toNat)
      case atStart =>
        refine ⟨0, 0, rfl, by decide, by decide, fun x r j e => ?_, Tryz.RD.call H4.out (Wo.refl _ _) (Tryz.SS.val H4.out.ss 0)⟩
        obtain ⟨u, r1, j1, _, e⟩ := bind_ok e
        injection e
      case round =>
        obtain ⟨k, stt, rfl, hk3, hst, hsx, hrd⟩ := hrel
        have HR : Hid (Tryz.RD w wr g s 0 2048 (digsR (bnd 0 2048) k A) (mCells [] [] stt v (.slice none 0 0) [] false)) := hrd
        have HX : Hid (∀ x r j, digsR (bnd 0 2048) k A = .ok x r j → stt = x) := hsx
        clear H4 hsx
        have c2 : wr.cell? ⟨g + 1 + 1, 2, none⟩ = some (.int .i64 stt) := cell_of_row _ _ 2 _ _ _ hrd.m
        have f2 : wr.frozen? ⟨g + 1 + 1, 2, none⟩ = false := frozen_of_row _ _ 2 _ _ hrd.m
        by_cases hlt : k < 3
        · have q : (k : Int) < 3 := by omega
          have hs99 : stt ≤ 99 := by
            have : 10 ^ k ≤ 10 ^ 2 := Nat.pow_le_pow_right (by decide) (by omega)
            omega
          obtain ⟨y, hy⟩ : ∃ y, valR 0 ((digsR (bnd 0 2048) k A).bind fun _ r i => digitD (bnd 0 2048) r i) = y := ⟨_, rfl⟩
          have hy9 : y ≤ 9 := by rw [← hy]; exact digit_val _ _
          have kd : ∀ W : World, W.heap = wr.heap → W.os = wr.os → W.tape = wr.tape → W.output = wr.output → Calls Tryz.prog 66 #[.pointer (some ⟨g + 1, 0, none⟩)] W fun e w' => e = .returned (.int .i64 y) ∧ Tryz.RD w w' g s 0 2048 (digsR (bnd 0 2048) (k + 1) A) (mCells [] [] stt v (.slice none 0 0) [] false) := fun W e1 e2 e3 e4 => (by
            have hW : Tryz.RD w W g s 0 2048 (digsR (bnd 0 2048) k A) (mCells [] [] stt v (.slice none 0 0) [] false) := ⟨by rw [e1]; exact hrd.res, Tryz.SS.keep hrd.ss (by rw [e1]), by rw [e1]; exact hrd.m, ⟨e2.trans hrd.bel.os, e3.trans hrd.bel.tape, e4.trans hrd.bel.output, by rw [e1]; exact hrd.bel.size, fun j hj => by rw [e1]; exact hrd.bel.block j hj⟩⟩
            refine (Tryz.ssDigit hW.ss).mono ?_
            rintro e w1 ⟨rfl, g1, g2⟩
            exact ⟨by rw [hy], Tryz.RD.call hW g2 (Tryz.SS.fit g1 digs_fit)⟩)
          have HN : Hid (∀ x r j, digsR (bnd 0 2048) (k + 1) A = .ok x r j → 10 * stt + y = x) := digs_is HX.out hy
          have HP : Hid (10 * stt + y < 10 ^ (k + 1)) := (by show _ < _; rw [Nat.pow_succ]; omega)
          clear hrd hy hst hlt HX
          go_upto_region 16 with (fail)
          go_region_with (first | (go_at_call 66; refine (kd wr.drew rfl rfl rfl rfl).mono ?_; clear kd; rintro e w3 ⟨rfl, h3⟩; have HR3 : Hid (Tryz.RD w w3 g s 0 2048 (digsR (bnd 0 2048) (k + 1) A) (mCells [] [] stt v (.slice none 0 0) [] false)) := h3; have c3 : w3.cell? ⟨g + 1 + 1, 2, none⟩ = some (.int .i64 stt) := cell_of_row _ _ 2 _ _ _ h3.m; have f3 : w3.frozen? ⟨g + 1 + 1, 2, none⟩ = false := frozen_of_row _ _ 2 _ _ h3.m; clear h3) | fail)
          all_goals
            go_wp2
            go_roundw
            case rel => exact ⟨k + 1, 10 * stt + y, by simp, by omega, HP.out, HN.out, Tryz.RD.setm HR3.out 2 _ (heap_setCell_same _ (g + 1 + 1) 2 _ _ _ HR3.out.m)⟩
            case measure => simp [intOf]; omega
        · have q : ¬ (k : Int) < 3 := by omega
          obtain rfl : k = 3 := by omega
          have hs999 : stt ≤ 999 := by have : (10 : Nat) ^ 3 = 1000 := by decide
                                       omega
          clear hst hlt hk3
          by_cases hc : 200 ≤ stt ∧ stt ≤ 599
          · have q1 : ¬ (stt : Int) < 200 := by omega
            have q2 : ¬ (599 : Int) < (stt : Int) := by omega
            have q2d : decide ((599 : Int) < (stt : Int)) = false := decide_eq_false q2
            have q1d : decide ((stt : Int) < 200) = false := decide_eq_false q1
            have hsg := status_good HJ.out HX.out hc
            have HSG : Hid (Tryz.RD w wr g s 0 2048 (A.bind fun _ r i => statusD (bnd 0 2048) r i) (mCells [] [] stt v (.slice none 0 0) [] false)) := (by show Tryz.RD _ _ _ _ _ _ _ _; rw [hsg]; exact hrd)
            have HNO : Hid (NumOk stt 999 (A.bind fun _ r i => statusD (bnd 0 2048) r i)) := ⟨hs999, fun a r j e => by rw [hsg] at e; exact HX.out a r j e⟩
            have k5 := Tryz.ssMust HSG.out.ss 32
            clear hrd hsg HR hc HX HJ
            go_wp2_with (first
              | (go_at_call 65; refine k5.mono ?_; clear k5 c2 f2; rintro e w5 ⟨⟨v5, rfl⟩, g5, hw5, hm5⟩; clear hm5; have H5 : Hid _ := Tryz.RD.call HSG.out hw5 g5; have k6 := Tryz.ssBytes g5; clear g5 hw5)
              | (go_at_call 68; refine k6.mono ?_; clear k6; rintro e w6 ⟨v6, rfl, hx6, g6, hw6⟩; have H6 : Hid _ := Tryz.RD.call H5.out hw6 g6; clear g6 hw6 hx6)
              | fail)
            go_meet
            exact ⟨rfl, v, stt, by rw [HA.out]; exact H6.out, HV.out, by rw [HA.out]; exact HNO.out⟩
          · have k4 : Calls Tryz.prog 67 #[.pointer (some ⟨g + 1, 0, none⟩), .int .i64 at0, .int .i64 180] wr fun e w' => (∃ v, e = .returned v) ∧ Tryz.RD w w' g s 0 2048 (A.bind fun _ r i => statusD (bnd 0 2048) r i) (mCells [] [] stt v (.slice none 0 0) [] false) := by
              refine (Tryz.ssFail Nat hrd.ss at0 180 (by decide)).mono ?_
              rintro e w1 ⟨hv, g1, g2, g3⟩
              exact ⟨hv, Tryz.RD.call hrd g2 (Tryz.SS.fit g1 (status_bad HJ.out HX.out hc))⟩
            have HNO : Hid (NumOk stt 999 (A.bind fun _ r i => statusD (bnd 0 2048) r i)) := ⟨hs999, fun a r j e => absurd e (status_bad_no HJ.out HX.out hc a r j)⟩
            clear hrd HR HX HJ
            by_cases hc2 : stt < 200
            · have q1 : (stt : Int) < 200 := by omega
              have q1d : decide ((stt : Int) < 200) = true := decide_eq_true q1
              clear hc hc2
              go_wp2_with (first
                | (go_at_call 67; refine k4.mono ?_; clear k4 c2 f2; rintro e w4 ⟨⟨v4, rfl⟩, h4⟩; have H4 : Hid _ := h4; have k5 := Tryz.ssMust h4.ss 32; clear h4)
                | (go_at_call 65; refine k5.mono ?_; clear k5; rintro e w5 ⟨⟨v5, rfl⟩, g5, hw5, hm5⟩; clear hm5; have H5 : Hid _ := Tryz.RD.call H4.out hw5 g5; have k6 := Tryz.ssBytes g5; clear g5 hw5)
                | (go_at_call 68; refine k6.mono ?_; clear k6; rintro e w6 ⟨v6, rfl, hx6, g6, hw6⟩; have H6 : Hid _ := Tryz.RD.call H5.out hw6 g6; clear g6 hw6 hx6)
                | fail)
              go_meet
              exact ⟨rfl, v, stt, by rw [HA.out]; exact H6.out, HV.out, by rw [HA.out]; exact HNO.out⟩
            · have q1 : ¬ (stt : Int) < 200 := by omega
              have q2 : (599 : Int) < (stt : Int) := by omega
              have q2d : decide ((599 : Int) < (stt : Int)) = true := decide_eq_true q2
              have q1d : decide ((stt : Int) < 200) = false := decide_eq_false q1
              clear hc hc2
              go_wp2_with (first
                | (go_at_call 67; refine k4.mono ?_; clear k4 c2 f2; rintro e w4 ⟨⟨v4, rfl⟩, h4⟩; have H4 : Hid _ := h4; have k5 := Tryz.ssMust h4.ss 32; clear h4)
                | (go_at_call 65; refine k5.mono ?_; clear k5; rintro e w5 ⟨⟨v5, rfl⟩, g5, hw5, hm5⟩; clear hm5; have H5 : Hid _ := Tryz.RD.call H4.out hw5 g5; have k6 := Tryz.ssBytes g5; clear g5 hw5)
                | (go_at_call 68; refine k6.mono ?_; clear k6; rintro e w6 ⟨v6, rfl, hx6, g6, hw6⟩; have H6 : Hid _ := Tryz.RD.call H5.out hw6 g6; clear g6 hw6 hx6)
                | fail)
              go_meet
              exact ⟨rfl, v, stt, by rw [HA.out]; exact H6.out, HV.out, by rw [HA.out]; exact HNO.out⟩
    case rest =>
      obtain ⟨rfl, ver, stt, hln⟩ := hcut
      have HVE : Hid (NumOk ver 99 (versionD (bnd 0 2048) s 0)) := hln.ver
      have HST : Hid (NumOk stt 999 (((versionD (bnd 0 2048) s 0).bind fun _ r j => mustD (bnd 0 2048) 32 r j).bind fun _ r j => statusD (bnd 0 2048) r j)) := hln.stt
      have k1 : Calls Tryz.prog 63 #[.pointer (some ⟨g + 1, 0, none⟩)] wc fun e w' => (∃ v, e = .returned v) ∧ Tryz.RD w w' g s 0 2048 (lineR (bnd 0 2048) s 0) (mCells [] [] stt ver (.slice none 0 0) [] false) := by
        refine (Tryz.ssEnd hln.rd.ss).mono ?_
        rintro e w1 ⟨hv, g1, g2⟩
        exact ⟨hv, Tryz.RD.call hln.rd g2 (Tryz.SS.fit g1 (line_pieces _ _ _))⟩
      clear hln H1
      have HRL : Hid (resD s = _) := resD_line s
      obtain ⟨L, hL⟩ : ∃ L, lineR (bnd 0 2048) s 0 = L := ⟨_, rfl⟩
      rw [hL] at k1 HRL
      cases hdL : deadR L with
      | true =>
        have HK : Hid (∀ w', Tryz.SS w' (g + 1) s 0 2048 L → Calls Tryz.prog 71 #[.pointer (some ⟨g + 1, 0, none⟩)] w' fun e w'' => e = .returned (.bool true) ∧ w'' = w') := fun w' h => (by have := Tryz.ssOver h; rw [hdL] at this; exact this)
        have HK2 : Hid (∀ w', Tryz.SS w' (g + 1) s 0 0 L → Calls Tryz.prog 71 #[.pointer (some ⟨g + 1, 0, none⟩)] w' fun e w'' => e = .returned (.bool true) ∧ w'' = w') := fun w' h => (by have := Tryz.ssOver h; rw [hdL] at this; exact this)
        have HDL : Hid (deadR L = true) := hdL
        clear hL hdL
        go_upto_region 31 with (first
          | (go_at_call 63; refine k1.mono ?_; clear k1; rintro e w1 ⟨⟨v1, rfl⟩, h1⟩; have k2 := HK.out w1 h1.ss; obtain ⟨d2, d3, f2, f3⟩ := Tryz.SS.cl h1.ss; clear d2 f2 HK; have H2 : Hid (Tryz.RD w (w1.setCell ⟨g + 1, 3, none⟩ (.int .i64 0)) g s 0 0 L (mCells [] [] stt ver (.slice none 0 0) [] false)) := Tryz.RD.call h1 ((Wo.refl (fun k => k = g + 1) w1).setCell (g + 1) 3 _ (.inl rfl)) (Tryz.SS.tail h1.ss); have k3 := HK2.out _ H2.out.ss; clear h1 HK2)
          | (go_at_call 71; refine k2.mono ?_; clear k2; rintro e w2 ⟨rfl, rfl⟩)
          | (go_at_call 71; refine k3.mono ?_; clear k3 d3 f3; rintro e w3 ⟨rfl, rfl⟩)
          | fail)
        generalize (w2.setCell ⟨g + 1, 3, none⟩ (.int .i64 0)) = W3 at *
        obtain ⟨x, hx1, hx2, hx3⟩ := H2.out.ss.ex
        obtain ⟨_, _, _, _, y4, y5, _⟩ := Tryz.Sc.c hx1
        have HZ : Hid _ := Tryz.RD.zero H2.out HDL.out _ HRL.out hx3
        clear hx1 hx2 hx3
        have e0 := H2.out.res
        have z0 : W3.cell? ⟨g, 0, none⟩ = some (.string ⟨#[]⟩) := cell_of_row _ _ 0 _ _ _ e0
        have z1 : W3.cell? ⟨g, 1, none⟩ = some (.string ⟨#[]⟩) := cell_of_row _ _ 1 _ _ _ e0
        have z2 : W3.cell? ⟨g, 2, none⟩ = some (.int .i64 0) := cell_of_row _ _ 2 _ _ _ e0
        have z3 : W3.cell? ⟨g, 3, none⟩ = some (.int .i64 0) := cell_of_row _ _ 3 _ _ _ e0
        have z4 : W3.cell? ⟨g, 4, none⟩ = some (.slice none 0 0) := cell_of_row _ _ 4 _ _ _ e0
        have z5 : W3.cell? ⟨g, 5, none⟩ = some (.string ⟨#[]⟩) := cell_of_row _ _ 5 _ _ _ e0
        have z6 : W3.cell? ⟨g, 6, none⟩ = some (.bool false) := cell_of_row _ _ 6 _ _ _ e0
        have f0 := fun j => frozen_of_row _ _ j _ _ e0
        have f00 := f0 0
        have f01 := f0 1
        have f02 := f0 2
        have f03 := f0 3
        have f04 := f0 4
        have f05 := f0 5
        have f06 := f0 6
        clear f0 e0
        go_region
        all_goals go_wp2
        all_goals exact bodyPost_ret (results_row4 rfl _ _ g _ _ _ _ rfl HZ.out.1 Tryz.underlying99 rfl (by kernel_rfl)) rfl ⟨_, 0, _, _, _, rfl, HZ.out.2⟩
      | false =>
        cases L with
        | bad a e => cases hdL
        | more => cases hdL
        | ok vs r j =>
          obtain ⟨v1, v2⟩ := vs
          obtain ⟨⟨r1, j1, hv1⟩, r2, j2, hv2⟩ := line_vals hL
          obtain rfl : ver = v1 := HVE.out.is _ _ _ hv1
          obtain rfl : stt = v2 := HST.out.is _ _ _ hv2
          have HVER : Hid (ver = 10 ∨ ver = 11) := versionD_ok hv1
          have hv99 : ver ≤ 99 := HVE.out.le
          have hs999 : stt ≤ 999 := HST.out.le
          obtain ⟨Th, hTh⟩ : ∃ Th, headersD (bnd 0 2048) (s.length + 1) [] r j = Th := ⟨_, rfl⟩
          have HRES : Hid (resD s = Th.bind fun o r j => (bodyD (o.map hdOf) true (decide (ver = 11)) 999999999 stt r j).bind fun y r k => .ok ((ver, stt, o), j, y) r k) := (by show _ = _; rw [HRL.out, bind_ok_eq, hTh])
          have HK : Hid (∀ w', Tryz.SS w' (g + 1) s 0 2048 (.ok (ver, stt) r j : Re (Nat × Nat)) → Calls Tryz.prog 71 #[.pointer (some ⟨g + 1, 0, none⟩)] w' fun e w'' => e = .returned (.bool false) ∧ w'' = w') := fun w' h => (by have := Tryz.ssOver h; skip; exact this)
          clear hv1 hv2 hL hdL HRL HVE HST
          cases hdT : deadR Th with
          | true =>
            have HK4 : Hid (∀ w', Tryz.SS w' (g + 1) s 0 0 Th → Calls Tryz.prog 71 #[.pointer (some ⟨g + 1, 0, none⟩)] w' fun e w'' => e = .returned (.bool true) ∧ w'' = w') := fun w' h => (by have := Tryz.ssOver h; rw [hdT] at this; exact this)
            have HH : Hid (∀ w', Tryz.RD w w' g s 0 2048 (.ok (ver, stt) r j : Re (Nat × Nat)) (mCells [] [] stt ver (.slice none 0 0) [] false) → Calls Tryz.prog 72 #[.pointer (some ⟨g + 1, 0, none⟩)] w' fun e w'' => ∃ ad n cap, e = .returned (.slice ad n cap) ∧ Tryz.RD w w'' g s 0 2048 Th (mCells [] [] stt ver (.slice none 0 0) [] false)) := fun w' h => (by
              refine (Tryz.ssHeaders h.ss hs47 s.length (Nat.le_refl _)).mono ?_
              rintro e w1 ⟨V, rfl, hh⟩
              obtain ⟨H, hrow, -, -, -⟩ := hh.ex
              obtain ⟨ad, cap, eV, -⟩ := (Hs.ofRow hrow).ex
              have h2 := hh.ss
              rw [bind_ok_eq, hTh] at h2
              exact ⟨ad, H.length, cap, by rw [eV], Tryz.RD.call h hh.wo h2⟩)
            have HDT : Hid (deadR Th = true) := hdT
            clear hTh hdT
            go_upto_region 31 with (first
              | (go_at_call 63; refine k1.mono ?_; clear k1; rintro e w1 ⟨⟨vv1, rfl⟩, h1⟩; have k2 := HK.out w1 h1.ss; have k3 := HH.out w1 h1; clear HK HH h1)
              | (go_at_call 71; refine k2.mono ?_; clear k2; rintro e w2 ⟨rfl, rfl⟩)
              | (go_at_call 72; refine k3.mono ?_; clear k3; rintro e w3 ⟨ad, n, cap, rfl, h3⟩; have c4 : w3.cell? ⟨g + 1 + 1, 4, none⟩ = some (.slice none 0 0) := cell_of_row _ _ 4 _ _ _ h3.m; have f4 : w3.frozen? ⟨g + 1 + 1, 4, none⟩ = false := frozen_of_row _ _ 4 _ _ h3.m; have h4 : Tryz.RD w (w3.setCell ⟨g + 1 + 1, 4, none⟩ (.slice ad n cap)) g s 0 2048 Th (mCells [] [] stt ver (.slice ad n cap) [] false) := Tryz.RD.setm h3 4 (.slice ad n cap) (heap_setCell_same _ (g + 1 + 1) 4 _ _ _ h3.m); obtain ⟨d2, d3, f2, f3⟩ := Tryz.SS.cl h4.ss; have H5 : Hid (Tryz.RD w ((w3.setCell ⟨g + 1 + 1, 4, none⟩ (.slice ad n cap)).setCell ⟨g + 1, 3, none⟩ (.int .i64 0)) g s 0 0 Th (mCells [] [] stt ver (.slice ad n cap) [] false)) := Tryz.RD.call h4 ((Wo.refl (fun k => k = g + 1) _).setCell (g + 1) 3 _ (.inl rfl)) (Tryz.SS.tail h4.ss); have k4 := HK4.out _ H5.out.ss; clear h3 h4 d2 f2 HK4)
              | (go_at_call 71; refine k4.mono ?_; clear k4 d3 f3 c4 f4; rintro e w4 ⟨rfl, rfl⟩)
              | fail)
            generalize ((w3.setCell ⟨g + 1 + 1, 4, none⟩ (.slice ad n cap)).setCell ⟨g + 1, 3, none⟩ (.int .i64 0)) = W5 at *
            obtain ⟨x, hx1, hx2, hx3⟩ := H5.out.ss.ex
            obtain ⟨_, _, _, _, y4, y5, _⟩ := Tryz.Sc.c hx1
            have HZ : Hid _ := Tryz.RD.zero H5.out HDT.out _ HRES.out hx3
            clear hx1 hx2 hx3
            have e0 := H5.out.res
            have z0 : W5.cell? ⟨g, 0, none⟩ = some (.string ⟨#[]⟩) := cell_of_row _ _ 0 _ _ _ e0
            have z1 : W5.cell? ⟨g, 1, none⟩ = some (.string ⟨#[]⟩) := cell_of_row _ _ 1 _ _ _ e0
            have z2 : W5.cell? ⟨g, 2, none⟩ = some (.int .i64 0) := cell_of_row _ _ 2 _ _ _ e0
            have z3 : W5.cell? ⟨g, 3, none⟩ = some (.int .i64 0) := cell_of_row _ _ 3 _ _ _ e0
            have z4 : W5.cell? ⟨g, 4, none⟩ = some (.slice none 0 0) := cell_of_row _ _ 4 _ _ _ e0
            have z5 : W5.cell? ⟨g, 5, none⟩ = some (.string ⟨#[]⟩) := cell_of_row _ _ 5 _ _ _ e0
            have z6 : W5.cell? ⟨g, 6, none⟩ = some (.bool false) := cell_of_row _ _ 6 _ _ _ e0
            have f0 := fun j => frozen_of_row _ _ j _ _ e0
            have f00 := f0 0
            have f01 := f0 1
            have f02 := f0 2
            have f03 := f0 3
            have f04 := f0 4
            have f05 := f0 5
            have f06 := f0 6
            clear f0 e0
            go_region
            all_goals go_wp2
            all_goals exact bodyPost_ret (results_row4 rfl _ _ g _ _ _ _ rfl HZ.out.1 Tryz.underlying99 rfl (by kernel_rfl)) rfl ⟨_, 0, _, _, _, rfl, HZ.out.2⟩
          | false =>
            cases Th with
            | bad a e => cases hdT
            | more => cases hdT
            | ok o r2 j2 =>
              obtain ⟨H, hH⟩ : ∃ H, o.map hdOf = H := ⟨_, rfl⟩
              obtain ⟨X, hX⟩ : ∃ X, rulesD H true (decide (ver = 11)) 999999999 = X := ⟨_, rfl⟩
              have HK4 : Hid (∀ w', Tryz.SS w' (g + 1) s 0 0 (.ok o r2 j2 : Re Hdl) → Calls Tryz.prog 71 #[.pointer (some ⟨g + 1, 0, none⟩)] w' fun e w'' => e = .returned (.bool false) ∧ w'' = w') := fun w' h => (by have := Tryz.ssOver h; skip; exact this)
              have HH : Hid (∀ w', Tryz.RD w w' g s 0 2048 (.ok (ver, stt) r j : Re (Nat × Nat)) (mCells [] [] stt ver (.slice none 0 0) [] false) → Calls Tryz.prog 72 #[.pointer (some ⟨g + 1, 0, none⟩)] w' fun e w'' => ∃ ad cap, e = .returned (.slice ad H.length cap) ∧ Tryz.RD w w'' g s 0 2048 (.ok o r2 j2 : Re Hdl) (mCells [] [] stt ver (.slice none 0 0) [] false) ∧ w''.ownsRow (g + 1 + 1 + 1) 57 2 (.slice ad H.length cap) H.length (hdCells H) ∧ H.length ≤ 32 ∧ ∀ x ∈ H, x.1.length ≤ s.length ∧ x.2.length ≤ s.length) := fun w' h => (by
                refine (Tryz.ssHeaders h.ss hs47 s.length (Nat.le_refl _)).mono ?_
                rintro e w1 ⟨V, rfl, hh⟩
                obtain ⟨H', hrow, h32, hlens, hH'⟩ := hh.ex
                have h2 := hh.ss
                rw [bind_ok_eq, hTh] at h2 hH'
                obtain rfl : H' = H := (hH' _ _ _ rfl).trans hH
                obtain ⟨ad, cap, eV, -⟩ := (Hs.ofRow hrow).ex
                rw [eV] at hrow
                exact ⟨ad, cap, by rw [eV], Tryz.RD.call h hh.wo h2, row_baseR hrow (fun k e => by have := (hrow.lt k e).1; have := block_lt h.m; omega), h32, hlens⟩)
              have HRU : Hid (∀ w' ad cap, Tryz.RH w w' g s 0 (.ok o r2 j2 : Re Hdl) ver stt ad cap H [] false → Calls Tryz.prog 73 #[.pointer (some ⟨g + 1, 0, none⟩), .agg #[.string ⟨#[]⟩, .string ⟨#[]⟩, .int .i64 stt, .int .i64 ver, .slice ad H.length cap, .string ⟨#[]⟩, .bool false], .bool true, .int .i64 999999999] w' fun e w'' => ∃ N : Int, e = .returned (.int .i64 N) ∧ (X.1 = 0 → N = rulesN X.2) ∧ (-1 ≤ N ∧ N ≤ 1000000000) ∧ Tryz.RH w w'' g s 0 (rulesR o r2 j2 X) ver stt ad cap H [] false) := fun w' ad cap h => (by
                have := Tryz.ssRules h.rd.ss (Hs.ofRow h.row) h.h32 (fun x hx => by have := h.lens x hx; omega) [] [] [] stt ver HVER.out false 999999999 (Nat.le_refl _)
                rw [hX] at this
                refine this.mono ?_
                rintro e w1 ⟨N, rfl, hN, hb, g1, g2⟩
                exact ⟨N, rfl, hN, by omega, Tryz.RH.call h g2 g1⟩)
              have HRES2 : Hid (resD s = (bodyD H true (decide (ver = 11)) 999999999 stt r2 j2).bind fun y r k => .ok ((ver, stt, o), j2, y) r k) := (by show _ = _; rw [HRES.out, bind_ok_eq, hH])
              have HHX : Hid (rulesD H true (decide (ver = 11)) 999999999 = X) := hX
              have HHO : Hid (o.map hdOf = H) := hH
              clear hTh hdT hH hX HRES
              go_upto_region 33 with (first
                | (go_at_call 63; refine k1.mono ?_; clear k1; rintro e w1 ⟨⟨vv1, rfl⟩, h1⟩; have k2 := HK.out w1 h1.ss; have k3 := HH.out w1 h1; clear HK HH h1)
                | (go_at_call 71; refine k2.mono ?_; clear k2; rintro e w2 ⟨rfl, rfl⟩)
                | (go_at_call 72; refine k3.mono ?_; clear k3; rintro e w3 ⟨ad, cap, rfl, h3, hrow, h32, hlens⟩; have c4 : w3.cell? ⟨g + 1 + 1, 4, none⟩ = some (.slice none 0 0) := cell_of_row _ _ 4 _ _ _ h3.m; have f4 : w3.frozen? ⟨g + 1 + 1, 4, none⟩ = false := frozen_of_row _ _ 4 _ _ h3.m; have h4 : Tryz.RD w (w3.setCell ⟨g + 1 + 1, 4, none⟩ (.slice ad H.length cap)) g s 0 2048 (.ok o r2 j2 : Re Hdl) (mCells [] [] stt ver (.slice ad H.length cap) [] false) := Tryz.RD.setm h3 4 (.slice ad H.length cap) (heap_setCell_same _ (g + 1 + 1) 4 _ _ _ h3.m); obtain ⟨d2, d3, f2, f3⟩ := Tryz.SS.cl h4.ss; have hr4 := row_wo (p := g + 1 + 1) hrow (by omega) ((Wo.refl _ _).setCell (g + 1 + 1) 4 (.slice ad H.length cap) (.inl rfl)); have H5 : Hid (Tryz.RH w ((w3.setCell ⟨g + 1 + 1, 4, none⟩ (.slice ad H.length cap)).setCell ⟨g + 1, 3, none⟩ (.int .i64 0)) g s 0 (.ok o r2 j2 : Re Hdl) ver stt ad cap H [] false) := ⟨Tryz.RD.call h4 ((Wo.refl (fun k => k = g + 1) _).setCell (g + 1) 3 _ (.inl rfl)) (Tryz.SS.tail h4.ss), row_wo (p := g + 1) hr4 (by omega) ((Wo.refl _ _).setCell (g + 1) 3 _ (.inl rfl)), h32, hlens⟩; have k4 := HK4.out _ H5.out.rd.ss; have k5 := HRU.out _ ad cap H5.out; have e5 := H5.out.rd.m; clear h3 h4 d2 f2 HK4 hrow hr4 hlens HRU)
                | (go_at_call 71; refine k4.mono ?_; clear k4 d3 f3 c4 f4; rintro e w4 ⟨rfl, rfl⟩; have t0 : ((w3.setCell ⟨g + 1 + 1, 4, none⟩ (.slice ad H.length cap)).setCell ⟨g + 1, 3, none⟩ (.int .i64 0)).cell? ⟨g + 1 + 1, 0, none⟩ = some (.string ⟨#[]⟩) := cell_of_row _ _ 0 _ _ _ e5; have t1 : ((w3.setCell ⟨g + 1 + 1, 4, none⟩ (.slice ad H.length cap)).setCell ⟨g + 1, 3, none⟩ (.int .i64 0)).cell? ⟨g + 1 + 1, 1, none⟩ = some (.string ⟨#[]⟩) := cell_of_row _ _ 1 _ _ _ e5; have t2 : ((w3.setCell ⟨g + 1 + 1, 4, none⟩ (.slice ad H.length cap)).setCell ⟨g + 1, 3, none⟩ (.int .i64 0)).cell? ⟨g + 1 + 1, 2, none⟩ = some (.int .i64 stt) := cell_of_row _ _ 2 _ _ _ e5; have t3 : ((w3.setCell ⟨g + 1 + 1, 4, none⟩ (.slice ad H.length cap)).setCell ⟨g + 1, 3, none⟩ (.int .i64 0)).cell? ⟨g + 1 + 1, 3, none⟩ = some (.int .i64 ver) := cell_of_row _ _ 3 _ _ _ e5; have t4 : ((w3.setCell ⟨g + 1 + 1, 4, none⟩ (.slice ad H.length cap)).setCell ⟨g + 1, 3, none⟩ (.int .i64 0)).cell? ⟨g + 1 + 1, 4, none⟩ = some (.slice ad H.length cap) := cell_of_row _ _ 4 _ _ _ e5; have t5 : ((w3.setCell ⟨g + 1 + 1, 4, none⟩ (.slice ad H.length cap)).setCell ⟨g + 1, 3, none⟩ (.int .i64 0)).cell? ⟨g + 1 + 1, 5, none⟩ = some (.string ⟨#[]⟩) := cell_of_row _ _ 5 _ _ _ e5; have t6 : ((w3.setCell ⟨g + 1 + 1, 4, none⟩ (.slice ad H.length cap)).setCell ⟨g + 1, 3, none⟩ (.int .i64 0)).cell? ⟨g + 1 + 1, 6, none⟩ = some (.bool false) := cell_of_row _ _ 6 _ _ _ e5; clear e5)
                | (go_at_call 73; refine k5.mono ?_; clear k5 t0 t1 t2 t3 t4 t5 t6 H5; rintro e w5 ⟨N, rfl, hN, hNb, h5⟩; have HN : Hid (X.1 = 0 → N = rulesN X.2) := hN; have H6 : Hid (Tryz.RH w w5 g s 0 (rulesR o r2 j2 X) ver stt ad cap H [] false) := h5; have t2 : w5.cell? ⟨g + 1 + 1, 2, none⟩ = some (.int .i64 stt) := cell_of_row _ _ 2 _ _ _ h5.rd.m; clear hN h5)
                | fail)
              go_cut [127] (fun bv wx => bv = .bool (bare stt) ∧ wx = w5)
              case first =>
                by_cases h204 : stt = 204
                · have q : ((stt : Int) == 204) = true := by rw [h204]; rfl
                  have HB : Hid (bare stt = true) := (by show _ = _; rw [h204]; rfl)
                  clear h204
                  go_wp2
                  go_meet
                  exact ⟨by rw [HB.out], rfl⟩
                · have q : ((stt : Int) == 204) = false := by simp; omega
                  by_cases h304 : stt = 304
                  · have q2 : ((stt : Int) == 304) = true := by rw [h304]; rfl
                    have HB : Hid (bare stt = true) := (by show _ = _; rw [h304]; rfl)
                    clear h304 h204
                    go_wp2
                    go_meet
                    exact ⟨by rw [HB.out], rfl⟩
                  · have q2 : ((stt : Int) == 304) = false := by simp; omega
                    have HB : Hid (bare stt = false) := (by show bare stt = false; unfold bare; simp [h204, h304])
                    clear h304 h204
                    go_wp2
                    go_meet
                    exact ⟨by rw [HB.out], rfl⟩
              case rest =>
                obtain ⟨rfl, rfl⟩ := hcut
                clear t2
                go_upto_if 127 with (fail)
                go_cut [16] (fun nv wx => nv = .int .i64 (if bare stt = true then 0 else N) ∧ wx = wc)
                case first =>
                  cases hb : bare stt with
                  | true =>
                    go_wp2
                    go_meet
                    exact ⟨by simp [hb], rfl⟩
                  | false =>
                    go_wp2
                    go_meet
                    exact ⟨by simp [hb], rfl⟩
                case rest =>
                  obtain ⟨rfl, rfl⟩ := hcut
                  go_upto_block 4 with (fail)
                  have H6o : Hid (X.1 = 0 → Tryz.RH w wc g s 0 (.ok o r2 j2 : Re Hdl) ver stt ad cap H [] false) := fun e => (by have := H6.out; unfold rulesR at this; rw [if_pos e] at this; exact this)
                  have H6b : Hid (¬ X.1 = 0 → Tryz.RH w wc g s 0 (.bad j2 X.1 : Re Hdl) ver stt ad cap H [] false) := fun e => (by have := H6.out; unfold rulesR at this; rw [if_neg e] at this; exact this)
                  obtain ⟨N2, hN2⟩ : ∃ N2, (if bare stt = true then (0 : Int) else N) = N2 := ⟨_, rfl⟩
                  rw [hN2]
                  obtain ⟨Bd, hBd⟩ : ∃ Bd, bodyD H true (decide (ver = 11)) 999999999 stt r2 j2 = Bd := ⟨_, rfl⟩
                  have HBD : Hid (bodyD H true (decide (ver = 11)) 999999999 stt r2 j2 = Bd) := hBd
                  have HN2 : Hid ((if bare stt = true then (0 : Int) else N) = N2) := hN2
                  rw [hBd] at HRES2
                  clear hBd hN2 H6
                  go_cut [] (fun wx => ∃ bo st2, Tryz.RH w wx g s st2 Bd ver stt ad cap H bo false ∧ ∀ y r k, Bd = .ok y r k → bo = y.1)
                  case first =>
                    by_cases hx0 : X.1 = 0
                    · have h6 := H6o.out hx0
                      have HBE : Hid (Bd = if bare stt then .ok ([], none) r2 j2 else match X.2 with
                          | none => (chunksD 999999999 (r2.length + 1) [] r2 j2).bind fun x r k => .ok (x.1, some x.2) r k
                          | some n => (someD n r2 j2).bind fun x r k => .ok (x, none) r k) := (by show _ = _; rw [← HBD.out]; unfold bodyD; rw [HHX.out, if_neg (by rw [hx0]; exact fun e => e rfl)]; rfl)
                      have k6 : Calls Tryz.prog 71 #[.pointer (some ⟨g + 1, 0, none⟩)] wc fun e w'' => e = .returned (.bool false) ∧ w'' = wc := Tryz.ssOver h6.rd.ss
                      have HSO : Hid (∀ n : Nat, n ≤ 1000000000 → Calls Tryz.prog 75 #[.pointer (some ⟨g + 1, 0, none⟩), .int .i64 n] wc fun e w'' => ∃ v : List UInt8, e = .returned (.string ⟨v.toArray⟩) ∧ (∀ x r k, someD n r2 j2 = .ok x r k → v = x) ∧ Tryz.RH w w'' g s 0 (someD n r2 j2) ver stt ad cap H [] false) := fun n hn => (by
                        refine (Tryz.ssSome h6.rd.ss n (by omega)).mono ?_
                        rintro e w1 ⟨v, rfl, hv, _, g1, g2⟩
                        rw [bind_ok_eq] at hv g1
                        exact ⟨v, rfl, hv.is, Tryz.RH.call h6 g2 g1⟩)
                      have HCH : Hid (Calls Tryz.prog 74 #[.pointer (some ⟨g + 1, 0, none⟩), .int .i64 999999999] wc fun e w'' => ∃ (v : List UInt8) (st2 : Nat), e = .returned (.string ⟨v.toArray⟩) ∧ (∀ x r k, chunksD 999999999 (r2.length + 1) [] r2 j2 = .ok x r k → v = x.1) ∧ Tryz.RH w w'' g s st2 (chunksD 999999999 (r2.length + 1) [] r2 j2) ver stt ad cap H [] false) := (by
                        refine (Tryz.ssChunks h6.rd.ss hs47 999999999 (Nat.le_refl _) r2.length (fun a r i e => by injection e with _ e1 _; subst e1; exact Nat.le_refl _)).mono ?_
                        rintro e w1 ⟨v, st2, rfl, _, hv, g1, g2⟩
                        rw [bind_ok_eq] at hv g1
                        exact ⟨v, st2, rfl, hv, Tryz.RH.call h6 g2 g1⟩)
                      have HNN : Hid (N = rulesN X.2) := HN.out hx0
                      clear h6 H6o H6b hx0
                      cases hb : bare stt with
                      | true =>
                        obtain rfl : N2 = 0 := by rw [← HN2.out, if_pos hb]
                        have k7 := HSO.out 0 (by decide)
                        have HEQ : Hid (Bd = .ok ([], none) r2 j2) := (by show _ = _; rw [HBE.out, hb, if_pos rfl])
                        clear hb HNN HCH HSO HBE HN2
                        go_wp2_with (first
                          | (go_at_call 71; refine k6.mono ?_; clear k6; rintro e w6 ⟨rfl, rfl⟩)
                          | (go_at_call 75; refine k7.mono ?_; clear k7; rintro e w7 ⟨v7, rfl, hv7, h7⟩; have c5 : w7.cell? ⟨g + 1 + 1, 5, none⟩ = some (.string ⟨#[]⟩) := cell_of_row _ _ 5 _ _ _ h7.rd.m; have f5 : w7.frozen? ⟨g + 1 + 1, 5, none⟩ = false := frozen_of_row _ _ 5 _ _ h7.rd.m; have H8 : Hid (Tryz.RH w (w7.setCell ⟨g + 1 + 1, 5, none⟩ (.string ⟨v7.toArray⟩)) g s 0 (someD 0 r2 j2) ver stt ad cap H v7 false) := Tryz.RH.setm h7 5 _ (heap_setCell_same _ (g + 1 + 1) 5 _ _ _ h7.rd.m); have HV7 : Hid (∀ x r k, someD 0 r2 j2 = .ok x r k → v7 = x) := hv7; clear hv7 h7)
                          | fail)
                        go_meet
                        refine ⟨v7, 0, Tryz.RH.call H8.out (Wo.refl _ _) (Tryz.SS.fit H8.out.rd.ss fun x hx => by rw [HEQ.out]; exact hx), fun y r k e => ?_⟩
                        rw [HEQ.out] at e
                        injection e with e
                        rw [← e]
                        exact HV7.out _ _ _ rfl
                      | false =>
                        obtain rfl : N2 = N := by rw [← HN2.out, hb]; rfl
                        rw [hb, if_neg (by decide)] at HBE
                        obtain ⟨X1, X2⟩ := X
                        cases X2 with
                        | none =>
                          obtain rfl : N2 = -1 := HNN.out
                          have HEQ : Hid (Bd = (chunksD 999999999 (r2.length + 1) [] r2 j2).bind fun x r k => .ok (x.1, some x.2) r k) := HBE.out
                          have k7 := HCH.out
                          clear hb HNN HCH HSO HBE HN2 HN
                          go_wp2_with (first
                            | (go_at_call 71; refine k6.mono ?_; clear k6; rintro e w6 ⟨rfl, rfl⟩)
                            | (go_at_call 74; refine k7.mono ?_; clear k7; rintro e w7 ⟨v7, st7, rfl, hv7, h7⟩; have c5 : w7.cell? ⟨g + 1 + 1, 5, none⟩ = some (.string ⟨#[]⟩) := cell_of_row _ _ 5 _ _ _ h7.rd.m; have f5 : w7.frozen? ⟨g + 1 + 1, 5, none⟩ = false := frozen_of_row _ _ 5 _ _ h7.rd.m; have H8 : Hid (Tryz.RH w (w7.setCell ⟨g + 1 + 1, 5, none⟩ (.string ⟨v7.toArray⟩)) g s st7 (chunksD 999999999 (r2.length + 1) [] r2 j2) ver stt ad cap H v7 false) := Tryz.RH.setm h7 5 _ (heap_setCell_same _ (g + 1 + 1) 5 _ _ _ h7.rd.m); have HV7 : Hid (∀ x r k, chunksD 999999999 (r2.length + 1) [] r2 j2 = .ok x r k → v7 = x.1) := hv7; clear hv7 h7)
                            | fail)
                          go_meet
                          refine ⟨v7, st7, Tryz.RH.call H8.out (Wo.refl _ _) (Tryz.SS.fit H8.out.rd.ss fun x hx => by rw [HEQ.out]; revert hx; cases chunksD 999999999 (r2.length + 1) [] r2 j2 <;> exact id), fun y r k e => ?_⟩
                          rw [HEQ.out] at e
                          obtain ⟨z, r4, k4, e4, e⟩ := bind_ok e
                          injection e with e
                          rw [← e]
                          exact HV7.out _ _ _ e4
                        | some n =>
                          obtain rfl : N2 = (n : Int) := HNN.out
                          have HEQ : Hid (Bd = (someD n r2 j2).bind fun x r k => .ok (x, none) r k) := HBE.out
                          have k7 := HSO.out n (by omega)
                          have q7 : ¬ (n : Int) < 0 := by omega
                          clear hb HNN HCH HSO HBE HN2 HN
                          go_wp2_with (first
                            | (go_at_call 71; refine k6.mono ?_; clear k6; rintro e w6 ⟨rfl, rfl⟩)
                            | (go_at_call 75; refine k7.mono ?_; clear k7; rintro e w7 ⟨v7, rfl, hv7, h7⟩; have c5 : w7.cell? ⟨g + 1 + 1, 5, none⟩ = some (.string ⟨#[]⟩) := cell_of_row _ _ 5 _ _ _ h7.rd.m; have f5 : w7.frozen? ⟨g + 1 + 1, 5, none⟩ = false := frozen_of_row _ _ 5 _ _ h7.rd.m; have H8 : Hid (Tryz.RH w (w7.setCell ⟨g + 1 + 1, 5, none⟩ (.string ⟨v7.toArray⟩)) g s 0 (someD n r2 j2) ver stt ad cap H v7 false) := Tryz.RH.setm h7 5 _ (heap_setCell_same _ (g + 1 + 1) 5 _ _ _ h7.rd.m); have HV7 : Hid (∀ x r k, someD n r2 j2 = .ok x r k → v7 = x) := hv7; clear hv7 h7)
                            | fail)
                          go_meet
                          refine ⟨v7, 0, Tryz.RH.call H8.out (Wo.refl _ _) (Tryz.SS.fit H8.out.rd.ss fun x hx => by rw [HEQ.out]; revert hx; cases someD n r2 j2 <;> exact id), fun y r k e => ?_⟩
                          rw [HEQ.out] at e
                          obtain ⟨z, r4, k4, e4, e⟩ := bind_ok e
                          injection e with e
                          rw [← e]
                          exact HV7.out _ _ _ e4
                    · have h6 := H6b.out hx0
                      have HEQ : Hid (Bd = .bad j2 X.1) := (by show _ = _; rw [← HBD.out]; unfold bodyD; rw [HHX.out, if_pos hx0])
                      have k6 : Calls Tryz.prog 71 #[.pointer (some ⟨g + 1, 0, none⟩)] wc fun e w'' => e = .returned (.bool true) ∧ w'' = wc := Tryz.ssOver h6.rd.ss
                      have H8 : Hid (Tryz.RH w wc g s 0 (.bad j2 X.1 : Re Hdl) ver stt ad cap H [] false) := h6
                      clear h6 H6o H6b hx0 HN HN2
                      go_wp2_with (first
                        | (go_at_call 71; refine k6.mono ?_; clear k6; rintro e w6 ⟨rfl, rfl⟩)
                        | fail)
                      go_meet
                      exact ⟨[], 0, Tryz.RH.call H8.out (Wo.refl _ _) (Tryz.SS.fit H8.out.rd.ss fun x hx => by rw [HEQ.out]; exact hx), fun y r k e => by rw [HEQ.out] at e; cases e⟩
                  case rest =>
                    obtain ⟨bo, st2, h7, hbo⟩ := hcut
                    have HBO : Hid (∀ y r k, Bd = .ok y r k → bo = y.1) := hbo
                    clear H6o H6b HN HN2 HBD HHX hbo
                    cases hdB : deadR Bd with
                    | true =>
                      have k8 : Calls Tryz.prog 71 #[.pointer (some ⟨g + 1, 0, none⟩)] wc fun e w'' => e = .returned (.bool true) ∧ w'' = wc := (by have := Tryz.ssOver h7.rd.ss; rw [hdB] at this; exact this)
                      have H7 : Hid (Tryz.RH w wc g s st2 Bd ver stt ad cap H bo false) := h7
                      have HDB : Hid (deadR Bd = true) := hdB
                      clear h7 hdB
                      go_upto_region 40 with (first
                        | (go_at_call 71; refine k8.mono ?_; clear k8; rintro e w8 ⟨rfl, rfl⟩)
                        | fail)
                      obtain ⟨x, hx1, hx2, hx3⟩ := H7.out.rd.ss.ex
                      obtain ⟨_, _, _, _, y4, y5, _⟩ := Tryz.Sc.c hx1
                      have HZ : Hid _ := Tryz.RD.zero H7.out.rd HDB.out _ HRES2.out hx3
                      clear hx1 hx2 hx3
                      have e0 := H7.out.rd.res
                      have z0 : w8.cell? ⟨g, 0, none⟩ = some (.string ⟨#[]⟩) := cell_of_row _ _ 0 _ _ _ e0
                      have z1 : w8.cell? ⟨g, 1, none⟩ = some (.string ⟨#[]⟩) := cell_of_row _ _ 1 _ _ _ e0
                      have z2 : w8.cell? ⟨g, 2, none⟩ = some (.int .i64 0) := cell_of_row _ _ 2 _ _ _ e0
                      have z3 : w8.cell? ⟨g, 3, none⟩ = some (.int .i64 0) := cell_of_row _ _ 3 _ _ _ e0
                      have z4 : w8.cell? ⟨g, 4, none⟩ = some (.slice none 0 0) := cell_of_row _ _ 4 _ _ _ e0
                      have z5 : w8.cell? ⟨g, 5, none⟩ = some (.string ⟨#[]⟩) := cell_of_row _ _ 5 _ _ _ e0
                      have z6 : w8.cell? ⟨g, 6, none⟩ = some (.bool false) := cell_of_row _ _ 6 _ _ _ e0
                      have f0 := fun j => frozen_of_row _ _ j _ _ e0
                      have f00 := f0 0
                      have f01 := f0 1
                      have f02 := f0 2
                      have f03 := f0 3
                      have f04 := f0 4
                      have f05 := f0 5
                      have f06 := f0 6
                      clear f0 e0
                      go_region
                      all_goals go_wp2
                      all_goals exact bodyPost_ret (results_row4 rfl _ _ g _ _ _ _ rfl HZ.out.1 Tryz.underlying99 rfl (by kernel_rfl)) rfl ⟨_, 0, _, _, _, rfl, HZ.out.2⟩
                    | false =>
                      cases Bd with
                      | bad a e => cases hdB
                      | more => cases hdB
                      | ok y r3 k3 =>
                        obtain rfl := HBO.out _ _ _ rfl
                        have k8 : Calls Tryz.prog 71 #[.pointer (some ⟨g + 1, 0, none⟩)] wc fun e w'' => e = .returned (.bool false) ∧ w'' = wc := Tryz.ssOver h7.rd.ss
                        have ki : ∀ (it : List UInt8) W, Tryz.RH w W g s st2 (.ok y r3 k3 : Re (List UInt8 × Option (List (List UInt8 × List UInt8) × Nat))) ver stt ad cap H y.1 false → Calls Tryz.prog 76 #[.agg #[.string ⟨#[]⟩, .string ⟨#[]⟩, .int .i64 stt, .int .i64 ver, .slice ad H.length cap, .string ⟨y.1.toArray⟩, .bool false], .string ⟨#[99, 111, 110, 110, 101, 99, 116, 105, 111, 110]⟩, .string ⟨it.toArray⟩] W fun e w' => e = .returned (.bool (hasItem (valsD H wConn) it)) ∧ Tryz.RH w w' g s st2 (.ok y r3 k3 : Re (List UInt8 × Option (List (List UInt8 × List UInt8) × Nat))) ver stt ad cap H y.1 false := fun it W h => (by
                          refine (Tryz.rItem_any (Hs.ofRow h.row) (by have := h.h32; omega) (fun x hx => by have := h.lens x hx; omega) [] [] y.1 wConn it stt ver false).mono ?_
                          rintro e w1 ⟨rfl, hb⟩
                          exact ⟨rfl, Tryz.RH.keep h hb⟩)
                        have kc : ∀ W, Tryz.RH w W g s st2 (.ok y r3 k3 : Re (List UInt8 × Option (List (List UInt8 × List UInt8) × Nat))) ver stt ad cap H y.1 false → Calls Tryz.prog 76 #[.agg #[.string ⟨#[]⟩, .string ⟨#[]⟩, .int .i64 stt, .int .i64 ver, .slice ad H.length cap, .string ⟨y.1.toArray⟩, .bool false], .string ⟨#[99, 111, 110, 110, 101, 99, 116, 105, 111, 110]⟩, .string ⟨#[99, 108, 111, 115, 101]⟩] W fun e w' => e = .returned (.bool (hasItem (valsD H wConn) wClose)) ∧ Tryz.RH w w' g s st2 (.ok y r3 k3 : Re (List UInt8 × Option (List (List UInt8 × List UInt8) × Nat))) ver stt ad cap H y.1 false := fun W h => ki wClose W h
                        have kk : ∀ W, Tryz.RH w W g s st2 (.ok y r3 k3 : Re (List UInt8 × Option (List (List UInt8 × List UInt8) × Nat))) ver stt ad cap H y.1 false → Calls Tryz.prog 76 #[.agg #[.string ⟨#[]⟩, .string ⟨#[]⟩, .int .i64 stt, .int .i64 ver, .slice ad H.length cap, .string ⟨y.1.toArray⟩, .bool false], .string ⟨#[99, 111, 110, 110, 101, 99, 116, 105, 111, 110]⟩, .string ⟨#[107, 101, 101, 112, 45, 97, 108, 105, 118, 101]⟩] W fun e w' => e = .returned (.bool (hasItem (valsD H wConn) wKeep)) ∧ Tryz.RH w w' g s st2 (.ok y r3 k3 : Re (List UInt8 × Option (List (List UInt8 × List UInt8) × Nat))) ver stt ad cap H y.1 false := fun W h => ki wKeep W h
                        have HEND : Hid (endsD H (decide (ver = 11)) = if hasItem (valsD H wConn) wClose then true else if ver = 10 then !hasItem (valsD H wConn) wKeep else false) := (by
                          show _ = _
                          unfold endsD
                          rcases HVER.out with e | e
                          · rw [e]; cases hasItem (valsD H wConn) wClose <;> simp
                          · rw [e]; cases hasItem (valsD H wConn) wClose <;> simp)
                        have HKC : Hid _ := kc
                        have HKK : Hid _ := kk
                        have H7 : Hid (Tryz.RH w wc g s st2 (.ok y r3 k3 : Re (List UInt8 × Option (List (List UInt8 × List UInt8) × Nat))) ver stt ad cap H y.1 false) := h7
                        generalize hasItem (valsD H wConn) wClose = hc at *
                        generalize hasItem (valsD H wConn) wKeep = hk at *
                        clear ki kc kk h7 hdB HBO
                        go_upto_region 41 with (first
                          | (go_at_call 71; refine k8.mono ?_; clear k8; rintro e w8 ⟨rfl, rfl⟩)
                          | fail)
                        go_cut [] (fun wx => Tryz.RH w wx g s st2 (.ok y r3 k3 : Re (List UInt8 × Option (List (List UInt8 × List UInt8) × Nat))) ver stt ad cap H y.1 (endsD H (decide (ver = 11))))
                        case first =>
                          have e7 := H7.out.rd.m
                          have t0 : w8.cell? ⟨g + 1 + 1, 0, none⟩ = some (.string ⟨#[]⟩) := cell_of_row _ _ 0 _ _ _ e7
                          have t1 : w8.cell? ⟨g + 1 + 1, 1, none⟩ = some (.string ⟨#[]⟩) := cell_of_row _ _ 1 _ _ _ e7
                          have t2 : w8.cell? ⟨g + 1 + 1, 2, none⟩ = some (.int .i64 stt) := cell_of_row _ _ 2 _ _ _ e7
                          have t3 : w8.cell? ⟨g + 1 + 1, 3, none⟩ = some (.int .i64 ver) := cell_of_row _ _ 3 _ _ _ e7
                          have t4 : w8.cell? ⟨g + 1 + 1, 4, none⟩ = some (.slice ad H.length cap) := cell_of_row _ _ 4 _ _ _ e7
                          have t5 : w8.cell? ⟨g + 1 + 1, 5, none⟩ = some (.string ⟨y.1.toArray⟩) := cell_of_row _ _ 5 _ _ _ e7
                          have t6 : w8.cell? ⟨g + 1 + 1, 6, none⟩ = some (.bool false) := cell_of_row _ _ 6 _ _ _ e7
                          have k9 := HKC.out w8 H7.out
                          clear e7 HKC
                          cases hc with
                          | true =>
                            have HE : Hid (endsD H (decide (ver = 11)) = true) := HEND.out
                            clear HKK HEND
                            go_wp2_with (first
                              | (go_at_call 76; refine k9.mono ?_; clear k9 t0 t1 t2 t3 t4 t5 t6; rintro e w9 ⟨rfl, h9⟩; have H9 : Hid _ := h9; have c6 : w9.cell? ⟨g + 1 + 1, 6, none⟩ = some (.bool false) := cell_of_row _ _ 6 _ _ _ h9.rd.m; have f6 : w9.frozen? ⟨g + 1 + 1, 6, none⟩ = false := frozen_of_row _ _ 6 _ _ h9.rd.m; clear h9)
                              | fail)
                            go_meet
                            rw [HE.out]
                            exact Tryz.RH.setm H9.out 6 _ (heap_setCell_same _ (g + 1 + 1) 6 _ _ _ H9.out.rd.m)
                          | false =>
                            rcases HVER.out with e10 | e11
                            · have q10 : ((ver : Int) == 10) = true := by rw [e10]; rfl
                              have HE : Hid (endsD H (decide (ver = 11)) = !hk) := (by show _ = _; rw [HEND.out, if_neg (by decide), if_pos e10])
                              clear HEND e10
                              go_wp2_with (first
                                | (go_at_call 76; refine k9.mono ?_; clear k9 t0 t1 t2 t3 t4 t5 t6; rintro e w9 ⟨rfl, h9⟩; have k10 := HKK.out w9 h9; have e9 := h9.rd.m; clear HKK h9; have t0 : w9.cell? ⟨g + 1 + 1, 0, none⟩ = some (.string ⟨#[]⟩) := cell_of_row _ _ 0 _ _ _ e9; have t1 : w9.cell? ⟨g + 1 + 1, 1, none⟩ = some (.string ⟨#[]⟩) := cell_of_row _ _ 1 _ _ _ e9; have t2 : w9.cell? ⟨g + 1 + 1, 2, none⟩ = some (.int .i64 stt) := cell_of_row _ _ 2 _ _ _ e9; have t3 : w9.cell? ⟨g + 1 + 1, 3, none⟩ = some (.int .i64 ver) := cell_of_row _ _ 3 _ _ _ e9; have t4 : w9.cell? ⟨g + 1 + 1, 4, none⟩ = some (.slice ad H.length cap) := cell_of_row _ _ 4 _ _ _ e9; have t5 : w9.cell? ⟨g + 1 + 1, 5, none⟩ = some (.string ⟨y.1.toArray⟩) := cell_of_row _ _ 5 _ _ _ e9; have t6 : w9.cell? ⟨g + 1 + 1, 6, none⟩ = some (.bool false) := cell_of_row _ _ 6 _ _ _ e9; clear e9)
                                | (go_at_call 76; refine k10.mono ?_; clear k10 t0 t1 t2 t3 t4 t5 t6; rintro e w10 ⟨rfl, h9⟩; have H9 : Hid _ := h9; have c6 : w10.cell? ⟨g + 1 + 1, 6, none⟩ = some (.bool false) := cell_of_row _ _ 6 _ _ _ h9.rd.m; have f6 : w10.frozen? ⟨g + 1 + 1, 6, none⟩ = false := frozen_of_row _ _ 6 _ _ h9.rd.m; clear h9)
                                | fail)
                              go_meet
                              rw [HE.out]
                              exact Tryz.RH.setm H9.out 6 _ (heap_setCell_same _ (g + 1 + 1) 6 _ _ _ H9.out.rd.m)
                            · have q10 : ((ver : Int) == 10) = false := by rw [e11]; rfl
                              have HE : Hid (endsD H (decide (ver = 11)) = false) := (by show _ = _; rw [HEND.out, if_neg (by decide), if_neg (by omega)])
                              clear HKK HEND e11
                              go_wp2_with (first
                                | (go_at_call 76; refine k9.mono ?_; clear k9 t0 t1 t2 t4 t5 t6 t3; rintro e w9 ⟨rfl, h9⟩; have H9 : Hid _ := h9; have t3 : w9.cell? ⟨g + 1 + 1, 3, none⟩ = some (.int .i64 ver) := cell_of_row _ _ 3 _ _ _ h9.rd.m; have c6 : w9.cell? ⟨g + 1 + 1, 6, none⟩ = some (.bool false) := cell_of_row _ _ 6 _ _ _ h9.rd.m; have f6 : w9.frozen? ⟨g + 1 + 1, 6, none⟩ = false := frozen_of_row _ _ 6 _ _ h9.rd.m; clear h9)
                                | fail)
                              go_meet
                              rw [HE.out]
                              exact Tryz.RH.setm H9.out 6 _ (heap_setCell_same _ (g + 1 + 1) 6 _ _ _ H9.out.rd.m)
                        case rest =>
                          obtain ⟨la, hla⟩ : ∃ la, endsD H (decide (ver = 11)) = la := ⟨_, rfl⟩
                          rw [hla] at hcut
                          have HLA : Hid (endsD H (decide (ver = 11)) = la) := hla
                          have H9 : Hid (Tryz.RH w wc g s st2 (.ok y r3 k3 : Re (List UInt8 × Option (List (List UInt8 × List UInt8) × Nat))) ver stt ad cap H y.1 la) := hcut
                          have e7 := hcut.rd.m
                          have e0 := hcut.rd.res
                          have x1 := (Tryz.SS.c hcut.rd.ss).2.1
                          obtain ⟨s7, w7⟩ := set7 e0 (.string ⟨#[]⟩) (.string ⟨#[]⟩) (.int .i64 stt) (.int .i64 ver) (.slice ad H.length cap) (.string ⟨y.1.toArray⟩) (.bool la)
                          have HZ : Hid _ := s7
                          have HW7 : Hid _ := w7
                          have t0 : wc.cell? ⟨g + 1 + 1, 0, none⟩ = some (.string ⟨#[]⟩) := cell_of_row _ _ 0 _ _ _ e7
                          have t1 : wc.cell? ⟨g + 1 + 1, 1, none⟩ = some (.string ⟨#[]⟩) := cell_of_row _ _ 1 _ _ _ e7
                          have t2 : wc.cell? ⟨g + 1 + 1, 2, none⟩ = some (.int .i64 stt) := cell_of_row _ _ 2 _ _ _ e7
                          have t3 : wc.cell? ⟨g + 1 + 1, 3, none⟩ = some (.int .i64 ver) := cell_of_row _ _ 3 _ _ _ e7
                          have t4 : wc.cell? ⟨g + 1 + 1, 4, none⟩ = some (.slice ad H.length cap) := cell_of_row _ _ 4 _ _ _ e7
                          have t5 : wc.cell? ⟨g + 1 + 1, 5, none⟩ = some (.string ⟨y.1.toArray⟩) := cell_of_row _ _ 5 _ _ _ e7
                          have t6 : wc.cell? ⟨g + 1 + 1, 6, none⟩ = some (.bool la) := cell_of_row _ _ 6 _ _ _ e7
                          have z0 : wc.cell? ⟨g, 0, none⟩ = some (.string ⟨#[]⟩) := cell_of_row _ _ 0 _ _ _ e0
                          have z1 : wc.cell? ⟨g, 1, none⟩ = some (.string ⟨#[]⟩) := cell_of_row _ _ 1 _ _ _ e0
                          have z2 : wc.cell? ⟨g, 2, none⟩ = some (.int .i64 0) := cell_of_row _ _ 2 _ _ _ e0
                          have z3 : wc.cell? ⟨g, 3, none⟩ = some (.int .i64 0) := cell_of_row _ _ 3 _ _ _ e0
                          have z4 : wc.cell? ⟨g, 4, none⟩ = some (.slice none 0 0) := cell_of_row _ _ 4 _ _ _ e0
                          have z5 : wc.cell? ⟨g, 5, none⟩ = some (.string ⟨#[]⟩) := cell_of_row _ _ 5 _ _ _ e0
                          have z6 : wc.cell? ⟨g, 6, none⟩ = some (.bool false) := cell_of_row _ _ 6 _ _ _ e0
                          have f0 := fun j => frozen_of_row _ _ j _ _ e0
                          have f00 := f0 0
                          have f01 := f0 1
                          have f02 := f0 2
                          have f03 := f0 3
                          have f04 := f0 4
                          have f05 := f0 5
                          have f06 := f0 6
                          clear hcut H7 HEND HKC HKK s7 w7 e7 e0 f0 hla
                          go_wp2
                          go_region
                          all_goals go_wp2
                          all_goals refine bodyPost_ret (results_row4 rfl _ _ g _ _ _ _ rfl HZ.out Tryz.underlying99 rfl (by kernel_rfl)) rfl ⟨_, k3, 0, 0, _, rfl, ?_⟩
                          all_goals refine ⟨Wo.toBelow H9.out.rd.bel HW7.out (fun k e => by omega) (by have := block_lt H9.out.rd.res; omega), fun e => ?_, fun z r k e => ?_⟩
                          · rw [HRES2.out] at e; cases e
                          · rw [HRES2.out, bind_ok_eq] at e
                            injection e with e1 e2 e3
                            subst e1 e2 e3
                            refine ⟨rfl, rfl, rfl, rfl, ⟨ad, cap, ?_, ?_⟩, ?_⟩
                            · show _ = mCells [] [] stt ver (.slice ad (o.map hdOf).length cap) y.1 (endsD (o.map hdOf) (decide (ver = 11)))
                              rw [HHO.out, HLA.out]
                            · show World.ownsRow _ g 57 2 (.slice ad (o.map hdOf).length cap) (o.map hdOf).length (hdCells (o.map hdOf))
                              rw [HHO.out]
                              exact row_baseR (row_wo (p := g) H9.out.row (by omega) HW7.out) (fun k e => by have := (H9.out.row.lt k e).1; omega)
                            · obtain ⟨_, _, _, h4, _, h6⟩ := Tryz.SS.c H9.out.rd.ss
                              rw [h6, List.length_drop]
                              omega
end Go.Proofs
