/-
  Requests that were told, in memory.
-/
import Derived.Test.YtflnijbedicbhaaGreatDoorYd
namespace Go.Wb
/-- A request, and where its rows lie. -/
structure Pr where
  rq : Rq
  ah : Option Addr
  ch : Nat
  ab : Option Addr
  cb : Nat
def Pr.vh (p : Pr) : Value := .slice p.ah p.rq.headers.length p.ch
def Pr.vb (p : Pr) : Value := .slice p.ab p.rq.body.length p.cb
def Pr.cells (p : Pr) : List Value := [.string ⟨p.rq.method.toArray⟩, .string ⟨p.rq.target.toArray⟩, p.vh, p.vb, .bool p.rq.last]
def prCells (l : List Pr) : List Value := l.flatMap Pr.cells
theorem prCells_app (a b : List Pr) : prCells (a ++ b) = prCells a ++ prCells b := by simp [prCells]
theorem prCells_len (l : List Pr) : (prCells l).length = l.length * 5 := by
  induction l with
  | nil => rfl
  | cons p r ih => show (_ :: _ :: _ :: _ :: _ :: prCells r).length = _; simp only [List.length_cons, ih]; omega
end Go.Wb
namespace Go.Proofs
open Go.RowKit Go.Wi Go.Wb
structure Tryz.PrOk (w : World) (P : Nat → Prop) (V : Value) (p : Pr) : Prop where
  heads : w.ownsRow 0 61 2 p.vh p.rq.headers.length (hdCells p.rq.headers)
  body : w.ownsRow 0 5 1 p.vb p.rq.body.length (Lib.byteCells p.rq.body)
  ph : ∀ k, p.vh.ownBlock = some k → P k ∧ V.ownBlock ≠ some k
  pb : ∀ k, p.vb.ownBlock = some k → P k ∧ V.ownBlock ≠ some k
/-- Requests in a row, in blocks of which P holds. -/
structure Tryz.Rl (w : World) (P : Nat → Prop) (V : Value) (rs : List Rq) : Prop where
  ex : ∃ ps : List Pr, rs = ps.map (·.rq) ∧ w.ownsRow 0 49 5 V ps.length (prCells ps) ∧ (∀ k, V.ownBlock = some k → P k) ∧ ∀ p ∈ ps, Tryz.PrOk w P V p
theorem Tryz.PrOk.keep {w w' : World} {P P' : Nat → Prop} {V : Value} {p : Pr} (h : Tryz.PrOk w P V p) (hk : ∀ k, k < w.heap.size → P k → V.ownBlock ≠ some k → w'.heap[k]? = w.heap[k]? ∧ P' k) : Tryz.PrOk w' P' V p :=
  ⟨row_keep h.heads fun k e => (hk k (h.heads.lt k e).2 (h.ph k e).1 (h.ph k e).2).1, row_keep h.body fun k e => (hk k (h.body.lt k e).2 (h.pb k e).1 (h.pb k e).2).1, fun k e => ⟨(hk k (h.heads.lt k e).2 (h.ph k e).1 (h.ph k e).2).2, (h.ph k e).2⟩, fun k e => ⟨(hk k (h.body.lt k e).2 (h.pb k e).1 (h.pb k e).2).2, (h.pb k e).2⟩⟩
theorem Tryz.Rl.keep {w w' : World} {P P' : Nat → Prop} {V : Value} {rs : List Rq} (h : Tryz.Rl w P V rs) (hk : ∀ k, k < w.heap.size → P k → w'.heap[k]? = w.heap[k]? ∧ P' k) : Tryz.Rl w' P' V rs := by
  obtain ⟨ps, h1, h2, h3, h4⟩ := h.ex
  exact ⟨ps, h1, row_keep h2 fun k e => (hk k (h2.lt k e).2 (h3 k e)).1, fun k e => (hk k (h2.lt k e).2 (h3 k e)).2, fun p hp => (h4 p hp).keep fun k a b _ => hk k a b⟩
theorem Tryz.Rl.none (w : World) (P : Nat → Prop) : Tryz.Rl w P (.slice none 0 0) [] := ⟨[], rfl, World.ownsRow_nil _ _ _ _, (fun k e => by cases e), (fun p hp => by cases hp)⟩
theorem Tryz.infoReq : (Tryz.prog.info? 49).map (fun i => (i.zero, i.size, i.bytes)) = some (some (.agg #[.string ByteArray.empty, .string ByteArray.empty, .slice none 0 0, .slice none 0 0, .bool false]), 5, 88) := by kernel_rfl
/-- 'append' of a request. -/
theorem Tryz.appReq {ops : Array Oper} {rest : List Oper} {o : Oper} {a : Act} {Q : Exit → Act → World → Prop} (hgd : o.guard = none) (s y : Operand)
    (ho : o.op = .call { callee := .builtin .append, args := #[s, y], argTypes := #[45, 45] })
    {w : World} {P P' : Nat → Prop} {V : Value} {rs : List Rq} (hR : Tryz.Rl w P V rs) (p : Pr) (hp : Tryz.PrOk w P V p) (hs : a.eval s = V) {H : Nat} (hy : a.eval y = .slice (some ⟨H, 0, none⟩) 1 1) (hH : H = w.heap.size) (hlen : rs.length + 1 ≤ 1000000000000)
    (hP : ∀ k, P k → P' k) (hP2 : ∀ k, w.heap.size ≤ k → P' k)
    (hK : ∀ g n cap w1, Tryz.Rl w1 P' (.slice (some ⟨g, 0, none⟩) n cap) (rs ++ [p.rq]) → Wo (fun k => V.ownBlock = some k) w w1 → wpList Tryz.prog ops Q rest (a.put o.dst (.slice (some ⟨g, 0, none⟩) n cap)) w1) :
    wpList Tryz.prog ops Q (o :: rest) a (w.alloc (.cells #[.string ⟨p.rq.method.toArray⟩, .string ⟨p.rq.target.toArray⟩, p.vh, p.vb, .bool p.rq.last] 49)) := by
  subst hH
  obtain ⟨ps, h1, h2, h3, h4⟩ := hR.ex
  have hpl : ps.length = rs.length := by rw [h1, List.length_map]
  obtain ⟨i0, hi0, hz0, hz1, hz2⟩ := info_parts Tryz.infoReq
  have hn := heap_alloc_new w (.cells #[.string ⟨p.rq.method.toArray⟩, .string ⟨p.rq.target.toArray⟩, p.vh, p.vb, .bool p.rq.last] 49)
  have hb : Below w.heap.size w (w.alloc (.cells #[.string ⟨p.rq.method.toArray⟩, .string ⟨p.rq.target.toArray⟩, p.vh, p.vb, .bool p.rq.last] 49)) := (Below.refl w.heap.size w).alloc (Nat.le_refl _) _
  have hrow1 := row_keep h2 fun k e => hb.block k (h2.lt k e).2
  have hsz : (w.alloc (.cells #[.string ⟨p.rq.method.toArray⟩, .string ⟨p.rq.target.toArray⟩, p.vh, p.vb, .bool p.rq.last] 49)).heap.size = w.heap.size + 1 := by simp
  refine wpList_append_lies _ hgd s y 45 ho 0 49 i0 _ 5 88 Tryz.underlying45 hi0 hz0 hz1 hz2 rfl (by omega) V ps.length (prCells ps) hs hrow1 ⟨w.heap.size, 0, none⟩ 1 1 p.cells hy rfl (World.news_of_block (cs := #[.string ⟨p.rq.method.toArray⟩, .string ⟨p.rq.target.toArray⟩, p.vh, p.vb, .bool p.rq.last]) hn) (fun u hu => by
    simp only [Pr.cells, List.mem_cons, List.not_mem_nil, or_false] at hu
    rcases hu with rfl | rfl | rfl | rfl | rfl <;> rfl) (by omega) (by unfold maxLen; omega) (by omega) (by omega) _ rfl ?_
  intro g cap w' hown hg hat hlt
  have hw : Wo (fun k => V.ownBlock = some k) w w' := (Wo.ofBelow hb).grown hg fun k e => .inl e
  have hl : V.ownBlock = some g ∨ w.heap.size ≤ g := by
    rcases hat with e1 | e1
    · exact .inl e1
    · exact .inr (by show w.heap.size ≤ g; rw [e1, hsz]; omega)
  have hne : ∀ k, k < w.heap.size → V.ownBlock ≠ some k → (Value.slice (some ⟨g, 0, none⟩) (ps.length + 1) cap).ownBlock ≠ some k := fun k hk hv e => by
    cases e
    rcases hl with e1 | e1
    · exact hv e1
    · have : g < w.heap.size := hk
      omega
  have hone : ∀ q : Pr, Tryz.PrOk w P V q → Tryz.PrOk w' P' (.slice (some ⟨g, 0, none⟩) (ps.length + 1) cap) q := fun q hq =>
    ⟨row_keep hq.heads fun k e => hw.block k (hq.heads.lt k e).2 (hq.ph k e).2, row_keep hq.body fun k e => hw.block k (hq.body.lt k e).2 (hq.pb k e).2, fun k e => ⟨hP k (hq.ph k e).1, hne k (hq.heads.lt k e).2 (hq.ph k e).2⟩, fun k e => ⟨hP k (hq.pb k e).1, hne k (hq.body.lt k e).2 (hq.pb k e).2⟩⟩
  refine hK g _ cap w' ⟨ps ++ [p], by rw [List.map_append, ← h1]; rfl, ?_, fun k e => ?_, fun q hq => ?_⟩ hw
  · rw [List.length_append, prCells_app]
    exact hown
  · cases e
    rcases hl with e1 | e1
    · exact hP g (h3 g e1)
    · exact hP2 g e1
  · rcases List.mem_append.1 hq with hq | hq
    · exact hone q (h4 q hq)
    · rw [List.mem_singleton.1 hq]; exact hone p hp
/-- The request that a message has become. -/
theorem Tryz.Mw.told {T : TypeId} {w : World} {own : Nat → Prop} {b : Nat} {m : Msg} {aw ah ab : Option Addr} {cw ch cb : Nat} (h : Tryz.Mw T w own b m aw cw ah ch ab cb) {V : Value} (hV : ∀ k, V.ownBlock = some k → ¬ own k) : Tryz.PrOk w (fun k => own k ∧ k ≠ b) V ⟨req m, ah, ch, ab, cb⟩ :=
  ⟨h.heads, h.body, fun k e => ⟨⟨(h.dh k e).1, (h.dh k e).2.1⟩, fun e' => hV k e' (h.dh k e).1⟩, fun k e => ⟨⟨(h.db k e).1, (h.db k e).2⟩, fun e' => hV k e' (h.db k e).1⟩⟩
end Go.Proofs
