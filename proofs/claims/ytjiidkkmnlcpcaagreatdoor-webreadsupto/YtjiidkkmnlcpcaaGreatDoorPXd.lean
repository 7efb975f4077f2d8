/-
  Laid together by packg.py of Xd.
-/
import Derived.Test.YtjiidkkmnlcpcaaGreatDoorPaX
import Derived.Test.YtjiidkkmnlcpcaaGreatDoorPaV
import Derived.Shelf.Bytes.SlSmallAll
namespace Go.Wb
open Go.RowKit Go.Proofs
def hdCells (l : List (List UInt8 × List UInt8)) : List Value := l.flatMap fun h => [.string ⟨h.1.toArray⟩, .string ⟨h.2.toArray⟩]
theorem hdCells_len (l : List (List UInt8 × List UInt8)) : (hdCells l).length = l.length * 2 := by
  induction l with
  | nil => rfl
  | cons h r ih => show (_ :: _ :: hdCells r).length = _; rw [List.length_cons, List.length_cons, ih, List.length_cons]; omega
theorem hdCells_app (a b : List (List UInt8 × List UInt8)) : hdCells (a ++ b) = hdCells a ++ hdCells b := by simp [hdCells]
theorem row_keep {w w' : World} {B : Nat} {e : TypeId} {size : Nat} {v : Value} {n : Nat} {xs : List Value} (h : w.ownsRow B e size v n xs) (hk : ∀ k, v.ownBlock = some k → w'.heap[k]? = w.heap[k]?) : w'.ownsRow B e size v n xs := by
  refine ⟨h.1, ?_⟩
  rcases h.2 with h0 | ⟨g, cap, cur, rfl, h1, h2, h3⟩
  · exact .inl h0
  · exact .inr ⟨g, cap, cur, rfl, h1, (hk g rfl).trans h2, h3⟩
end Go.Wb
namespace Go.Proofs
open Go.RowKit Go.Wi Go.Wb
def Tryz.tkV : Tk → Value
  | .no => .nilFunc
  | .ahead => .func (.func 48) #[] #[]
  | .inMethod => .func (.func 79) #[] #[]
  | .inTarget => .func (.func 97) #[] #[]
  | .inVersion => .func (.func 43) #[] #[]
  | .lineEnd => .func (.func 127) #[] #[]
  | .lineFeed => .func (.func 77) #[] #[]
  | .atLine => .func (.func 135) #[] #[]
  | .inName => .func (.func 140) #[] #[]
  | .inValue => .func (.func 142) #[] #[]
  | .inSize => .func (.func 152) #[] #[]
  | .inExt => .func (.func 159) #[] #[]
  | .blankA => .func (.func 61) #[] #[]
  | .inStatus => .func (.func 88) #[] #[]
  | .blankB => .func (.func 111) #[] #[]
  | .inReason => .func (.func 126) #[] #[]
def Tryz.thV : Th → Value
  | .no => .nilFunc
  | .aheadAgain => .func (.func 78) #[] #[]
  | .headerLine => .func (.func 128) #[] #[]
  | .headerEnds => .func (.func 146) #[] #[]
  | .emptyLineEnds => .func (.func 139) #[] #[]
  | .requestLineEnds => .func (.func 114) #[] #[]
  | .statusFollows => .func (.func 44) #[] #[]
  | .sizeLine => .func (.func 145) #[] #[]
  | .sizeLineEnds => .func (.func 158) #[] #[]
def Tryz.mc (m : Msg) (Vw Vh Vb : Value) : Array Value :=
  #[Tryz.tkV m.tk, Tryz.thV m.th, .int .i64 m.begin, .int .i64 m.at_, .int .i64 m.bound, .int .i64 m.frm, Vw, .string ⟨m.method.toArray⟩, .string ⟨m.target.toArray⟩, .int .i64 m.status, .bool m.newer, .int .i64 m.lines, .string ⟨m.name.toArray⟩, Vh, .bool m.trailers, .bool m.last, .int .i64 m.most, .int .i64 m.size, .int .i64 m.left, Vb, .int .i64 m.fAt, .int .i64 m.fErr]
/-- A message, its rows in blocks of its own. -/
structure Tryz.Mw (T : TypeId) (w : World) (own : Nat → Prop) (b : Nat) (m : Msg) (aw : Option Addr) (cw : Nat) (ah : Option Addr) (ch : Nat) (ab : Option Addr) (cb : Nat) : Prop where
  blk : w.heap[b]? = some (.cells (Tryz.mc m (.slice aw m.word.length cw) (.slice ah m.headers.length ch) (.slice ab m.body.length cb)) T (0, 0))
  word : w.ownsRow 0 5 1 (.slice aw m.word.length cw) m.word.length (Lib.byteCells m.word)
  heads : w.ownsRow 0 57 2 (.slice ah m.headers.length ch) m.headers.length (hdCells m.headers)
  body : w.ownsRow 0 5 1 (.slice ab m.body.length cb) m.body.length (Lib.byteCells m.body)
  dw : ∀ k, (Value.slice aw m.word.length cw).ownBlock = some k → own k ∧ k ≠ b ∧ (Value.slice ah m.headers.length ch).ownBlock ≠ some k ∧ (Value.slice ab m.body.length cb).ownBlock ≠ some k
  dh : ∀ k, (Value.slice ah m.headers.length ch).ownBlock = some k → own k ∧ k ≠ b ∧ (Value.slice ab m.body.length cb).ownBlock ≠ some k
  db : ∀ k, (Value.slice ab m.body.length cb).ownBlock = some k → own k ∧ k ≠ b
  ob : own b
  lt : ∀ k, own k → k < w.heap.size
structure Tryz.Ms (T : TypeId) (w : World) (own : Nat → Prop) (b : Nat) (m : Msg) : Prop where
  ex : ∃ aw cw ah ch ab cb, Tryz.Mw T w own b m aw cw ah ch ab cb
theorem Tryz.Mw.keep {T : TypeId} {w w' : World} {own : Nat → Prop} {b : Nat} {m : Msg} {aw ah ab : Option Addr} {cw ch cb : Nat} (h : Tryz.Mw T w own b m aw cw ah ch ab cb) (hk : ∀ k, own k → w'.heap[k]? = w.heap[k]?) (hs : w.heap.size ≤ w'.heap.size) : Tryz.Mw T w' own b m aw cw ah ch ab cb :=
  ⟨(hk b h.ob).trans h.blk, row_keep h.word fun k e => hk k (h.dw k e).1, row_keep h.heads fun k e => hk k (h.dh k e).1, row_keep h.body fun k e => hk k (h.db k e).1, h.dw, h.dh, h.db, h.ob, fun k e => Nat.lt_of_lt_of_le (h.lt k e) hs⟩
theorem Tryz.Ms.keep {T : TypeId} {w w' : World} {own : Nat → Prop} {b : Nat} {m : Msg} (h : Tryz.Ms T w own b m) (hk : ∀ k, own k → w'.heap[k]? = w.heap[k]?) (hs : w.heap.size ≤ w'.heap.size) : Tryz.Ms T w' own b m := by
  obtain ⟨aw, cw, ah, ch, ab, cb, h1⟩ := h.ex
  exact ⟨aw, cw, ah, ch, ab, cb, h1.keep hk hs⟩
theorem Tryz.Ms.below {T : TypeId} {w w' : World} {own : Nat → Prop} {b : Nat} {m : Msg} (h : Tryz.Ms T w own b m) (g : Below w.heap.size w w') : Tryz.Ms T w' own b m := by
  obtain ⟨aw, cw, ah, ch, ab, cb, h1⟩ := h.ex
  exact h.keep (fun k e => g.block k (h1.lt k e)) g.size
/-- What a call leaves. -/
structure Tryz.MChg (T : TypeId) (own : Nat → Prop) (w w' : World) (b : Nat) (m : Msg) : Prop where
  ex : ∃ own', Tryz.Ms T w' own' b m ∧ ∀ k, own' k → own k ∨ w.heap.size ≤ k
  wo : Wo own w w'
theorem Tryz.MChg.refl {T : TypeId} {own : Nat → Prop} {w : World} {b : Nat} {m : Msg} (h : Tryz.Ms T w own b m) : Tryz.MChg T own w w b m := ⟨⟨own, h, fun _ e => .inl e⟩, Wo.refl _ _⟩
theorem Tryz.MChg.trans {T : TypeId} {own own1 : Nat → Prop} {w w1 w2 : World} {b : Nat} {m : Msg} (hw : Wo own w w1) (ho : ∀ k, own1 k → own k ∨ w.heap.size ≤ k) (g : Tryz.MChg T own1 w1 w2 b m) : Tryz.MChg T own w w2 b m := by
  obtain ⟨own2, h1, h2⟩ := g.ex
  have hs := hw.size
  refine ⟨⟨own2, h1, fun k e => ?_⟩, hw.step ho g.wo⟩
  rcases h2 k e with e1 | e1
  · exact ho k e1
  · exact .inr (by omega)
/-- One plain cell of a message turns. -/
theorem Tryz.Ms.set {T : TypeId} {w : World} {own : Nat → Prop} {b : Nat} {m : Msg} (h : Tryz.Ms T w own b m) (i : Nat) (v : Value) (m' : Msg)
    (hc : ∀ Vw Vh Vb, (Tryz.mc m Vw Vh Vb).setIfInBounds i v = Tryz.mc m' Vw Vh Vb) (hw : m'.word = m.word) (hh : m'.headers = m.headers) (hb : m'.body = m.body) : Tryz.Ms T (w.setCell ⟨b, i, none⟩ v) own b m' := by
  obtain ⟨aw, cw, ah, ch, ab, cb, h1⟩ := h.ex
  have ho : ∀ k, k ≠ b → (w.setCell ⟨b, i, none⟩ v).heap[k]? = w.heap[k]? := fun k hk => Below.heap_setCell w ⟨b, i, none⟩ _ k (fun e => hk (by simpa using e))
  have hx := heap_setCell_same w b i _ _ v h1.blk
  rw [hc] at hx
  refine ⟨aw, cw, ah, ch, ab, cb, ?_⟩
  refine ⟨by rw [hw, hh, hb]; exact hx, ?_, ?_, ?_, ?_, ?_, ?_, h1.ob, fun k e => by simpa using h1.lt k e⟩
  · rw [hw]; exact row_keep h1.word fun k e => ho k (h1.dw k e).2.1
  · rw [hh]; exact row_keep h1.heads fun k e => ho k (h1.dh k e).2.1
  · rw [hb]; exact row_keep h1.body fun k e => ho k (h1.db k e).2
  · rw [hw, hh, hb]; exact h1.dw
  · rw [hh, hb]; exact h1.dh
  · rw [hb]; exact h1.db
theorem Tryz.Ms.wo {T : TypeId} {w : World} {own : Nat → Prop} {b : Nat} {m : Msg} (h : Tryz.Ms T w own b m) {w' : World} (hw : Wo own w w') (i : Nat) (v : Value) : Wo own w (w'.setCell ⟨b, i, none⟩ v) := by
  obtain ⟨aw, cw, ah, ch, ab, cb, h1⟩ := h.ex
  exact hw.setCell b i v (.inl h1.ob)
/-- The word is cut off. -/
theorem Tryz.Mw.word0 {T : TypeId} {w : World} {own : Nat → Prop} {b : Nat} {m : Msg} {aw ah ab : Option Addr} {cw ch cb : Nat} (h : Tryz.Mw T w own b m aw cw ah ch ab cb) : Tryz.Ms T (w.setCell ⟨b, 6, none⟩ (.slice aw 0 cw)) own b { m with word := [] } := by
  have ho : ∀ k, k ≠ b → (w.setCell ⟨b, 6, none⟩ (.slice aw 0 cw)).heap[k]? = w.heap[k]? := fun k hk => Below.heap_setCell w ⟨b, 6, none⟩ _ k (fun e => hk (by simpa using e))
  have hx := heap_setCell_same w b 6 _ _ (.slice aw 0 cw) h.blk
  have hob : (Value.slice aw 0 cw).ownBlock = (Value.slice aw m.word.length cw).ownBlock := by cases aw <;> rfl
  refine ⟨aw, cw, ah, ch, ab, cb, hx, ?_, row_keep h.heads fun k e => ho k (h.dh k e).2.1, row_keep h.body fun k e => ho k (h.db k e).2, fun k e => h.dw k (hob ▸ e), h.dh, h.db, h.ob, fun k e => by simpa using h.lt k e⟩
  have hr := row_keep h.word fun k e => ho k (h.dw k e).2.1
  refine ⟨by simp [Lib.byteCells], ?_⟩
  rcases hr.2 with ⟨e, e0⟩ | ⟨g, cap, cur, e, h1, h2, h3, h4, h5, h6⟩
  · injection e with e1 e2 e3; subst e1; subst e3; exact .inl ⟨rfl, rfl⟩
  · injection e with e1 e2 e3; subst e1; subst e3; exact .inr ⟨g, cw, cur, rfl, h1, h2, Nat.zero_le _, h4, h5, by simp [Lib.byteCells]⟩
end Go.Proofs
