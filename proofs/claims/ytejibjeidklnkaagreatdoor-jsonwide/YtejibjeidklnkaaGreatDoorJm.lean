/-
  'object', out of what 'value' does with one bracket fewer.
-/
import Derived.Test.YtejibjeidklnkaaGreatDoorJk
import Derived.Test.YtejibjeidklnkaaGreatDoorJi
namespace Go.Proofs
open Go.RowKit Go.Jv
/-- Blocks that hold neither of the two rows. -/
def Jv.okp (x : Nat) (kv sv : Value) (g : Nat) : Prop := x + 1 ≤ g ∧ kv.ownBlock ≠ some g ∧ sv.ownBlock ≠ some g
/-- An object in the making: keys, values; one value more (v at y) that stands ready, or none (y none). -/
structure Tryz.Oc (b : Nat) (t : ByteArray) (q o : Nat) (w : World) (x : Nat) (ks : List ByteArray) (vs : List V) (kv sv : Value) (xs : List Nat) (ready : Option (V × Nat)) (wr : World) : Prop where
  vb : Jv.Vb wr x 5 false 0 emp kv sv
  krow : wr.ownsRow (x + 1) 9 1 kv ks.length (ks.map Value.string)
  row : wr.ownsRow (x + 1) 27 1 sv xs.length (Jv.ptrs xs)
  apart : ∀ m, kv.ownBlock = some m → sv.ownBlock ≠ some m
  trs : Tryz.Trs wr (Jv.okp x kv sv) vs xs
  rdy : ∀ v y, ready = some (v, y) → Tryz.Tr wr (Jv.okp x kv sv) v y
  rd : Rd wr b t q o
  wk : Wk b w wr
  tb : Tryz.Tb wr
  hx : w.heap.size ≤ x
  hb : b < w.heap.size
  hbg : 8 ≤ b
theorem Tryz.Oc.wk_on {b : Nat} {t : ByteArray} {q q2 o o2 : Nat} {w : World} {x : Nat} {ks : List ByteArray} {vs : List V} {kv sv : Value} {xs : List Nat} {wr w2 : World}
    (h : Tryz.Oc b t q o w x ks vs kv sv xs none wr) (g : Wk b wr w2) (hR : Rd w2 b t q2 o2) : Tryz.Oc b t q2 o2 w x ks vs kv sv xs none w2 := by
  have hbx : b < x := Nat.lt_of_lt_of_le h.hb h.hx
  exact ⟨Jv.vb_wk h.vb g (by omega), Jv.row_wk h.krow g (by omega), Jv.row_wk h.row g (by omega), h.apart, Tryz.trs_wk h.trs g (fun hh => by have := hh.1; omega), (fun v y e => by cases e), hR, h.wk.trans g, h.tb.wk g h.hbg, h.hx, h.hb, h.hbg⟩
/-- A value has been made. -/
theorem Tryz.Oc.ready {b : Nat} {t : ByteArray} {q q2 o : Nat} {w : World} {x : Nat} {ks : List ByteArray} {vs : List V} {kv sv : Value} {xs : List Nat} {wr w2 : World} {v : V} {y : Nat}
    (h : Tryz.Oc b t q o w x ks vs kv sv xs none wr) (g : Wk b wr w2) (hR : Rd w2 b t q2 o) (hv : Tryz.Tr w2 (fun m => wr.heap.size ≤ m) v y) : Tryz.Oc b t q2 o w x ks vs kv sv xs (some (v, y)) w2 := by
  have h2 := h.wk_on g hR
  refine ⟨h2.vb, h2.krow, h2.row, h2.apart, h2.trs, ?_, h2.rd, h2.wk, h2.tb, h2.hx, h2.hb, h2.hbg⟩
  intro v' y' e
  injection e with e; injection e with e1 e2; subst e1; subst e2
  refine Tryz.Tr_mono (fun m hm _ => ?_) v y hv
  have hm' : wr.heap.size ≤ m := hm
  have hxl := h.vb.lt
  refine ⟨by omega, fun e => ?_, fun e => ?_⟩
  · have := (Jv.row_lt h.krow m e).2; omega
  · have := (Jv.row_lt h.row m e).2; omega
theorem Jv.Vb.set4 {w : World} {x : Nat} {k : Int} {tr : Bool} {n : Int} {s : ByteArray} {ks is : Value} (h : Jv.Vb w x k tr n s ks is) (u : Value) : Jv.Vb (w.setCell ⟨x, 4, none⟩ u) x k tr n s u is := by
  have hs : ∀ y, (w.setCell ⟨x, 4, none⟩ u).frozen? y = w.frozen? y := fun y => by simp
  refine ⟨?_, ?_, ?_, ?_, World.cell?_setCell_same' _ _ _ (by rw [h.c4]; rfl), ?_, (hs _).trans h.f4, (hs _).trans h.f5, by simpa using h.lt, by obtain ⟨cs, T, h1⟩ := h.un; exact ⟨_, T, heap_setCell_same w x 4 cs T u h1⟩⟩
  · rw [World.cell?_setCell_other _ _ _ _ (by simp)]; exact h.c0
  · rw [World.cell?_setCell_other _ _ _ _ (by simp)]; exact h.c1
  · rw [World.cell?_setCell_other _ _ _ _ (by simp)]; exact h.c2
  · rw [World.cell?_setCell_other _ _ _ _ (by simp)]; exact h.c3
  · rw [World.cell?_setCell_other _ _ _ _ (by simp)]; exact h.c5
/-- What a growing of one row, and a store into the value's block, leave. -/
theorem Tryz.Oc.rest {b : Nat} {t : ByteArray} {q o : Nat} {w : World} {x : Nat} {ks : List ByteArray} {vs : List V} {kv sv : Value} {xs : List Nat} {rd : Option (V × Nat)} {wr w2 : World} {ob : Obj} {own : Option Nat} {f : Nat} {u : Value}
    (h : Tryz.Oc b t q o w x ks vs kv sv xs rd wr) (hg : (wr.alloc ob).grownBy w2 own) (hown : ∀ k, own = some k → x + 1 ≤ k ∧ k < wr.heap.size) :
    (∀ m, m < wr.heap.size → m ≠ x → own ≠ some m → (w2.setCell ⟨x, f, none⟩ u).heap[m]? = wr.heap[m]?) ∧ wr.heap.size ≤ (w2.setCell ⟨x, f, none⟩ u).heap.size ∧
    Rd (w2.setCell ⟨x, f, none⟩ u) b t q o ∧ Wk b w (w2.setCell ⟨x, f, none⟩ u) ∧ Tryz.Tb (w2.setCell ⟨x, f, none⟩ u) ∧ w2.heap[x]? = wr.heap[x]? := by
  have hbx : b < x := Nat.lt_of_lt_of_le h.hb h.hx
  have hxl := h.vb.lt
  have k1 : ∀ m, m < wr.heap.size → own ≠ some m → w2.heap[m]? = wr.heap[m]? := fun m hm hne => (hg.block m (by simp; omega) (Ne.symm hne)).trans (Below.heap_alloc wr _ m hm)
  have k2 : ∀ m, m < wr.heap.size → m ≠ x → own ≠ some m → (w2.setCell ⟨x, f, none⟩ u).heap[m]? = wr.heap[m]? := fun m hm hx hne => (Below.heap_setCell w2 ⟨x, f, none⟩ u m hx).trans (k1 m hm hne)
  have hs : wr.heap.size ≤ (w2.setCell ⟨x, f, none⟩ u).heap.size := by have := hg.size; simp at this ⊢; omega
  have nb : own ≠ some b := fun e => by have := (hown b e).1; omega
  have nx : own ≠ some x := fun e => by have := (hown x e).1; omega
  refine ⟨k2, hs, Jv.rd_keep h.rd (k2 b (by omega) (by omega) nb) hs, ⟨?_, ?_, ?_, Nat.le_trans h.wk.size hs, fun m hm hb => ?_⟩, ⟨Nat.le_trans h.tb.size hs, fun w' hw' => h.tb.all w' fun m hm => ?_⟩, k1 x hxl nx⟩
  · exact hg.os.trans h.wk.os
  · exact hg.tape.trans h.wk.tape
  · exact hg.output.trans h.wk.output
  · have h1 := h.wk.size
    have h2 := h.hx
    exact (k2 m (by omega) (by omega) (fun e => by have := (hown m e).1; omega)).trans (h.wk.block m hm hb)
  · have h1 := h.tb.size
    have h2 := h.hbg
    exact (hw' m hm).trans (k2 m (by omega) (by omega) (fun e => by have := (hown m e).1; omega))
/-- A key has been put in. -/
theorem Tryz.Oc.key {b : Nat} {t : ByteArray} {q o : Nat} {w : World} {x : Nat} {ks : List ByteArray} {vs : List V} {kv sv : Value} {xs : List Nat} {rd : Option (V × Nat)} {wr w2 : World} {ob : Obj} {g cap i : Nat} {k : ByteArray}
    (h : Tryz.Oc b t q o w x ks vs kv sv xs rd wr) (hg : (wr.alloc ob).grownBy w2 kv.ownBlock)
    (hrow : w2.ownsRow (x + 1) 9 1 (.slice (some ⟨g, 0, none⟩) (ks.length + 1) cap) (ks.length + 1) (insertAt (ks.map Value.string) i (.string k))) (hat : kv.ownBlock = some g ∨ g = wr.heap.size + 1) :
    Tryz.Oc b t q o w x (insertAt ks i k) vs (.slice (some ⟨g, 0, none⟩) (ks.length + 1) cap) sv xs rd (w2.setCell ⟨x, 4, none⟩ (.slice (some ⟨g, 0, none⟩) (ks.length + 1) cap)) := by
  obtain ⟨k2, hs, hR, hW, hT, hxx⟩ := h.rest (f := 4) (u := .slice (some ⟨g, 0, none⟩) (ks.length + 1) cap) hg (fun m e => Jv.row_lt h.krow m e)
  have hmap : (insertAt ks i k).map Value.string = insertAt (ks.map Value.string) i (.string k) := by unfold insertAt; simp [List.map_take, List.map_drop]
  have hs2 : wr.heap.size ≤ w2.heap.size := by simpa using hs
  have hnew : ∀ m, Jv.okp x kv sv m → m < wr.heap.size → Jv.okp x (.slice (some ⟨g, 0, none⟩) (ks.length + 1) cap) sv m := fun m hm hlt => by
    refine ⟨hm.1, fun e => ?_, hm.2.2⟩
    simp [Value.ownBlock] at e
    subst e
    rcases hat with h1 | h1
    · exact hm.2.1 h1
    · omega
  have hkeep : ∀ m, Jv.okp x kv sv m → m < wr.heap.size → (w2.setCell ⟨x, 4, none⟩ (.slice (some ⟨g, 0, none⟩) (ks.length + 1) cap)).heap[m]? = wr.heap[m]? := fun m hm hlt => k2 m hlt (by have := hm.1; omega) hm.2.1
  refine ⟨(h.vb.keep hxx hs2).set4 _, ?_, ?_, ?_, ?_, ?_, hR, hW, hT, h.hx, h.hb, h.hbg⟩
  · rw [hmap, insertAt_len]
    exact Jv.row_kept hrow fun m hm _ => Below.heap_setCell w2 ⟨x, 4, none⟩ _ m (by show m ≠ x; omega)
  · refine Jv.row_move h.row fun m hm => ?_
    have h1 := Jv.row_lt h.row m hm
    exact ⟨h1.1, k2 m h1.2 (by omega) (fun e => h.apart m e hm)⟩
  · intro m hm hsv
    simp [Value.ownBlock] at hm
    subst hm
    rcases hat with h1 | h1
    · exact h.apart _ h1 hsv
    · have := (Jv.row_lt h.row _ hsv).2; omega
  · have h1 := Tryz.Trs_mono (ok' := fun m => Jv.okp x kv sv m ∧ m < wr.heap.size) (fun m hm hlt => ⟨hm, hlt⟩) vs xs h.trs
    exact Tryz.Trs_mono (fun m hm _ => hnew m hm.1 hm.2) vs xs (Tryz.Trs_keep (fun m hm hlt => hkeep m hm.1 hlt) hs vs xs h1)
  · intro v y e
    have h1 := Tryz.Tr_mono (ok' := fun m => Jv.okp x kv sv m ∧ m < wr.heap.size) (fun m hm hlt => ⟨hm, hlt⟩) v y (h.rdy v y e)
    exact Tryz.Tr_mono (fun m hm _ => hnew m hm.1 hm.2) v y (Tryz.Tr_keep (fun m hm hlt => hkeep m hm.1 hlt) hs v y h1)
theorem Tryz.Trs_insert {w : World} {ok : Nat → Prop} {v : V} {y : Nat} (hv : Tryz.Tr w ok v y) : ∀ (i : Nat) (l : List V) (xs : List Nat), i ≤ l.length → Tryz.Trs w ok l xs → Tryz.Trs w ok (insertAt l i v) (insertAt xs i y)
  | 0, l, xs, _, h => by
    show Tryz.Trs w ok (v :: l) (y :: xs)
    unfold Tryz.Trs
    exact ⟨y, xs, rfl, hv, h⟩
  | i + 1, [], xs, hi, h => by simp at hi
  | i + 1, u :: l, xs, hi, h => by
    unfold Tryz.Trs at h
    obtain ⟨z, r, rfl, h2, h3⟩ := h
    show Tryz.Trs w ok (u :: insertAt l i v) (z :: insertAt r i y)
    unfold Tryz.Trs
    exact ⟨z, _, rfl, h2, Tryz.Trs_insert hv i l r (by simpa using hi) h3⟩
/-- The value has been put in. -/
theorem Tryz.Oc.item {b : Nat} {t : ByteArray} {q o : Nat} {w : World} {x : Nat} {ks : List ByteArray} {vs : List V} {kv sv : Value} {xs : List Nat} {v : V} {y : Nat} {wr w2 : World} {ob : Obj} {g cap i : Nat}
    (h : Tryz.Oc b t q o w x ks vs kv sv xs (some (v, y)) wr) (hi : i ≤ vs.length) (hg : (wr.alloc ob).grownBy w2 sv.ownBlock)
    (hrow : w2.ownsRow (x + 1) 27 1 (.slice (some ⟨g, 0, none⟩) (xs.length + 1) cap) (xs.length + 1) (insertAt (Jv.ptrs xs) i (.pointer (some ⟨y, 0, none⟩)))) (hat : sv.ownBlock = some g ∨ g = wr.heap.size + 1) :
    Tryz.Oc b t q o w x ks (insertAt vs i v) kv (.slice (some ⟨g, 0, none⟩) (xs.length + 1) cap) (insertAt xs i y) none (w2.setCell ⟨x, 5, none⟩ (.slice (some ⟨g, 0, none⟩) (xs.length + 1) cap)) := by
  obtain ⟨k2, hs, hR, hW, hT, hxx⟩ := h.rest (f := 5) (u := .slice (some ⟨g, 0, none⟩) (xs.length + 1) cap) hg (fun m e => Jv.row_lt h.row m e)
  have hmap : Jv.ptrs (insertAt xs i y) = insertAt (Jv.ptrs xs) i (.pointer (some ⟨y, 0, none⟩)) := by unfold insertAt Jv.ptrs; simp [List.map_take, List.map_drop]
  have hs2 : wr.heap.size ≤ w2.heap.size := by simpa using hs
  have hnew : ∀ m, Jv.okp x kv sv m → m < wr.heap.size → Jv.okp x kv (.slice (some ⟨g, 0, none⟩) (xs.length + 1) cap) m := fun m hm hlt => by
    refine ⟨hm.1, hm.2.1, fun e => ?_⟩
    simp [Value.ownBlock] at e
    subst e
    rcases hat with h1 | h1
    · exact hm.2.2 h1
    · omega
  have hkeep : ∀ m, Jv.okp x kv sv m → m < wr.heap.size → (w2.setCell ⟨x, 5, none⟩ (.slice (some ⟨g, 0, none⟩) (xs.length + 1) cap)).heap[m]? = wr.heap[m]? := fun m hm hlt => k2 m hlt (by have := hm.1; omega) hm.2.2
  refine ⟨(h.vb.keep hxx hs2).set5 _, ?_, ?_, ?_, ?_, (fun v y e => by cases e), hR, hW, hT, h.hx, h.hb, h.hbg⟩
  · refine Jv.row_move h.krow fun m hm => ?_
    have h1 := Jv.row_lt h.krow m hm
    exact ⟨h1.1, k2 m h1.2 (by omega) (fun e => h.apart m hm e)⟩
  · rw [hmap, insertAt_len]
    exact Jv.row_kept hrow fun m hm _ => Below.heap_setCell w2 ⟨x, 5, none⟩ _ m (by show m ≠ x; omega)
  · intro m hm hsv
    simp [Value.ownBlock] at hsv
    subst hsv
    rcases hat with h1 | h1
    · exact h.apart _ hm h1
    · have := (Jv.row_lt h.krow _ hm).2; omega
  · have h1 := Tryz.Trs_mono (ok' := fun m => Jv.okp x kv sv m ∧ m < wr.heap.size) (fun m hm hlt => ⟨hm, hlt⟩) vs xs h.trs
    have h2 := Tryz.Trs_mono (fun m hm _ => hnew m hm.1 hm.2) vs xs (Tryz.Trs_keep (fun m hm hlt => hkeep m hm.1 hlt) hs vs xs h1)
    have h3 := Tryz.Tr_mono (ok' := fun m => Jv.okp x kv sv m ∧ m < wr.heap.size) (fun m hm hlt => ⟨hm, hlt⟩) v y (h.rdy v y rfl)
    have h4 := Tryz.Tr_mono (fun m hm _ => hnew m hm.1 hm.2) v y (Tryz.Tr_keep (fun m hm hlt => hkeep m hm.1 hlt) hs v y h3)
    exact Tryz.Trs_insert h4 i vs xs hi h2
end Go.Proofs
