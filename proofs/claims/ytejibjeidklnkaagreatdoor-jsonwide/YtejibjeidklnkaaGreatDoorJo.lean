/-
  ROWS of one's own, beside the reader.
-/
import Derived.Test.YtejibjeidklnkaaGreatDoorJt
import Derived.Test.YtejibjeidklnkaaGreatDoorJv
import Derived.Laws.BytesArg
import Derived.Laws.IdiomStrings
import Derived.Laws.AppendOwn
import Derived.Lib.UnsafeStr
import Derived.Lib.RuneBytes
namespace Go.Proofs
open Go.RowKit Go.Jv
theorem Jv.row_kept {w w' : World} {B : Nat} {e : TypeId} {size : Nat} {v : Value} {n : Nat} {xs : List Value} (h : w.ownsRow B e size v n xs) (hk : ∀ g, B ≤ g → g < w.heap.size → w'.heap[g]? = w.heap[g]?) : w'.ownsRow B e size v n xs := by
  refine ⟨h.1, ?_⟩
  rcases h.2 with h1 | ⟨g, cap, cur, h1, h2, h3, h4⟩
  · exact .inl h1
  · exact .inr ⟨g, cap, cur, h1, h2, by rw [hk g h2 (Array.getElem?_eq_some_iff.1 h3).1]; exact h3, h4⟩
theorem Jv.row_wk {w w' : World} {B b : Nat} {e : TypeId} {size : Nat} {v : Value} {n : Nat} {xs : List Value} (h : w.ownsRow B e size v n xs) (hk : Wk b w w') (hb : b < B) : w'.ownsRow B e size v n xs :=
  Jv.row_kept h fun g h1 h2 => hk.block g h2 (by omega)
theorem Jv.row_below {w w' : World} {B : Nat} {e : TypeId} {size : Nat} {v : Value} {n : Nat} {xs : List Value} (h : w.ownsRow B e size v n xs) (hk : Below w.heap.size w w') : w'.ownsRow B e size v n xs :=
  Jv.row_kept h fun g _ h2 => hk.block g h2
theorem Jv.row_block {w : World} {B : Nat} {e : TypeId} {size : Nat} {v : Value} {n : Nat} {xs : List Value} (h : w.ownsRow B e size v n xs) : ∀ k, v.ownBlock = some k → B ≤ k := by
  intro k hk
  rcases h.2 with ⟨rfl, _⟩ | ⟨g, cap, cur, rfl, h2, _⟩
  · cases hk
  · simp [Value.ownBlock] at hk; omega
theorem Jv.wk_grown {b : Nat} {w0 w1 w2 : World} {o : Obj} {row : Option Nat} (h : Wk b w0 w1) (g : (w1.alloc o).grownBy w2 row) (hr : ∀ k, row = some k → w0.heap.size ≤ k) : Wk b w0 w2 := by
  have hs : w1.heap.size ≤ (w1.alloc o).heap.size := by simp
  refine ⟨g.os.trans h.os, g.tape.trans h.tape, g.output.trans h.output, Nat.le_trans (Nat.le_trans h.size hs) g.size, fun k hk hb => ?_⟩
  have h1 := g.block k (Nat.lt_of_lt_of_le hk (Nat.le_trans h.size hs)) (fun e => by have := hr k e.symm; omega)
  exact (h1.trans (Below.heap_alloc w1 o k (Nat.lt_of_lt_of_le hk h.size))).trans (h.block k hk hb)
theorem Jv.below_grown {w1 w2 : World} {o : Obj} {row : Option Nat} {B : Nat} (g : (w1.alloc o).grownBy w2 row) (hB : B ≤ w1.heap.size) (hr : ∀ k, row = some k → B ≤ k) : Below B w1 w2 := by
  have hs : w1.heap.size ≤ (w1.alloc o).heap.size := by simp
  refine ⟨g.os, g.tape, g.output, Nat.le_trans hs g.size, fun k hk => ?_⟩
  exact (g.block k (by omega) (fun e => by have := hr k e.symm; omega)).trans (Below.heap_alloc w1 o k (by omega))
theorem Jv.rd_keep {w w' : World} {b : Nat} {t : ByteArray} {p o : Nat} (h : Rd w b t p o) (hk : w'.heap[b]? = w.heap[b]?) (hs : w.heap.size ≤ w'.heap.size) : Rd w' b t p o :=
  ⟨(World.cell?_of_block hk).trans h.c0, (World.cell?_of_block hk).trans h.c1, (World.cell?_of_block hk).trans h.c2, (World.frozen?_of_block hk).trans h.f0, (World.frozen?_of_block hk).trans h.f1, (World.frozen?_of_block hk).trans h.f2, Nat.lt_of_lt_of_le h.hb hs, h.hp, h.ht, h.ho⟩
/-- The bytes that were gathered, as a text. -/
theorem Tryz.gathered {B : Nat} {v : Value} {l : List UInt8} {W : World} (h : W.ownsRow B 5 1 v l.length (Lib.byteCells l)) :
    (convert 32 9 v).run Tryz.prog W = .ok (.string ⟨l.toArray⟩) W := by
  rcases h.2 with ⟨rfl, h0⟩ | ⟨g, cap, cur, rfl, _, hg, _, _, _, ht⟩
  · have : l = [] := List.eq_nil_of_length_eq_zero h0
    subst this
    exact run_convert_bytes_nil (P := Tryz.prog) (w := W) 32 5 Tryz.underlying32 Tryz.underlying5 _ _ 9 Tryz.underlying9
  · refine run_convert_bytes_back (P := Tryz.prog) W 32 9 5 ⟨g, 0, none⟩ cap l Tryz.underlying32 Tryz.underlying5 Tryz.underlying9 (fun j hj => ?_)
    have hadd : (⟨g, 0, none⟩ : Addr).add j = ⟨g, j, none⟩ := by unfold Addr.add; split <;> simp_all
    rw [hadd, cell_of_row _ _ j _ _ _ hg]
    have e := congrArg (·[j]?) ht
    simp only [List.getElem?_take, Nat.mul_one, if_pos hj, Lib.byteCells, List.getElem?_map, List.getElem?_eq_getElem hj, Option.map_some] at e
    rw [← Array.getElem?_toList, e]
end Go.Proofs
