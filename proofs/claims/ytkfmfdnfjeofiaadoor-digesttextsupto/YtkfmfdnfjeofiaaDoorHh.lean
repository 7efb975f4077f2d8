/-
  The document's Mac.
-/
import Derived.Test.YtkfmfdnfjeofiaaDoorHg
import Derived.Test.YtkfmfdnfjeofiaaDoorLq
namespace Go.Dg
open Go.RowKit Go.Wi
theorem Ob.cell {w : World} {B g n cap : Nat} {l : List UInt8} (h : Ob w B (.slice (some ⟨g, 0, none⟩) n cap) l) {i : Nat} (hi : i < l.length) : w.cell? ⟨g, i, none⟩ = some (.int .u8 (l[i].toNat : Nat)) ∧ w.frozen? ⟨g, i, none⟩ = false := by
  rcases h with ⟨e, _⟩ | ⟨g', cap', e, h1, h2, h3, h4, h5⟩
  · injection e with e1; cases e1
  · injection e with e1 e2 e3
    injection e1 with e1
    injection e1 with e1
    subst e1
    exact ⟨h4 i _ (byteCell hi), (h5 i (by omega)).2⟩
theorem Ob.set {w : World} {B g n cap : Nat} {l : List UInt8} (h : Ob w B (.slice (some ⟨g, 0, none⟩) n cap) l) (i : Nat) (c : UInt8) (v : Int) (hv : v = (c.toNat : Nat)) (hi : i < l.length) : Ob (w.setCell ⟨g, i, none⟩ (.int .u8 v)) B (.slice (some ⟨g, 0, none⟩) n cap) (l.set i c) := by
  subst hv
  rcases h with ⟨e, _⟩ | ⟨g', cap', e, h1, h2, h3, h4, h5⟩
  · injection e with e1; cases e1
  · injection e with e1 e2 e3
    injection e1 with e1
    injection e1 with e1
    subst e1 e3
    obtain ⟨u0, hu0⟩ := Option.isSome_iff_exists.1 (h5 i (by omega)).1
    refine .inr ⟨g, cap, by rw [e2, List.length_set], h1, by simpa using h2, by rw [List.length_set]; exact h3, fun j u hu => ?_, fun j hj => ⟨?_, by rw [World.frozen?_setCell]; exact (h5 j hj).2⟩⟩
    · by_cases hji : j = i
      · subst hji
        rw [byteCell (by rw [List.length_set]; exact hi), List.getElem_set_self] at hu
        rw [World.cell?_setCell_same _ _ _ hu0]
        exact hu
      · rw [World.cell?_setCell_other _ _ _ _ (fun e => hji (by injection e with e1 e2; exact e2.symm))]
        refine h4 j u ?_
        have hj := (List.getElem?_eq_some_iff.1 hu).1
        rw [byteCells_len, List.length_set] at hj
        rw [byteCell (by rw [List.length_set]; exact hj), List.getElem_set_ne (Ne.symm hji)] at hu
        rw [byteCell hj]
        exact hu
    · by_cases hji : j = i
      · subst hji
        rw [World.cell?_setCell_same _ _ _ hu0]; rfl
      · rw [World.cell?_setCell_other _ _ _ _ (fun e => hji (by injection e with e1 e2; exact e2.symm))]
        exact (h5 j hj).1
end Go.Dg
namespace Go.Proofs
open Go.RowKit Go.Wi Go.Dg
theorem Dg.xor8 (x n : UInt8) : bits BinOp.xor IntKind.u8 (x.toNat : Int) (n.toNat : Int) = (((x ^^^ n).toNat : Nat) : Int) := by
  have h1 := x.toNat_lt
  have h2 := n.toNat_lt
  rw [u8_xor_nat _ _ h1 h2, UInt8.toNat_xor]
theorem Dg.with_next (b : ByteArray) (i : Nat) (n : UInt8) (h : i < b.size) {hl : i < (withB (b.toList.take i) n ++ b.toList.drop i).length} (x : UInt8) (hx : x = (withB (b.toList.take i) n ++ b.toList.drop i)[i]'hl) : (withB (b.toList.take i) n ++ b.toList.drop i).set i (x ^^^ n) = withB (b.toList.take (i + 1)) n ++ b.toList.drop (i + 1) := by
  have h0 : i < b.toList.length := by rw [Dg.list_len]; exact h
  have e1 : (withB (b.toList.take i) n).length = i := by simp only [withB, List.length_map, List.length_take]; omega
  have e2 : x = b.toList[i] := by
    rw [hx, List.getElem_append_right (by omega)]
    simp [e1]
  rw [List.set_append_right _ _ (by omega), e1, Nat.sub_self, List.drop_eq_getElem_cons h0, List.set_cons_zero, List.take_add_one, List.getElem?_eq_getElem h0, e2]
  simp only [withB, List.map_append, Option.toList_some, List.map_cons, List.map_nil, List.append_assoc, List.cons_append, List.nil_append]
theorem Tryd.makeZ {ops : Array Oper} {rest : List Oper} {o : Oper} {a : Act} {Q : Exit → Act → World → Prop} {w : World} (hgd : o.guard = none) (l c : Operand) (hop : o.op = Op.makeSlice 24 l c)
    (L : Int) (n : Nat) (hl : a.eval l = .int .i64 L) (hc : a.eval c = .int .i64 L) (hL : L = (n : Int)) (hn : n ≤ 140737488355328)
    (hK : ∀ w', Ob w' w.heap.size (.slice (some ⟨w.heap.size, 0, none⟩) n n) (List.replicate n 0) → Below w.heap.size w w' → wpList Tryd.prog ops Q rest (a.put o.dst (.slice (some ⟨w.heap.size, 0, none⟩) n n)) w') : wpList Tryd.prog ops Q (o :: rest) a w := by
  obtain ⟨i0, hi0, hz0, hz1, hz2⟩ := info_parts Tryd.info8
  refine wpList_make_full w hgd l c 24 hop w.heap.size 5 i0 (.int .u8 0) 1 Tryd.underlying24 hi0 hz0 hz1 .i64 .i64 L L n hl hc hL hL (by rw [hz2]; omega) (by unfold maxLen; omega) (Nat.le_refl _) ?_
  intro w' hown hg
  refine hK w' ?_ ((Below.refl _ w).grown hg (Nat.le_refl _) fun k e => by cases e)
  have e2 : (madeCells (Value.int .u8 0).cells (n * 1)).toList = Lib.byteCells (List.replicate n 0) := by
    rw [show (Value.int .u8 0).cells = #[.int .u8 0] from rfl, toList_madeCells_one, Nat.mul_one]
    simp [Lib.byteCells]
  refine Ob.ofRow (n := n) (T := 5) ?_
  rw [← e2]
  exact hown
theorem Dg.app_list (x y : ByteArray) : (x ++ y).toList = x.toList ++ y.toList := by
  simp [ByteArray.toList_eq]
theorem Dg.zeros_list (n : Nat) : (⟨Array.replicate n 0⟩ : ByteArray).toList = List.replicate n 0 := by rw [ByteArray.toList_eq]; simp
theorem Dg.of_list (l : List UInt8) : (⟨l.toArray⟩ : ByteArray).toList = l := by rw [ByteArray.toList_eq]
theorem Dg.of_size (l : List UInt8) : (⟨l.toArray⟩ : ByteArray).size = l.length := rfl
theorem Dg.sum_len (b : List UInt8) : (Dg.sum b).length = 32 := by
  unfold Dg.sum out
  rw [Dg.wbytes_len]
  rfl
theorem Dg.key64_long {k : List UInt8} (h : 64 < k.length) : key64 k = Dg.sum k ++ List.replicate 32 0 := by
  unfold key64
  rw [if_pos h]
  show Dg.sum k ++ List.replicate (64 - (Dg.sum k).length) 0 = _
  rw [Dg.sum_len]
theorem Dg.key64_short {k : List UInt8} (h : ¬ 64 < k.length) : key64 k = k ++ List.replicate (64 - k.length) 0 := by
  unfold key64
  rw [if_neg h]
theorem Dg.key64_len (k : List UInt8) : (key64 k).length = 64 := by
  unfold key64
  have := Dg.sum_len k
  split
  · simp [this]
  · simp; omega
end Go.Proofs
