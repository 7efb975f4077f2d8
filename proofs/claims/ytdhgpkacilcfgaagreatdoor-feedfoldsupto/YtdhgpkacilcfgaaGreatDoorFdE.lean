/-
  FEED: append of counts, slices.Clone, the stable sort of a row of one's own.
-/
import Derived.Test.YtdhgpkacilcfgaaGreatDoorFdD
import Derived.Laws.AppendOwnNone
import Derived.Lib.LazyBuf
namespace Go.Proofs
open Go.RowKit Go.Wi Go.Fd Go.Sort
theorem Tryz.infoCn : (Tryz.prog.info? 39).map (fun i => (i.zero, i.size, i.bytes)) = some (some (.agg #[.string ByteArray.empty, .int .i64 0, .int .i64 0]), 3, 32) := by kernel_rfl
theorem Fd.cs_cells {w : World} {ad : Option Addr} {n cap : Nat} {L : List Cn} (h : Cs w (.slice ad n cap) L) (a : Addr) (ha : ad = some a) : ∀ (j : Nat) (u : Value), (cnCells L)[j]? = some u → w.cell? (a.add j) = some u := by
  intro j u hu
  obtain ⟨ad', cap', e, hc, hn, h1⟩ := h.ex
  injection e with e1 e2 e3
  subst e1 e3
  rcases h1 with rfl | ⟨g, o, eg, hg, h1⟩
  · simp [cnCells] at hu
  · rw [ha] at eg
    injection eg with eg
    subst eg
    rw [Addr.add_mid]
    exact h1 j u hu
set_option maxRecDepth 20000 in
/-- 'append' of counts. -/
theorem Tryz.appCn {t : TypeId} (ht : Tryz.prog.underlying t = some (.slice 39)) {ops : Array Oper} {rest : List Oper} {o : Oper} {a : Act} {Q : Exit → Act → World → Prop} (hgd : o.guard = none) (s y : Operand)
    (ho : o.op = .call { callee := .builtin .append, args := #[s, y], argTypes := #[t, t] })
    {w : World} {B : Nat} {V Y : Value} {n : Nat} {L0 L1 : List Cn} (hrow : w.ownsRow B 39 3 V n (cnCells L0)) (hB : B ≤ w.heap.size) (hs : a.eval s = V) (hY : Cs w Y L1) (hy : a.eval y = Y) (hlen : n + L1.length ≤ 4398046511104)
    (hK : ∀ v' w', w'.ownsRow B 39 3 v' (n + L1.length) (cnCells (L0 ++ L1)) → Below B w w' → wpList Tryz.prog ops Q rest (a.put o.dst v') w') : wpList Tryz.prog ops Q (o :: rest) a w := by
  obtain ⟨i0, hi0, hz0, hz1, hz2⟩ := info_parts Tryz.infoCn
  rcases hY.nz with rfl | ⟨ad, m, c, rfl⟩
  · obtain ⟨ad, cap, e, h⟩ := hY.ex
    injection e with e1 e2 e3
    have e0 : L1 = [] := List.eq_nil_of_length_eq_zero e2.symm
    subst e0
    refine wpList_append_own_none hgd s y _ ho B 39 i0 3 ht hi0 V n _ hs hrow hy (hK V w ?_ (Below.refl _ _))
    rw [List.append_nil]
    exact hrow
  · have hcs := Fd.cs_cells hY ad rfl
    obtain ⟨ad', cap, e, h⟩ := hY.ex
    injection e with e1 e2 e3
    subst e1 e2
    refine wpList_append_own _ hgd s y t ho B 39 i0 _ 3 32 ht hi0 hz0 hz1 hz2 rfl (by omega) V n _ hs hrow ad L1.length c (cnCells L1) hy (cnCells_len L1) hcs cnCells_one (by unfold maxLen; omega) (by omega) hB ?_
    intro v' w' h1 h2 h3
    rw [← cnCells_app] at h1
    exact hK v' w' h1 ((Below.refl B w).grown h2 (by omega) fun k e => (hrow.lt k e).1)
set_option maxRecDepth 20000 in
set_option maxHeartbeats 1000000 in
theorem Tryz.clone_cn {w : World} {V : Value} {l : List Cn} (h : Cs w V l) (hV : ∀ k, V.ownBlock = some k → k < w.heap.size) (hl : l.length ≤ 4398046511104) :
    Calls Tryz.prog 39 #[V] w fun e w' => ∃ V', e = .returned V' ∧ w'.ownsRow w.heap.size 39 3 V' l.length (cnCells l) ∧ Below w.heap.size w w' := by
  have hq : ∀ (w : World) (a : Option Addr) (n c : Nat), (binOp .eql 22 (.slice a n c) (.slice none 0 0)).run Tryz.prog w = .ok (.bool a.isNone) w := fun w a n c => run_eql_slice_nil w 22 39 a n c Tryz.underlying22
  rcases h.nz with rfl | ⟨ad, m, c, rfl⟩
  · obtain ⟨ad, cap, e, _⟩ := h.ex
    injection e with e1 e2 e3
    have hx : l = [] := List.eq_nil_of_length_eq_zero e2.symm
    subst hx
    clear hl h hV e1 e2 e3
    go_enter Tryz.func39, Tryz.ntmps39
    go_wp2
    go_ret
    exact ⟨_, rfl, World.ownsRow_nil _ _ _ _, Below.refl _ _⟩
  · have HC : Hid (Cs w (.slice (some ad) m c) l) := h
    have hmade : (w.alloc (.cells #[] 39)).ownsRow w.heap.size 39 3 (.slice (some ⟨w.heap.size, 0, none⟩) 0 0) 0 (cnCells []) := World.ownsRow_made w #[] 0 (Nat.le_refl _) (by unfold maxLen; omega) (by simp)
    have hY : Cs (w.alloc (.cells #[] 39)) (.slice (some ad) m c) l := h.below ((Below.refl w.heap.size w).alloc (Nat.le_refl _) _) hV
    have HL : Hid (l.length ≤ 4398046511104) := hl
    clear h hV hl
    go_enter Tryz.func39, Tryz.ntmps39
    go_wp2_with (first | (at_builtin; refine Tryz.appCn Tryz.underlying22 rfl _ _ rfl hmade (by simp) rfl hY rfl (by have := HL.out; omega) ?_; intro v1 w2 hr2 hb2) | fail)
    go_ret
    simp only [Nat.zero_add, List.nil_append] at hr2
    exact ⟨_, rfl, hr2, ((Below.refl w.heap.size w).alloc (Nat.le_refl _) _).trans hb2⟩
set_option maxRecDepth 20000 in
set_option maxHeartbeats 1000000 in
theorem Tryz.clone_sh {w : World} {V : Value} {l : List Cn} (h : Cs w V l) (hV : ∀ k, V.ownBlock = some k → k < w.heap.size) (hl : l.length ≤ 4398046511104) :
    Calls Tryz.prog 23 #[V] w fun e w' => ∃ V', e = .returned V' ∧ w'.ownsRow w.heap.size 39 3 V' l.length (cnCells l) ∧ Below w.heap.size w w' := by
  have hq : ∀ (w : World) (a : Option Addr) (n c : Nat), (binOp .eql 48 (.slice a n c) (.slice none 0 0)).run Tryz.prog w = .ok (.bool a.isNone) w := fun w a n c => run_eql_slice_nil w 48 39 a n c Tryz.underlying48
  rcases h.nz with rfl | ⟨ad, m, c, rfl⟩
  · obtain ⟨ad, cap, e, _⟩ := h.ex
    injection e with e1 e2 e3
    have hx : l = [] := List.eq_nil_of_length_eq_zero e2.symm
    subst hx
    clear hl h hV e1 e2 e3
    go_enter Tryz.func23, Tryz.ntmps23
    go_wp2
    go_ret
    exact ⟨_, rfl, World.ownsRow_nil _ _ _ _, Below.refl _ _⟩
  · have HC : Hid (Cs w (.slice (some ad) m c) l) := h
    have hmade : (w.alloc (.cells #[] 39)).ownsRow w.heap.size 39 3 (.slice (some ⟨w.heap.size, 0, none⟩) 0 0) 0 (cnCells []) := World.ownsRow_made w #[] 0 (Nat.le_refl _) (by unfold maxLen; omega) (by simp)
    have hY : Cs (w.alloc (.cells #[] 39)) (.slice (some ad) m c) l := h.below ((Below.refl w.heap.size w).alloc (Nat.le_refl _) _) hV
    have HL : Hid (l.length ≤ 4398046511104) := hl
    clear h hV hl
    go_enter Tryz.func23, Tryz.ntmps23
    go_wp2_with (first | (at_builtin; refine Tryz.appCn Tryz.underlying48 rfl _ _ rfl hmade (by simp) rfl hY rfl (by have := HL.out; omega) ?_; intro v1 w2 hr2 hb2) | fail)
    go_ret
    simp only [Nat.zero_add, List.nil_append] at hr2
    exact ⟨_, rfl, hr2, ((Below.refl w.heap.size w).alloc (Nat.le_refl _) _).trans hb2⟩
end Go.Proofs
