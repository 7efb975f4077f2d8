/-
  Laid together by merge.py of Ii Ij.
-/
import Derived.Test.YtlfiebapfgpchaaGreatDoorSqIg
namespace Go.Proofs
open Go.RowKit Go.Wi Go.Dg
theorem Dg.set_block {w : World} {g : Nat} {T : TypeId} {cs : List Value} (h : w.heap[g]? = some (.cells cs.toArray T (0, 0))) (i : Nat) (v : Value) : (w.setCell ⟨g, i, none⟩ v).heap[g]? = some (.cells (cs.set i v).toArray T (0, 0)) := by
  obtain ⟨hlt, hk⟩ := Array.getElem?_eq_some_iff.1 h
  show (w.heap.modify g _)[g]? = _
  rw [Array.getElem?_eq_getElem (by rw [Array.size_modify]; exact hlt), Array.getElem_modify_self, hk]
  simp
theorem Dg.sets_block {g : Nat} {T : TypeId} : ∀ (vs : List Value) (o : Nat) (w : World) (cs : List Value), w.heap[g]? = some (.cells cs.toArray T (0, 0)) → o + vs.length ≤ cs.length →
    (w.setCells g o vs).heap[g]? = some (.cells (cs.take o ++ vs ++ cs.drop (o + vs.length)).toArray T (0, 0))
  | [], o, w, cs, h, _ => by
    rw [List.append_nil, List.length_nil, Nat.add_zero, List.take_append_drop]
    exact h
  | v :: r, o, w, cs, h, hl => by
    rw [List.length_cons] at hl
    have h1 := Dg.sets_block r (o + 1) _ _ (Dg.set_block h o v) (by rw [List.length_set]; omega)
    have e1 : (cs.set o v).take (o + 1) = cs.take o ++ [v] := by
      rw [List.take_add_one, List.take_set_of_le (Nat.le_refl _)]
      simp [show o < cs.length by omega]
    have e2 : (cs.set o v).drop (o + 1 + r.length) = cs.drop (o + (v :: r).length) := by
      rw [List.drop_set_of_lt (by omega), List.length_cons]
      congr 1
      omega
    rw [e1, e2] at h1
    rw [List.append_assoc (cs.take o)] at h1
    exact h1
def Dg.wcells (l : List Nat) : List Value := l.map fun (n : Nat) => Value.int .u32 (n : Int)
theorem Dg.wcells_len (l : List Nat) : (Dg.wcells l).length = l.length := by simp [Dg.wcells]
/-- What lies in its block. -/
def Dg.hcells (s : S8) (R : List UInt8) (c : Nat) : List Value := Dg.wcells s.l ++ (Lib.byteCells R ++ [.int .u64 (c : Int)])
structure Tryz.Hsh (w : World) (g : Nat) (s : S8) (R : List UInt8) (c : Nat) : Prop where
  m : w.heap[g]? = some (.cells (Dg.hcells s R c).toArray 160 (0, 0))
  r : R.length = 64
theorem Tryz.Hsh.len {w : World} {g : Nat} {s : S8} {R : List UInt8} {c : Nat} (h : Tryz.Hsh w g s R c) : (Dg.hcells s R c).length = 73 := by
  have := h.r
  simp only [Dg.hcells, List.length_append, Dg.wcells_len, byteCells_len, List.length_cons, List.length_nil]
  rw [this]
  rfl
theorem Tryz.Hsh.lt {w : World} {g : Nat} {s : S8} {R : List UInt8} {c : Nat} (h : Tryz.Hsh w g s R c) : g < w.heap.size := block_lt h.m
theorem Tryz.Hsh.keep {w w' : World} {g : Nat} {s : S8} {R : List UInt8} {c : Nat} (h : Tryz.Hsh w g s R c) (e : w'.heap[g]? = w.heap[g]?) : Tryz.Hsh w' g s R c := ⟨e.trans h.m, h.r⟩
theorem Tryz.Hsh.at {w : World} {g : Nat} {s : S8} {R : List UInt8} {c : Nat} (h : Tryz.Hsh w g s R c) (i : Nat) : w.cell? ⟨g, i, none⟩ = (Dg.hcells s R c)[i]? := by
  rw [cell_of_row _ _ _ _ _ _ h.m]
  simp
theorem Tryz.Hsh.frozen {w : World} {g : Nat} {s : S8} {R : List UInt8} {c : Nat} (h : Tryz.Hsh w g s R c) (i : Nat) : w.frozen? ⟨g, i, none⟩ = false := by
  simp [World.frozen?, h.m]
theorem Tryz.Hsh.there {w : World} {g : Nat} {s : S8} {R : List UInt8} {c : Nat} (h : Tryz.Hsh w g s R c) {o n : Nat} (hn : o + n ≤ 73) : w.there g o n := fun j hj => by
  refine ⟨?_, h.frozen _⟩
  have := h.len
  rw [h.at, List.getElem?_eq_getElem (by omega)]
  rfl
theorem Tryz.Hsh.st {w : World} {g : Nat} {s : S8} {R : List UInt8} {c : Nat} (h : Tryz.Hsh w g s R c) : w.rangeAt g 0 (Dg.wcells s.l) := fun j v hv => by
  have hj := (List.getElem?_eq_some_iff.1 hv).1
  rw [h.at, Nat.zero_add, Dg.hcells, List.getElem?_append_left hj]
  exact hv
theorem Tryz.Hsh.rs {w : World} {g : Nat} {s : S8} {R : List UInt8} {c : Nat} (h : Tryz.Hsh w g s R c) : w.rangeAt g 8 (Lib.byteCells R) := fun j v hv => by
  have hj := (List.getElem?_eq_some_iff.1 hv).1
  have h8 : (Dg.wcells s.l).length = 8 := by rw [Dg.wcells_len]; rfl
  rw [h.at, Dg.hcells, List.getElem?_append_right (by omega), h8, show 8 + j - 8 = j by omega, List.getElem?_append_left hj]
  exact hv
theorem Tryz.Hsh.ct {w : World} {g : Nat} {s : S8} {R : List UInt8} {c : Nat} (h : Tryz.Hsh w g s R c) : w.cell? ⟨g, 72, none⟩ = some (.int .u64 (c : Int)) := by
  have h8 : (Dg.wcells s.l).length = 8 := by rw [Dg.wcells_len]; rfl
  have hr := h.r
  rw [h.at, Dg.hcells, List.getElem?_append_right (by omega), h8, List.getElem?_append_right (by rw [byteCells_len]; omega), byteCells_len, hr]
  rfl
theorem Tryz.Hsh.setC {w : World} {g : Nat} {s : S8} {R : List UInt8} {c : Nat} (h : Tryz.Hsh w g s R c) (z : Int) (c' : Nat) (hz : z = c') : Tryz.Hsh (w.setCell ⟨g, 72, none⟩ (.int .u64 z)) g s R c' := by
  subst hz
  refine ⟨?_, h.r⟩
  rw [Dg.set_block h.m]
  have h8 : (Dg.wcells s.l).length = 8 := by rw [Dg.wcells_len]; rfl
  have hr := h.r
  congr 3
  rw [Dg.hcells, List.set_append_right _ _ (by omega), h8, List.set_append_right _ _ (by rw [byteCells_len]; omega), byteCells_len, hr]
  rfl
theorem Tryz.Hsh.setS {w : World} {g : Nat} {s : S8} {R : List UInt8} {c : Nat} (h : Tryz.Hsh w g s R c) (s' : S8) : Tryz.Hsh (w.setCells g 0 (Dg.wcells s'.l)) g s' R c := by
  refine ⟨?_, h.r⟩
  have h8 : (Dg.wcells s.l).length = 8 := by rw [Dg.wcells_len]; rfl
  have h8' : (Dg.wcells s'.l).length = 8 := by rw [Dg.wcells_len]; rfl
  have h1 := Dg.sets_block (T := 160) (Dg.wcells s'.l) 0 w _ h.m (by rw [h.len, h8']; omega)
  rw [h1, List.take_zero, List.nil_append, h8', Nat.zero_add, Dg.hcells, List.drop_append_of_le_length (by omega), List.drop_of_length_le (by omega), List.nil_append]
  rfl
theorem Tryz.Hsh.setR {w : World} {g : Nat} {s : S8} {R : List UInt8} {c : Nat} (h : Tryz.Hsh w g s R c) (o : Nat) (xs : List UInt8) (ho : o + xs.length ≤ 64) : Tryz.Hsh (w.setCells g (8 + o) (Lib.byteCells xs)) g s (R.take o ++ xs ++ R.drop (o + xs.length)) c := by
  have hr := h.r
  refine ⟨?_, by simp only [List.length_append, List.length_take, List.length_drop]; omega⟩
  have h8 : (Dg.wcells s.l).length = 8 := by rw [Dg.wcells_len]; rfl
  have hb := byteCells_len xs
  have hbR := byteCells_len R
  have h1 := Dg.sets_block (T := 160) (Lib.byteCells xs) (8 + o) w _ h.m (by rw [h.len]; omega)
  rw [h1]
  congr 3
  have e1 : (Dg.hcells s R c).take (8 + o) = Dg.wcells s.l ++ Lib.byteCells (R.take o) := by
    rw [Dg.hcells, ← h8, List.take_append, List.take_of_length_le (by omega), show (Dg.wcells s.l).length + o - (Dg.wcells s.l).length = o by omega, List.take_append_of_le_length (by omega)]
    simp [Lib.byteCells, List.map_take]
  have e2 : (Dg.hcells s R c).drop (8 + o + (Lib.byteCells xs).length) = Lib.byteCells (R.drop (o + xs.length)) ++ [.int .u64 (c : Int)] := by
    rw [Dg.hcells, hb, ← h8, List.drop_append, List.drop_of_length_le (by omega), show (Dg.wcells s.l).length + o + xs.length - (Dg.wcells s.l).length = o + xs.length by omega, List.nil_append, List.drop_append_of_le_length (by omega)]
    simp [Lib.byteCells, List.map_drop]
  rw [e1, e2, Dg.hcells, byteCells_app, byteCells_app]
  simp only [List.append_assoc]
theorem Tryz.sizeSt : (Tryz.prog.info? 158).map (·.size) = some 8 := by kernel_rfl
theorem Tryz.size64b : (Tryz.prog.info? 155).map (·.size) = some 64 := by kernel_rfl
theorem Tryz.Hsh.loadS {w : World} {g : Nat} {s : S8} {R : List UInt8} {c : Nat} (h : Tryz.Hsh w g s R c) : (Instr.loadAt 158 (.pointer (some ⟨g, 0, none⟩))).run Tryz.prog w = .ok (.agg (Dg.wcells s.l).toArray) w :=
  run_loadAt_mid w g 0 158 (Dg.wcells s.l) _ h.st Tryz.underlying158 rfl Tryz.sizeSt
theorem Tryz.Hsh.loadR {w : World} {g : Nat} {s : S8} {R : List UInt8} {c : Nat} (h : Tryz.Hsh w g s R c) : (Instr.loadAt 155 (.pointer (some ⟨g, 8, none⟩))).run Tryz.prog w = .ok (.agg (Lib.byteCells R).toArray) w :=
  run_loadAt_mid w g 8 155 (Lib.byteCells R) _ h.rs Tryz.underlying155 rfl (by rw [byteCells_len, h.r]; exact Tryz.size64b)
theorem Tryz.Hsh.storeS {w : World} {g : Nat} {s : S8} {R : List UInt8} {c : Nat} (h : Tryz.Hsh w g s R c) (s' : S8) : (Instr.storeAt 158 (.pointer (some ⟨g, 0, none⟩)) (.agg (Dg.wcells s'.l).toArray)).run Tryz.prog w = .ok () (w.setCells g 0 (Dg.wcells s'.l)) := by
  have := run_storeAt_mid (P := Tryz.prog) w g 0 158 (Dg.wcells s'.l).toArray (h.there (by show 0 + 8 ≤ 73; omega)) Tryz.sizeSt (Dg.all_one s'.l)
  exact this
theorem Tryz.Hsh.cellsS {w : World} {g : Nat} {s : S8} {R : List UInt8} {c : Nat} (h : Tryz.Hsh w g s R c) (s' : S8) : (storeCells ⟨g, 0, none⟩ (Dg.wcells s'.l) 0).run Tryz.prog w = .ok () (w.setCells g 0 (Dg.wcells s'.l)) := by
  have ht := h.there (o := 0) (n := 8) (by omega)
  have l8 : (Dg.wcells s'.l).length = 8 := by rw [Dg.wcells_len]; rfl
  exact run_storeCells_cells (P := Tryz.prog) g 0 (Dg.wcells s'.l) 0 w (fun j hj => by simpa using (ht j (by omega)).1) (fun j hj => by simpa using (ht j (by omega)).2) (fun v hv => by
    simp only [Dg.wcells, List.mem_map] at hv
    obtain ⟨n, _, rfl⟩ := hv
    rfl)
/-- What was added so far. -/
structure Dg.Sofar (s : S8) (R : List UInt8) (l : List UInt8) : Prop where
  small : Small s.l
  s : s = blks (l.length / 64) l Dg.start
  r : R.take (l.length % 64) = l.drop (64 * (l.length / 64))
theorem Dg.each_zero {α : Type} (f : α → List UInt8 → α) (m : List UInt8) (s : α) : each64 f 0 m s = s := rfl
theorem Dg.each_take {α : Type} (f : α → List UInt8 → α) : ∀ (n : Nat) (l r : List UInt8) (s : α), 64 * n ≤ l.length → each64 f n (l ++ r) s = each64 f n l s
  | 0, _, _, _, _ => rfl
  | n + 1, l, r, s, h => by
    rw [each64_succ, each64_succ, List.drop_append_of_le_length (by omega), List.take_append_of_le_length (by omega), Dg.each_take f n _ r _ (by rw [List.length_drop]; omega)]
theorem Dg.each_add {α : Type} (f : α → List UInt8 → α) : ∀ (n m : Nat) (l : List UInt8) (s : α), each64 f (n + m) l s = each64 f m (l.drop (64 * n)) (each64 f n l s)
  | 0, m, l, s => by rw [Nat.zero_add, Nat.mul_zero, List.drop_zero]; rfl
  | n + 1, m, l, s => by
    rw [show n + 1 + m = (n + m) + 1 by omega, each64_succ, Dg.each_add f n m, each64_succ, List.drop_drop, show 64 + 64 * n = 64 * (n + 1) by omega]
theorem Dg.blks_take (n : Nat) (l r : List UInt8) (s : S8) (h : 64 * n ≤ l.length) : blks n (l ++ r) s = blks n l s := Dg.each_take blk n l r s h
theorem Dg.blks_one (n : Nat) (l m : List UInt8) (s : S8) (h : l.length = 64 * n) (hm : m.length = 64) : blks (n + 1) (l ++ m) s = blk (blks n l s) m := by
  unfold blks
  rw [Dg.each_add, ← h, List.drop_left, Dg.each_take blk n l m s (by omega)]
  rw [each64_succ blk 0, Dg.each_zero, List.take_of_length_le (by omega)]
end Go.Proofs

namespace Go.Lq
section
variable {P : Program} {ops : Array Oper} {C : World → Prop}
variable {md : Region.Mode}
/-- What has come up has all that it waits for behind it. -/
def Closed (md : Region.Mode) (ops : Array Oper) (listed : Array Bool) : Prop := ∀ (j : Nat) (o : Oper), ops[j]? = some o → listed.getD j false = true → ∀ e ∈ o.after, Region.binds md e = true → listed.getD e.on false = true
theorem Closed.set {listed : Array Bool} (h : Closed md ops listed) {i : Nat} (hi : i ∈ Region.ready md ops listed) : Closed md ops (listed.setIfInBounds i true) := fun j o ho hj e he hb => by
  by_cases hij : i = j
  · subst hij
    obtain ⟨_, o', ho', hall⟩ := mem_ready.1 hi
    obtain rfl := Option.some.inj (ho.symm.trans ho')
    exact getD_set_true (hall e he hb)
  · rw [getD_set_ne false hij] at hj
    exact getD_set_true (h j o ho hj e he hb)
def waits (md : Region.Mode) (o : Oper) (i : Nat) : Bool := o.after.any fun e => Region.binds md e && e.on == i
/-- All others stand ahead of operation n, or ahead of one that does. -/
def lastB2 (md : Region.Mode) (ops : Array Oper) (n : Nat) : Bool := match ops[n]? with
  | none => false
  | some o => (List.range n).all fun i => waits md o i || (List.range n).any fun j => waits md o j && match ops[j]? with
    | none => false
    | some p => waits md p i
theorem waits_spec {o : Oper} {i : Nat} (h : waits md o i = true) {listed : Array Bool} (hall : ∀ e ∈ o.after, Region.binds md e = true → listed.getD e.on false = true) : listed.getD i false = true := by
  obtain ⟨e, he, hb⟩ := Array.any_eq_true'.1 h
  simp only [Bool.and_eq_true, beq_iff_eq] at hb
  rw [← hb.2]
  exact hall e he hb.1
theorem not_ready2 {n i : Nat} (hn : lastB2 md ops n = true) (hi : i < n) {listed : Array Bool} (hcl : Closed md ops listed) (hr : i ∈ Region.ready md ops listed) : n ∉ Region.ready md ops listed := fun h => by
  obtain ⟨_, o, ho, hall⟩ := mem_ready.1 h
  unfold lastB2 at hn
  rw [ho] at hn
  have h1 := List.all_eq_true.1 hn i (List.mem_range.2 hi)
  have h3 := (mem_ready.1 hr).1
  have h2 : listed.getD i false = true := by
    rcases Bool.or_eq_true_iff.1 h1 with h1 | h1
    · exact waits_spec h1 hall
    · obtain ⟨j, _, hj⟩ := List.any_eq_true.1 h1
      rw [Bool.and_eq_true] at hj
      have h4 := waits_spec hj.1 hall
      cases hp : ops[j]? with
      | none => rw [hp] at hj; exact absurd hj.2 (by simp)
      | some p =>
        rw [hp] at hj
        exact waits_spec hj.2 (hcl j p hp h4)
  rcases Nat.lt_or_ge i listed.size with h' | h'
  · simp [h'] at h2 h3; rw [h2] at h3; cases h3
  · simp [Array.getElem?_eq_none h'] at h2
theorem wpL_first2 {n : Nat} {Q : Act → Prop} {i : Nat} {oi : Oper} {v : Value} (hn : lastB2 md ops n = true) (hin : i < n) (hi : ops[i]? = some oi) (hsel : ∀ (j : Nat) (o : Oper) cs b, ops[j]? = some o → o.op ≠ .select cs b) :
    ∀ (fuel : Nat) (listed : Array Bool) (a : Act), Closed md ops listed →
      (∀ j oj, ops[j]? = some oj → j ≠ i → listed.getD j true = false → (∀ e ∈ oj.after, Region.binds md e = true → e.on ≠ i) → oi.apart ops oj = true) →
      i ∈ Region.ready md ops listed → YieldsIn P ops C oi v a →
      wpL P md ops C n Q fuel (listed.setIfInBounds i true) (a.put oi.dst v) → wpL P md ops C n Q (fuel + 1) listed a := by
  intro fuel
  induction fuel with
  | zero =>
    intro listed a hcl _ hr hy H
    refine ⟨fun h => (by rw [h] at hr; cases hr), fun j hj => ?_⟩
    by_cases hji : j = i
    · subst hji; exact hy.qOp hi H
    · have := ready_mono hj hji
      rw [H.1.1, List.mem_singleton] at this
      subst this
      exact absurd hj (not_ready2 hn hin hcl hr)
  | succ fuel ih =>
    intro listed a hcl hfree hr hy H
    refine ⟨fun h => (by rw [h] at hr; cases hr), fun j hj => ?_⟩
    by_cases hji : j = i
    · subst hji; exact hy.qOp hi H
    · have h1 := H.2 j (ready_mono hj hji)
      obtain ⟨hjun, oj, hoj, hall⟩ := mem_ready.1 hj
      have hnot : ∀ e ∈ oj.after, Region.binds md e = true → e.on ≠ i := fun e he hb heq => by
        have h1 := hall e he hb
        have h0 := (mem_ready.1 hr).1
        rw [heq] at h1
        rcases Nat.lt_or_ge i listed.size with h' | h'
        · simp [h'] at h0 h1; rw [h0] at h1; cases h1
        · simp [Array.getElem?_eq_none h'] at h1
      have h2 := qOp_put hoj (hfree j oj hoj hji hjun hnot) (fun cs b => hsel i oi cs b hi) (fun cs b => hsel j oj cs b hoj) hy h1
      have hfree' : ∀ k ok, ops[k]? = some ok → k ≠ i → (listed.setIfInBounds j true).getD k true = false →
          (∀ e ∈ ok.after, Region.binds md e = true → e.on ≠ i) → oi.apart ops ok = true := fun k ok hk hki hun hno => by
        refine hfree k ok hk hki ?_ hno
        by_cases hjk : j = k
        · subst hjk; exact hjun
        · rw [getD_set_ne true hjk] at hun; exact hun
      refine qOp_mono (fun a' h3 => ih (listed.setIfInBounds j true) a' (hcl.set hj) hfree' (ready_mono hr (Ne.symm hji)) h3.1 ?_) h2
      rw [Array.setIfInBounds_comm _ _ hji]
      exact h3.2
theorem wpL_lex2 {n : Nat} {Q : Act → Prop} (hn : lastB2 md ops n = true) (hs : Region.noSelect ops = true) : ∀ (l : List Oper) (k : Nat) (listed : Array Bool) (a : Act), Closed md ops listed → (∀ j, j < l.length → l[j]? = ops[k + j]?) →
    lexL md ops n l.length k listed = true → wpQuiet P ops C Q l a → wpL P md ops C n Q l.length listed a
  | [], _, _, _, _, _, hB, h => by
    simp only [List.length_nil, lexL, Bool.and_eq_true, decide_eq_true_eq] at hB
    exact ⟨hB, h⟩
  | o :: l, k, listed, a, hcl, hl, hB, h => by
    have h0 : ops[k]? = some o := by simpa using (hl 0 (by simp)).symm
    simp only [List.length_cons, lexL, Bool.and_eq_true, decide_eq_true_eq] at hB
    obtain ⟨⟨⟨hk, hr⟩, hf⟩, hB'⟩ := hB
    have hr' : k ∈ Region.ready md ops listed := by simpa using hr
    have hst : qOp P ops C k (wpQuiet P ops C Q l) a := by unfold qOp; simp only [h0]; exact h
    obtain ⟨v, hy, hK⟩ := yieldsIn_of_qOp h0 hst
    exact wpL_first2 hn hk h0 (Region.noSelect_spec hs) l.length listed a hcl (Region.free_spec h0 hf) hr' hy
      (wpL_lex2 hn hs l (k + 1) _ _ (hcl.set hr') (fun j hj => by have := hl (j + 1) (by simpa using hj); simpa [Nat.add_assoc, Nat.add_comm 1 j] using this) hB' hK)
def lastLex2 (ops : Array Oper) (n : Nat) : Bool := lastB2 .any ops n && Region.noSelect ops && lexL .any ops n n 0 (Array.replicate ops.size false) && decide (ops.size = n + 1)
theorem wp_region_lastC {id : Nat} {Q : Exit → Act → World → Prop} {a : Act} {w : World} {ops : Array Oper} (C : World → Prop) (n : Nat) (hm : P.follows .mixedOrders = true) (hB : lastLex2 ops n = true) (hC : C w.drew)
    (h : wpQuiet P ops C (fun a' => ∀ w', C w' → wpOp P ops Q n (fun a w => Q .normal a w) a' w') ops.toList.dropLast a) : (Code.region id ops true).wp P Q a w := by
  simp only [lastLex2, Bool.and_eq_true, decide_eq_true_eq] at hB
  obtain ⟨⟨⟨h1, h2⟩, h3⟩, h4⟩ := hB
  refine wp_region_any hm ?_
  have hlen : ops.toList.dropLast.length = n := by simp [h4]
  have hcl : Closed .any ops (Array.replicate ops.size false) := fun j o _ hj => by
    rw [Array.getD_eq_getD_getElem?, Array.getElem?_replicate] at hj
    split at hj <;> cases hj
  have h5 := wpL_lex2 (P := P) (C := C) (md := .any) h1 h2 ops.toList.dropLast 0 (Array.replicate ops.size false) a hcl (fun j hj => by
    rw [List.getElem?_dropLast, if_pos (by simpa using hj)]
    simp) (by rw [hlen]; exact h3) h
  rw [hlen] at h5
  have h6 := wpAny_of_L (Q' := Q) (fun a' w' hw' hh => hh w' hw') n _ a { w with drawn := w.drawn + 1 } hC h5
  rw [h4] at h6 ⊢
  exact h6
variable {Q : Act → Prop} {a : Act} {o : Oper} {rest : List Oper}
theorem q_val {v : Value} (hg : o.guard = none) (he : ∀ w, C w → (execOp a.eval o).run P w = .ok (.value v) w) (hK : wpQuiet P ops C Q rest (a.put o.dst v)) : wpQuiet P ops C Q (o :: rest) a := by
  unfold wpQuiet
  rw [if_pos (by simp [Region.wanted, hg])]
  refine ⟨v, fun w hw => ?_, hK⟩
  unfold Oper.quietAt
  rw [he w hw]
  exact ⟨rfl, rfl⟩
theorem q_call {v : Value} {f : FuncId} {args : Array Value} (hg : o.guard = none) (he : ∀ w, C w → (execOp a.eval o).run P w = .ok (.enter f args) w) (hc : ∀ w, C w → Calls P f args w fun e w' => e = .returned v ∧ C w') (hK : wpQuiet P ops C Q rest (a.put o.dst v)) : wpQuiet P ops C Q (o :: rest) a := by
  unfold wpQuiet
  rw [if_pos (by simp [Region.wanted, hg])]
  refine ⟨v, fun w hw => ?_, hK⟩
  unfold Oper.quietAt
  rw [he w hw]
  exact ⟨rfl, hc w hw⟩
end
end Go.Lq
