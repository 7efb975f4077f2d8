/-
  Laid together by packg.py of TmJ Lq TmK TmL.
-/
import Derived.Test.YtcakkkafanpjaaaGreatDoorPTmI
import Derived.Test.YtcakkkafanpjaaaGreatDoorQaO
import Derived.Test.YtcakkkafanpjaaaGreatDoorQaE
import Derived.Deep.QuietTactic
import Derived.KernelRfl
namespace Go.Proofs
open Go.RowKit Go.Jv
/-- An object in the making: its block, its rows of keys and of items. -/
structure Tryz.Ob (w : World) (x : Nat) (ks : List ByteArray) (vals : List Value) (kv sv : Value) : Prop where
  vb : Jv.Vb w x 5 false 0 emp sv kv
  keys : w.ownsRow (x + 1) 9 1 kv ks.length (ks.map Value.string)
  items : w.ownsRow (x + 1) 25 1 sv vals.length vals
  len : vals.length = ks.length
theorem Jv.row_form2 {w : World} {B : Nat} {e : TypeId} {size : Nat} {v : Value} {n : Nat} {xs : List Value} (h : w.ownsRow B e size v n xs) : ∃ a c, v = .slice a n c := by
  rcases h.2 with ⟨h1, h2⟩ | ⟨g, cap, cur, h1, _⟩
  · exact ⟨none, 0, by rw [h1, h2]⟩
  · exact ⟨_, cap, h1⟩
theorem Jv.row_at {w : World} {B : Nat} {e : TypeId} {v : Value} {n : Nat} {xs : List Value} (h : w.ownsRow B e 1 v n xs) (h0 : 0 < n) : ∃ g c, v = .slice (some ⟨g, 0, none⟩) n c ∧ B ≤ g ∧ g < w.heap.size ∧ (∀ (j : Nat) u, xs[j]? = some u → w.cell? ⟨g, j, none⟩ = some u) ∧ ∀ j, w.frozen? ⟨g, j, none⟩ = false := by
  rcases h.2 with ⟨h1, h2⟩ | ⟨g, cap, cur, rfl, hB, hg, h1, h2, h3, h4⟩
  · omega
  · refine ⟨g, cap, rfl, hB, (Array.getElem?_eq_some_iff.1 hg).1, fun j u hu => ?_, fun j => frozen_of_row _ _ j _ _ hg⟩
    rw [← h4, List.getElem?_take] at hu
    split at hu
    · rw [cell_of_row _ _ _ _ _ _ hg, ← Array.getElem?_toList]; exact hu
    · cases hu
set_option maxRecDepth 20000 in
set_option maxHeartbeats 2000000 in
theorem Tryz.place_any {w : World} {x : Nat} {ks : List ByteArray} {vals : List Value} {kv sv : Value} (h : Tryz.Ob w x ks vals kv sv) (hr : Rising ks) (hl : ks.length ≤ 64) (key : ByteArray) :
    Calls Tryz.prog 98 #[.pointer (some ⟨x, 0, none⟩), .string key] w fun e w' => e = .returned (.int .i64 (place ks key)) ∧ w = w' := by
  obtain ⟨hp1, hp2, hp3⟩ := place_in hr key
  have c5 := h.vb.c5
  obtain ⟨ad, cap, rfl⟩ := Jv.row_form2 h.keys
  have HK : Hid (∀ i (hi : i < ks.length), ∃ g, ad = some ⟨g, 0, none⟩ ∧ w.cell? ⟨g, i, none⟩ = some (.string ks[i])) := fun i hi => by
    obtain ⟨g, c, e, _, _, hc, _⟩ := Jv.row_at h.keys (by omega)
    injection e with e1 e2 e3
    exact ⟨g, e1, hc i _ (by rw [List.getElem?_map, List.getElem?_eq_getElem hi]; rfl)⟩
  have HP2 : Hid (∀ t (ht : t < ks.length), t < place ks key → Op.bytesLess ks[t].data.toList key.data.toList = true) := hp2
  have HP3 : Hid (∀ t (ht : t < ks.length), place ks key ≤ t → Op.bytesLess ks[t].data.toList key.data.toList = false) := hp3
  clear h hp2 hp3
  generalize place ks key = P at *
  have HL : Hid (ks.length ≤ 64) := hl
  go_enter Tryz.func98, Tryz.ntmps98
  go_wp2
  go_loopw [5] (fun iv wr => ∃ i : Nat, iv = .int .i64 i ∧ i ≤ P ∧ wr = w) (fun iv _ => P - (intOf iv).toNat)
  case atStart => exact ⟨0, rfl, Nat.zero_le _, rfl⟩
  case round =>
    obtain ⟨i, rfl, hi, rfl⟩ := hrel
    have r0 : (0 : Int) ≤ (i : Int) := by omega
    by_cases hil : i < ks.length
    · obtain ⟨g, rfl, hc⟩ := HK.out i hil
      have r1 : (i : Int) < (ks.length : Int) := by omega
      by_cases hiP : i < P
      · have hb := HP2.out i hil hiP
        generalize ks[i] = ki at *
        go_wp2
        · go_roundw
          case rel => exact ⟨i + 1, by simp, hiP, trivial⟩
          case measure => simp [intOf]; omega
        · rename_i hx
          rw [Lib.toList_data, Lib.toList_data, hb] at hx; cases hx
      · obtain rfl : i = P := by omega
        have hb : Op.bytesLess ks[i].toList key.toList = false := by rw [Lib.toList_data, Lib.toList_data]; exact HP3.out i hil (Nat.le_refl _)
        generalize ks[i] = ki at *
        go_wp2
        go_ret
        exact ⟨rfl, rfl⟩
    · obtain rfl : i = P := by omega
      have r1 : ¬ (i : Int) < (ks.length : Int) := by omega
      go_wp2
      go_ret
      exact ⟨rfl, rfl⟩
theorem Jv.row_set {w : World} {B : Nat} {e : TypeId} {n g cap : Nat} {xs : List Value} (h : w.ownsRow B e 1 (.slice (some ⟨g, 0, none⟩) n cap) n xs) (i : Nat) (hi : i < n) (u : Value) : (w.setCell ⟨g, i, none⟩ u).ownsRow B e 1 (.slice (some ⟨g, 0, none⟩) n cap) n (xs.set i u) := by
  refine ⟨by rw [List.length_set]; exact h.1, ?_⟩
  rcases h.2 with ⟨h1, h2⟩ | ⟨g', cap', cur, e1, hB, hg, h1, h2, h3, h4⟩
  · omega
  · injection e1 with e1 e2 e3
    injection e1 with e1
    injection e1 with e1
    subst e1 e3
    have hs := heap_setCell_same w g i cur e u hg
    refine .inr ⟨g, cap, _, rfl, hB, hs, h1, h2, by simpa using h3, ?_⟩
    simp only [Array.toList_setIfInBounds]
    rw [List.take_set, h4]
theorem Jv.row_unset {w : World} {B : Nat} {e : TypeId} {v : Value} {n g : Nat} {xs : List Value} (h : w.ownsRow B e 1 v n xs) (hg : v.ownBlock ≠ some g) (i : Nat) (u : Value) : (w.setCell ⟨g, i, none⟩ u).ownsRow B e 1 v n xs := by
  refine ⟨h.1, ?_⟩
  rcases h.2 with h1 | ⟨g', cap', cur, rfl, hB, hg', rest⟩
  · exact .inl h1
  · exact .inr ⟨g', cap', cur, rfl, hB, (Below.heap_setCell w ⟨g, i, none⟩ u g' (by show g' ≠ g; rintro rfl; exact hg rfl)).trans hg', rest⟩
/-- While a member is put in: those from j on stand one on. -/
def Jv.shifted {α : Type} (l : List α) (j : Nat) (y : α) : List α := l.take j ++ y :: l.drop j
theorem Jv.shifted_len {α : Type} (l : List α) (j : Nat) (y : α) (h : j ≤ l.length) : (Jv.shifted l j y).length = l.length + 1 := by
  unfold Jv.shifted
  rw [List.length_append, List.length_cons, List.length_take, List.length_drop]; omega
theorem Jv.shifted_at {α : Type} (l : List α) (j : Nat) (y : α) (h : j + 1 ≤ l.length) : (Jv.shifted l (j + 1) y)[j]? = l[j]? := by
  unfold Jv.shifted
  rw [List.getElem?_append_left (by rw [List.length_take]; omega), List.getElem?_take, if_pos (by omega)]
theorem Jv.shifted_step {α : Type} (l : List α) (j : Nat) (y : α) (h : j + 1 ≤ l.length) : (Jv.shifted l (j + 1) y).set (j + 1) (l[j]'(by omega)) = Jv.shifted l j (l[j]'(by omega)) := by
  unfold Jv.shifted
  have h1 : (l.take (j + 1)).length = j + 1 := by rw [List.length_take]; omega
  have h2 : l.take (j + 1) = l.take j ++ [l[j]'(by omega)] := by rw [List.take_add_one, List.getElem?_eq_getElem (by omega)]; rfl
  have h3 : l.drop j = l[j]'(by omega) :: l.drop (j + 1) := List.drop_eq_getElem_cons (by omega)
  rw [List.set_append_right _ _ (by omega), h1, Nat.sub_self, List.set_cons_zero, h3, h2, List.append_assoc]
  rfl
theorem Jv.shifted_done {α : Type} (l : List α) (j : Nat) (y z : α) (h : j ≤ l.length) : (Jv.shifted l j y).set j z = insertAt l j z := by
  unfold Jv.shifted insertAt
  have h1 : (l.take j).length = j := by rw [List.length_take]; omega
  rw [List.set_append_right _ _ (by omega), h1, Nat.sub_self, List.set_cons_zero]
end Go.Proofs
namespace Go.Lq
section
variable {P : Program} {ops : Array Oper} {C : World → Prop} {md : Region.Mode}
/-- Operation n is left. -/
def wpL (P : Program) (md : Region.Mode) (ops : Array Oper) (C : World → Prop) (n : Nat) (Q : Act → Prop) : Nat → Array Bool → Act → Prop
  | 0, listed, a => (Region.ready md ops listed = [n] ∧ Region.ready md ops (listed.setIfInBounds n true) = []) ∧ Q a
  | fuel + 1, listed, a => Region.ready md ops listed ≠ [] ∧ ∀ i ∈ Region.ready md ops listed, qOp P ops C i (wpL P md ops C n Q fuel (listed.setIfInBounds i true)) a
theorem wpAny_of_L {n : Nat} {Q : Act → Prop} {Q' : Exit → Act → World → Prop} (hQ : ∀ a w, C w → Q a → wpOp P ops Q' n (fun a' w' => Q' .normal a' w') a w) : ∀ (fuel : Nat) (listed : Array Bool) (a : Act) (w : World), C w →
    wpL P md ops C n Q fuel listed a → wpAny P md ops Q' (fuel + 1) listed a w
  | 0, listed, a, w, hw, h => by
    refine ⟨fun h0 => ?_, fun i hi => ?_⟩
    · rw [h.1.1] at h0
      cases h0
    · rw [h.1.1, List.mem_singleton] at hi
      subst hi
      exact wpOp_mono (fun a' w' hh => ⟨h.1.2, hh⟩) (hQ a w hw h.2)
  | fuel + 1, _, _, _, hw, h => ⟨fun h0 => absurd h0 h.1, fun i hi => wpOp_of_qOp hw (fun a' w' hw' => wpAny_of_L hQ fuel _ a' w' hw') (h.2 i hi)⟩
/-- All others stand ahead of operation n. -/
def lastB (md : Region.Mode) (ops : Array Oper) (n : Nat) : Bool := match ops[n]? with
  | none => false
  | some o => (List.range n).all fun i => o.after.any fun e => Region.binds md e && e.on == i
theorem not_ready {n i : Nat} (hn : lastB md ops n = true) (hi : i < n) {listed : Array Bool} (hr : i ∈ Region.ready md ops listed) : n ∉ Region.ready md ops listed := fun h => by
  obtain ⟨_, o, ho, hall⟩ := mem_ready.1 h
  unfold lastB at hn
  rw [ho] at hn
  have h1 := List.all_eq_true.1 hn i (List.mem_range.2 hi)
  obtain ⟨e, he, hb⟩ := Array.any_eq_true'.1 h1
  simp only [Bool.and_eq_true, beq_iff_eq] at hb
  have h2 := hall e he hb.1
  have h3 := (mem_ready.1 hr).1
  rw [hb.2] at h2
  rcases Nat.lt_or_ge i listed.size with h' | h'
  · simp [h'] at h2 h3; rw [h2] at h3; cases h3
  · simp [Array.getElem?_eq_none h'] at h2
theorem wpL_first {n : Nat} {Q : Act → Prop} {i : Nat} {oi : Oper} {v : Value} (hn : lastB md ops n = true) (hin : i < n) (hi : ops[i]? = some oi) (hsel : ∀ (j : Nat) (o : Oper) cs b, ops[j]? = some o → o.op ≠ .select cs b) :
    ∀ (fuel : Nat) (listed : Array Bool) (a : Act),
      (∀ j oj, ops[j]? = some oj → j ≠ i → listed.getD j true = false → (∀ e ∈ oj.after, Region.binds md e = true → e.on ≠ i) → oi.apart ops oj = true) →
      i ∈ Region.ready md ops listed → YieldsIn P ops C oi v a →
      wpL P md ops C n Q fuel (listed.setIfInBounds i true) (a.put oi.dst v) → wpL P md ops C n Q (fuel + 1) listed a := by
  intro fuel
  induction fuel with
  | zero =>
    intro listed a _ hr hy H
    refine ⟨fun h => (by rw [h] at hr; cases hr), fun j hj => ?_⟩
    by_cases hji : j = i
    · subst hji; exact hy.qOp hi H
    · have := ready_mono hj hji
      rw [H.1.1, List.mem_singleton] at this
      subst this
      exact absurd hj (not_ready hn hin hr)
  | succ fuel ih =>
    intro listed a hfree hr hy H
    refine ⟨fun h => (by rw [h] at hr; cases hr), fun j hj => ?_⟩
    by_cases hji : j = i
    · subst hji; exact hy.qOp hi H
    · have h1 := H.2 j (ready_mono hj hji)
      obtain ⟨hjun, oj, hoj, hall⟩ := mem_ready.1 hj
      have hnot : ∀ e ∈ oj.after, Region.binds md e = true → e.on ≠ i := fun e he hb heq => by
        have h1 := hall e he hb
        have h0 := (mem_ready.1 hr).1
        rw [heq] at h1
        rcases Nat.lt_or_ge i listed.size with h' | h'
        · simp [h'] at h0 h1; rw [h0] at h1; cases h1
        · simp [Array.getElem?_eq_none h'] at h1
      have h2 := qOp_put hoj (hfree j oj hoj hji hjun hnot) (fun cs b => hsel i oi cs b hi) (fun cs b => hsel j oj cs b hoj) hy h1
      have hfree' : ∀ k ok, ops[k]? = some ok → k ≠ i → (listed.setIfInBounds j true).getD k true = false →
          (∀ e ∈ ok.after, Region.binds md e = true → e.on ≠ i) → oi.apart ops ok = true := fun k ok hk hki hun hno => by
        refine hfree k ok hk hki ?_ hno
        by_cases hjk : j = k
        · subst hjk; exact hjun
        · rw [getD_set_ne true hjk] at hun; exact hun
      refine qOp_mono (fun a' h3 => ih (listed.setIfInBounds j true) a' hfree' (ready_mono hr (Ne.symm hji)) h3.1 ?_) h2
      rw [Array.setIfInBounds_comm _ _ hji]
      exact h3.2
/-- In the order of the text. -/
def lexL (md : Region.Mode) (ops : Array Oper) (n : Nat) : Nat → Nat → Array Bool → Bool
  | 0, _, listed => decide (Region.ready md ops listed = [n]) && decide (Region.ready md ops (listed.setIfInBounds n true) = [])
  | fuel + 1, k, listed => decide (k < n) && (Region.ready md ops listed).contains k && Region.free md ops listed k && lexL md ops n fuel (k + 1) (listed.setIfInBounds k true)
theorem wpL_lex {n : Nat} {Q : Act → Prop} (hn : lastB md ops n = true) (hs : Region.noSelect ops = true) : ∀ (l : List Oper) (k : Nat) (listed : Array Bool) (a : Act), (∀ j, j < l.length → l[j]? = ops[k + j]?) →
    lexL md ops n l.length k listed = true → wpQuiet P ops C Q l a → wpL P md ops C n Q l.length listed a
  | [], _, _, _, _, hB, h => by
    simp only [List.length_nil, lexL, Bool.and_eq_true, decide_eq_true_eq] at hB
    exact ⟨hB, h⟩
  | o :: l, k, listed, a, hl, hB, h => by
    have h0 : ops[k]? = some o := by simpa using (hl 0 (by simp)).symm
    simp only [List.length_cons, lexL, Bool.and_eq_true, decide_eq_true_eq] at hB
    obtain ⟨⟨⟨hk, hr⟩, hf⟩, hB'⟩ := hB
    have hst : qOp P ops C k (wpQuiet P ops C Q l) a := by unfold qOp; simp only [h0]; exact h
    obtain ⟨v, hy, hK⟩ := yieldsIn_of_qOp h0 hst
    exact wpL_first hn hk h0 (Region.noSelect_spec hs) l.length listed a (Region.free_spec h0 hf) (by simpa using hr) hy
      (wpL_lex hn hs l (k + 1) _ _ (fun j hj => by have := hl (j + 1) (by simpa using hj); simpa [Nat.add_assoc, Nat.add_comm 1 j] using this) hB' hK)
def lastLex (ops : Array Oper) (n : Nat) : Bool := lastB .any ops n && Region.noSelect ops && lexL .any ops n n 0 (Array.replicate ops.size false) && decide (ops.size = n + 1)
theorem wp_region_last {id : Nat} {Q : Exit → Act → World → Prop} {a : Act} {w : World} {ops : Array Oper} (n : Nat) (hm : P.follows .mixedOrders = true) (hB : lastLex ops n = true)
    (h : wpQuiet P ops (fun w' => ∃ k, w' = w.drewN k) (fun a' => ∀ w', (∃ k, w' = w.drewN k) → wpOp P ops Q n (fun a w => Q .normal a w) a' w') ops.toList.dropLast a) : (Code.region id ops true).wp P Q a w := by
  simp only [lastLex, Bool.and_eq_true, decide_eq_true_eq] at hB
  obtain ⟨⟨⟨h1, h2⟩, h3⟩, h4⟩ := hB
  refine wp_region_any hm ?_
  have hlen : ops.toList.dropLast.length = n := by simp [h4]
  have h5 := wpL_lex (P := P) (C := fun w' => ∃ k, w' = w.drewN k) (md := .any) h1 h2 ops.toList.dropLast 0 (Array.replicate ops.size false) a (fun j hj => by
    rw [List.getElem?_dropLast, if_pos (by simpa using hj)]
    simp) (by rw [hlen]; exact h3) h
  rw [hlen] at h5
  have h6 := wpAny_of_L (Q' := Q) (fun a' w' hw' hh => hh w' hw') n _ a { w with drawn := w.drawn + 1 } ⟨1, rfl⟩ h5
  rw [h4] at h6 ⊢
  exact h6
theorem wpOp_last {Q : Exit → Act → World → Prop} {n : Nat} {K : Act → World → Prop} {a : Act} {w : World} {o : Oper} (h1 : ops[n]? = some o) (h2 : o.guard = none) (h : o.wp P a w K Q) : wpOp P ops Q n K a w := by
  unfold wpOp
  simp only [h1]
  rw [if_pos (by simp [Region.wanted, h2])]
  exact .inl h
end
end Go.Lq
namespace Go.Proofs
open Go.RowKit Go.Jv
/-- The block and the rows, whatever their lengths. -/
structure Tryz.Ow (w : World) (x : Nat) (ks : List ByteArray) (vals : List Value) (kv sv : Value) : Prop where
  vb : Jv.Vb w x 5 false 0 emp sv kv
  keys : w.ownsRow (x + 1) 9 1 kv ks.length (ks.map Value.string)
  items : w.ownsRow (x + 1) 25 1 sv vals.length vals
theorem Tryz.Ow.ne {w : World} {x : Nat} {ks : List ByteArray} {vals : List Value} {kv sv : Value} (h : Tryz.Ow w x ks vals kv sv) (g : Nat) (h1 : kv.ownBlock = some g) (h2 : sv.ownBlock = some g) : False := by
  obtain ⟨c1, f1, e1⟩ := Jv.row_type h.keys g h1
  obtain ⟨c2, f2, e2⟩ := Jv.row_type h.items g h2
  rw [e1] at e2
  injection e2 with e2
  injection e2 with _ e2 _
  revert e2; decide
/-- What a call on an object leaves of all else. -/
structure Jv.PutC (w w' : World) (x : Nat) (kv sv kv' sv' : Value) : Prop where
  os : w'.os = w.os
  tape : w'.tape = w.tape
  output : w'.output = w.output
  size : w.heap.size ≤ w'.heap.size
  block : ∀ k, k < w.heap.size → k ≠ x → kv.ownBlock ≠ some k → sv.ownBlock ≠ some k → w'.heap[k]? = w.heap[k]?
  kn : ∀ g, kv'.ownBlock = some g → kv.ownBlock = some g ∨ w.heap.size ≤ g
  sn : ∀ g, sv'.ownBlock = some g → sv.ownBlock = some g ∨ w.heap.size ≤ g
theorem Jv.PutC.refl (w : World) (x : Nat) (kv sv : Value) : Jv.PutC w w x kv sv kv sv := ⟨rfl, rfl, rfl, Nat.le_refl _, fun _ _ _ _ _ => rfl, fun _ h => .inl h, fun _ h => .inl h⟩
theorem Jv.PutC.trans {w w1 w2 : World} {x : Nat} {kv sv kv1 sv1 kv2 sv2 : Value} (h : Jv.PutC w w1 x kv sv kv1 sv1) (g : Jv.PutC w1 w2 x kv1 sv1 kv2 sv2) : Jv.PutC w w2 x kv sv kv2 sv2 :=
  ⟨g.os.trans h.os, g.tape.trans h.tape, g.output.trans h.output, Nat.le_trans h.size g.size,
   fun k hk h1 h2 h3 => (g.block k (Nat.lt_of_lt_of_le hk h.size) h1 (fun e => by rcases h.kn k e with e | e; exact h2 e; omega) (fun e => by rcases h.sn k e with e | e; exact h3 e; omega)).trans (h.block k hk h1 h2 h3),
   fun k e => by rcases g.kn k e with e | e; exact h.kn k e; exact .inr (Nat.le_trans h.size e),
   fun k e => by rcases g.sn k e with e | e; exact h.sn k e; exact .inr (Nat.le_trans h.size e)⟩
theorem Jv.PutC.same {w w1 W : World} {x : Nat} {kv sv kv1 sv1 : Value} (h : Jv.PutC w w1 x kv sv kv1 sv1) (e1 : W.heap = w1.heap) (e2 : W.os = w1.os) (e3 : W.tape = w1.tape) (e4 : W.output = w1.output) : Jv.PutC w W x kv sv kv1 sv1 :=
  ⟨e2.trans h.os, e3.trans h.tape, e4.trans h.output, by rw [e1]; exact h.size, fun k a b c d => by rw [e1]; exact h.block k a b c d, h.kn, h.sn⟩
/-- A cell of the block, or of one of its rows, is set. -/
theorem Jv.PutC.set {w w1 : World} {x : Nat} {kv sv kv1 sv1 : Value} (h : Jv.PutC w w1 x kv sv kv1 sv1) (g i : Nat) (u : Value) (hg : g = x ∨ kv1.ownBlock = some g ∨ sv1.ownBlock = some g) : Jv.PutC w (w1.setCell ⟨g, i, none⟩ u) x kv sv kv1 sv1 := by
  refine ⟨h.os, h.tape, h.output, by simpa using h.size, fun k a b c d => (Below.heap_setCell w1 ⟨g, i, none⟩ u k (fun e => ?_)).trans (h.block k a b c d), h.kn, h.sn⟩
  have e : k = g := e
  subst e
  rcases hg with e | e | e
  · exact b e
  · rcases h.kn k e with e | e
    · exact c e
    · omega
  · rcases h.sn k e with e | e
    · exact d e
    · omega
/-- The keys' row has grown. -/
theorem Tryz.Ow.growK {w w2 : World} {x : Nat} {ks ks2 : List ByteArray} {vals : List Value} {kv sv kv2 : Value} {ob : Obj} (h : Tryz.Ow w x ks vals kv sv) (hg : (w.alloc ob).grownBy w2 kv.ownBlock) (hr : w2.ownsRow (x + 1) 9 1 kv2 ks2.length (ks2.map Value.string)) (hn : ∀ g, kv2.ownBlock = some g → kv.ownBlock = some g ∨ w.heap.size ≤ g) :
    Tryz.Ow (w2.setCell ⟨x, 5, none⟩ kv2) x ks2 vals kv2 sv ∧ Jv.PutC w (w2.setCell ⟨x, 5, none⟩ kv2) x kv sv kv2 sv := by
  have hx := h.vb.lt
  have hbk := Jv.row_lt h.keys
  have hbs := Jv.row_lt h.items
  have hz : w.heap.size ≤ w2.heap.size := by have := hg.size; simp at this; omega
  have hall : ∀ k, k < w.heap.size → kv.ownBlock ≠ some k → w2.heap[k]? = w.heap[k]? := fun k hk hne => (hg.block k (by simp; omega) (Ne.symm hne)).trans (Below.heap_alloc w ob k hk)
  have hxk : kv.ownBlock ≠ some x := fun e => by have := (hbk x e).1; omega
  refine ⟨⟨(h.vb.keep (hall x hx hxk) hz).set5 _, ?_, ?_⟩, ⟨hg.os, hg.tape, hg.output, by simpa using hz, fun k a b c d => (Below.heap_setCell w2 ⟨x, 5, none⟩ _ k (fun e => b e)).trans (hall k a c), hn, fun g e => .inl e⟩⟩
  · exact Jv.row_unset hr (fun e => by have := (Jv.row_lt hr x e).1; omega) _ _
  · refine Jv.row_unset (Jv.row_move h.items fun g e => ⟨(hbs g e).1, hall g (hbs g e).2 (fun e2 => h.ne g e2 e)⟩) (fun e => by have := (hbs x e).1; omega) _ _
/-- The items' row has grown. -/
theorem Tryz.Ow.growS {w w2 : World} {x : Nat} {ks : List ByteArray} {vals vals2 : List Value} {kv sv sv2 : Value} {ob : Obj} (h : Tryz.Ow w x ks vals kv sv) (hg : (w.alloc ob).grownBy w2 sv.ownBlock) (hr : w2.ownsRow (x + 1) 25 1 sv2 vals2.length vals2) (hn : ∀ g, sv2.ownBlock = some g → sv.ownBlock = some g ∨ w.heap.size ≤ g) :
    Tryz.Ow (w2.setCell ⟨x, 4, none⟩ sv2) x ks vals2 kv sv2 ∧ Jv.PutC w (w2.setCell ⟨x, 4, none⟩ sv2) x kv sv kv sv2 := by
  have hx := h.vb.lt
  have hbk := Jv.row_lt h.keys
  have hbs := Jv.row_lt h.items
  have hz : w.heap.size ≤ w2.heap.size := by have := hg.size; simp at this; omega
  have hall : ∀ k, k < w.heap.size → sv.ownBlock ≠ some k → w2.heap[k]? = w.heap[k]? := fun k hk hne => (hg.block k (by simp; omega) (Ne.symm hne)).trans (Below.heap_alloc w ob k hk)
  have hxk : sv.ownBlock ≠ some x := fun e => by have := (hbs x e).1; omega
  refine ⟨⟨(h.vb.keep (hall x hx hxk) hz).set4 _, ?_, ?_⟩, ⟨hg.os, hg.tape, hg.output, by simpa using hz, fun k a b c d => (Below.heap_setCell w2 ⟨x, 4, none⟩ _ k (fun e => b e)).trans (hall k a d), fun g e => .inl e, hn⟩⟩
  · refine Jv.row_unset (Jv.row_move h.keys fun g e => ⟨(hbk g e).1, hall g (hbk g e).2 (fun e2 => h.ne g e e2)⟩) (fun e => by have := (hbk x e).1; omega) _ _
  · exact Jv.row_unset hr (fun e => by have := (Jv.row_lt hr x e).1; omega) _ _
theorem Tryz.Ow.setK {w : World} {x g n c : Nat} {ks : List ByteArray} {vals : List Value} {sv : Value} (h : Tryz.Ow w x ks vals (.slice (some ⟨g, 0, none⟩) n c) sv) (hn : n = ks.length) (i : Nat) (hi : i < ks.length) (k : ByteArray) : Tryz.Ow (w.setCell ⟨g, i, none⟩ (.string k)) x (ks.set i k) vals (.slice (some ⟨g, 0, none⟩) n c) sv := by
  subst hn
  have hb := Jv.row_lt h.keys g rfl
  refine ⟨h.vb.keep (Below.heap_setCell w ⟨g, i, none⟩ _ x (by show x ≠ g; omega)) (by simp), ?_, Jv.row_unset h.items (fun e => h.ne g rfl e) _ _⟩
  have h1 := Jv.row_set h.keys i hi (.string k)
  rw [List.length_set, List.map_set]
  exact h1
theorem Tryz.Ow.setS {w : World} {x g n c : Nat} {ks : List ByteArray} {vals : List Value} {kv : Value} (h : Tryz.Ow w x ks vals kv (.slice (some ⟨g, 0, none⟩) n c)) (hn : n = vals.length) (i : Nat) (hi : i < vals.length) (u : Value) : Tryz.Ow (w.setCell ⟨g, i, none⟩ u) x ks (vals.set i u) kv (.slice (some ⟨g, 0, none⟩) n c) := by
  subst hn
  have hb := Jv.row_lt h.items g rfl
  refine ⟨h.vb.keep (Below.heap_setCell w ⟨g, i, none⟩ _ x (by show x ≠ g; omega)) (by simp), Jv.row_unset h.keys (fun e => h.ne g e rfl) _ _, ?_⟩
  have h1 := Jv.row_set h.items i hi u
  rw [List.length_set]
  exact h1
theorem Tryz.Ow.heap {w W : World} {x : Nat} {ks : List ByteArray} {vals : List Value} {kv sv : Value} (h : Tryz.Ow w x ks vals kv sv) (e : W.heap = w.heap) : Tryz.Ow W x ks vals kv sv :=
  ⟨h.vb.keep (by rw [e]) (by rw [e]; exact Nat.le_refl _), Jv.row_move h.keys fun g hg => ⟨(Jv.row_lt h.keys g hg).1, by rw [e]⟩, Jv.row_move h.items fun g hg => ⟨(Jv.row_lt h.items g hg).1, by rw [e]⟩⟩
end Go.Proofs
namespace Go.Proofs
open Go.RowKit Go.Jv
theorem Tryz.info_ptrD : (Tryz.prog.info? 25).map (fun i => (i.zero, i.size, i.bytes)) = some (some (.pointer none), 1, 8) := by kernel_rfl
set_option maxRecDepth 20000 in
set_option maxHeartbeats 4000000 in
theorem Tryz.put_any {w : World} {x : Nat} {ks : List ByteArray} {vals : List Value} {kv sv : Value} (h : Tryz.Ow w x ks vals kv sv) (hlen : vals.length = ks.length) (hpv : ∀ v ∈ vals, ∃ p : Option Addr, v = .pointer p) (hl : ks.length ≤ 64) (a : Nat) (ha : a ≤ ks.length) (key : ByteArray) (u : Option Addr) :
    Calls Tryz.prog 99 #[.pointer (some ⟨x, 0, none⟩), .int .i64 a, .string key, .pointer u] w fun e w' => (∃ v, e = .returned v) ∧ ∃ kv' sv', Tryz.Ow w' x (insertAt ks a key) (insertAt vals a (.pointer u)) kv' sv' ∧ Jv.PutC w w' x kv sv kv' sv' := by
  have c4 := h.vb.c4
  have c5 := h.vb.c5
  have f5 := h.vb.f5
  have hx := h.vb.lt
  have HO : Hid (Tryz.Ow w x ks vals kv sv) := h
  have HPV : Hid (∀ v ∈ vals, ∃ p : Option Addr, v = .pointer p) := hpv
  obtain ⟨i0, hi0, hz0, hz1, hz2⟩ := info_parts Tryz.info_str
  obtain ⟨i1, hi1, hy0, hy1, hy2⟩ := info_parts Tryz.info_ptrD
  have hxk : kv.ownBlock ≠ some x := fun e => by have := (Jv.row_lt h.keys x e).1; omega
  have HL : Hid (vals.length = ks.length ∧ ks.length ≤ 64 ∧ a ≤ ks.length) := ⟨hlen, hl, ha⟩
  clear h hlen ha hpv
  go_enter Tryz.func99, Tryz.ntmps99
  go_upto_region 1 with (first
    | (at_builtin; refine wpList_append_lies _ rfl _ _ 34 rfl (x + 1) 9 i0 _ 1 16 Tryz.underlying34 hi0 hz0 hz1 hz2 rfl (by omega) kv ks.length (ks.map Value.string) rfl (Jv.row_alloc HO.out.keys _) ⟨w.heap.size, 0, none⟩ 1 1 [.string ⟨#[]⟩] rfl rfl (World.news_of_block (cs := #[.string ⟨#[]⟩]) (t := 9) (fr := (0, 0)) (heap_alloc_new w _)) (by simp [Value.oneCell']) (by omega) (by unfold maxLen; omega) (by omega) (by simp; omega) (w.heap.size + 1) (by simp) ?_; intro g1 cap1 w2 hown2 hg2 hat2 hlt2; have c52 : w2.cell? ⟨x, 5, none⟩ = some kv := (hg2.cell_far _ (by simp; omega) (Ne.symm hxk)).trans ((((Below.refl w.heap.size w).alloc (Nat.le_refl _) _).cell (p := ⟨x, 5, none⟩) hx).trans c5); have f52 : w2.frozen? ⟨x, 5, none⟩ = false := (hg2.frozen_far _ (by simp; omega) (Ne.symm hxk)).trans ((((Below.refl w.heap.size w).alloc (Nat.le_refl _) _).frozen (p := ⟨x, 5, none⟩) hx).trans f5))
    | fail)
  have HOP : Hid (Tryz.Ow (w2.setCell ⟨x, 5, none⟩ (.slice (some ⟨g1, 0, none⟩) (ks.length + 1) cap1)) x (Jv.shifted ks ks.length emp) vals (.slice (some ⟨g1, 0, none⟩) (ks.length + 1) cap1) sv ∧ Jv.PutC w (w2.setCell ⟨x, 5, none⟩ (.slice (some ⟨g1, 0, none⟩) (ks.length + 1) cap1)) x kv sv (.slice (some ⟨g1, 0, none⟩) (ks.length + 1) cap1) sv) := (by
    have e : Jv.shifted ks ks.length emp = ks ++ [emp] := by unfold Jv.shifted; rw [List.take_length, List.drop_length]
    rw [e]
    refine HO.out.growK hg2 (by rw [List.length_append, List.map_append]; exact hown2) (fun g e => ?_)
    injection e with e
    rcases hat2 with h1 | h1
    · left; rw [h1]; exact congrArg some e
    · right; have e : g1 = g := e; omega)
  generalize w2.setCell ⟨x, 5, none⟩ (.slice (some ⟨g1, 0, none⟩) (ks.length + 1) cap1) = W1 at *
  obtain ⟨O1, P1⟩ := HOP.out
  have HO1 : Hid (Tryz.Ow W1 x (Jv.shifted ks ks.length emp) vals (.slice (some ⟨g1, 0, none⟩) (ks.length + 1) cap1) sv) := O1
  have HP1 : Hid (Jv.PutC w W1 x kv sv (.slice (some ⟨g1, 0, none⟩) (ks.length + 1) cap1) sv) := P1
  have c41 := O1.vb.c4
  have f41 := O1.vb.f4
  have hx1 := O1.vb.lt
  have hxs : sv.ownBlock ≠ some x := fun e => by have := (Jv.row_lt O1.items x e).1; omega
  clear HOP O1 P1 hown2 hg2 hat2 hlt2 c52 f52 c4 c5 f5 hx hxk hz0 hz1 hz2 hi0 HO
  have hlv : vals.length ≤ 64 := by have := HL.out; omega
  go_upto_region 2 with (first
    | (at_builtin; refine wpList_append_lies _ rfl _ _ 44 rfl (x + 1) 25 i1 _ 1 8 Tryz.underlying44 hi1 hy0 hy1 hy2 rfl (by omega) sv vals.length vals rfl (Jv.row_alloc HO1.out.items _) ⟨W1.heap.size, 0, none⟩ 1 1 [.pointer none] rfl rfl (World.news_of_block (cs := #[.pointer none]) (t := 25) (fr := (0, 0)) (heap_alloc_new W1 _)) (by simp [Value.oneCell']) (by omega) (by unfold maxLen; omega) (by omega) (by simp; omega) (W1.heap.size + 1) (by simp) ?_; intro g2 cap2 w3 hown3 hg3 hat3 hlt3; have c43 : w3.cell? ⟨x, 4, none⟩ = some sv := (hg3.cell_far _ (by simp; omega) (Ne.symm hxs)).trans ((((Below.refl W1.heap.size W1).alloc (Nat.le_refl _) _).cell (p := ⟨x, 4, none⟩) hx1).trans c41); have f43 : w3.frozen? ⟨x, 4, none⟩ = false := (hg3.frozen_far _ (by simp; omega) (Ne.symm hxs)).trans ((((Below.refl W1.heap.size W1).alloc (Nat.le_refl _) _).frozen (p := ⟨x, 4, none⟩) hx1).trans f41))
    | fail)
  have HOP : Hid (Tryz.Ow (w3.setCell ⟨x, 4, none⟩ (.slice (some ⟨g2, 0, none⟩) (vals.length + 1) cap2)) x (Jv.shifted ks ks.length emp) (Jv.shifted vals vals.length (.pointer none)) (.slice (some ⟨g1, 0, none⟩) (ks.length + 1) cap1) (.slice (some ⟨g2, 0, none⟩) (vals.length + 1) cap2) ∧ Jv.PutC W1 (w3.setCell ⟨x, 4, none⟩ (.slice (some ⟨g2, 0, none⟩) (vals.length + 1) cap2)) x (.slice (some ⟨g1, 0, none⟩) (ks.length + 1) cap1) sv (.slice (some ⟨g1, 0, none⟩) (ks.length + 1) cap1) (.slice (some ⟨g2, 0, none⟩) (vals.length + 1) cap2)) := (by
    have e : Jv.shifted vals vals.length (.pointer none) = vals ++ [.pointer none] := by unfold Jv.shifted; rw [List.take_length, List.drop_length]
    rw [e]
    refine HO1.out.growS hg3 (by rw [List.length_append]; exact hown3) (fun g e => ?_)
    injection e with e
    rcases hat3 with h1 | h1
    · left; rw [h1]; exact congrArg some e
    · right; have e : g2 = g := e; omega)
  generalize w3.setCell ⟨x, 4, none⟩ (.slice (some ⟨g2, 0, none⟩) (vals.length + 1) cap2) = W2 at *
  have HO2 : Hid (Tryz.Ow W2 x (Jv.shifted ks ks.length emp) (Jv.shifted vals vals.length (.pointer none)) (.slice (some ⟨g1, 0, none⟩) (ks.length + 1) cap1) (.slice (some ⟨g2, 0, none⟩) (vals.length + 1) cap2)) := HOP.out.1
  have HP2 : Hid (Jv.PutC w W2 x kv sv (.slice (some ⟨g1, 0, none⟩) (ks.length + 1) cap1) (.slice (some ⟨g2, 0, none⟩) (vals.length + 1) cap2)) := HP1.out.trans HOP.out.2
  clear HOP HO1 HP1 hown3 hg3 hat3 hlt3 c43 f43 c41 f41 hx1 hxs hy0 hy1 hy2 hi1
  have c52 := HO2.out.vb.c5
  have hlen := HL.out.1
  rw [hlen] at HO2 HP2 hlv
  have HLN : Hid (vals.length = ks.length) := hlen
  clear hlen
  go_wp2
  go_loopw [8] (fun jv wr => ∃ j y z, jv = .int .i64 ((j : Nat) : Int) ∧ a ≤ j ∧ j ≤ ks.length ∧ Hid (Tryz.Ow wr x (Jv.shifted ks j y) (Jv.shifted vals j z) (.slice (some ⟨g1, 0, none⟩) (ks.length + 1) cap1) (.slice (some ⟨g2, 0, none⟩) (ks.length + 1) cap2)) ∧ Hid (Jv.PutC w wr x kv sv (.slice (some ⟨g1, 0, none⟩) (ks.length + 1) cap1) (.slice (some ⟨g2, 0, none⟩) (ks.length + 1) cap2))) (fun jv _ => (intOf jv).toNat)
  case atStart => exact ⟨ks.length, emp, .pointer none, by simp, HL.out.2.2, Nat.le_refl _, HO2.out, HP2.out⟩
  case round =>
    clear HO2 HP2 c52
    obtain ⟨j, y, z, rfl, hja, hjn, HO, HP⟩ := hrel
    have c4 := HO.out.vb.c4
    have c5 := HO.out.vb.c5
    have hkl := Jv.shifted_len ks j y hjn
    have hvl := Jv.shifted_len vals j z (by rw [HLN.out]; exact hjn)
    obtain ⟨gk, ck, ek, _, _, rk, fk⟩ := Jv.row_at HO.out.keys (by rw [hkl]; omega)
    obtain ⟨gs, cs, es, _, _, rs, fs⟩ := Jv.row_at HO.out.items (by rw [hvl]; omega)
    have hgk : gk = g1 := by
      injection ek with e1 _ _
      injection e1 with e1
      injection e1 with e1
      exact e1.symm
    have hgs : gs = g2 := by
      injection es with e1 _ _
      injection e1 with e1
      injection e1 with e1
      exact e1.symm
    subst hgk hgs
    clear ek es
    clear hkl hvl
    by_cases hgt : a < j
    · obtain ⟨k, rfl⟩ : ∃ k, j = k + 1 := ⟨j - 1, by omega⟩
      have r0 : (a : Int) < ((k + 1 : Nat) : Int) := by omega
      have hkv : k < vals.length := by rw [HLN.out]; omega
      have e1 := rk k (.string (ks[k]'(by omega))) (by rw [List.getElem?_map, Jv.shifted_at ks k y hjn, List.getElem?_eq_getElem (by omega)]; rfl)
      have e2 := rs k (vals[k]'hkv) (by rw [Jv.shifted_at vals k z (by omega), List.getElem?_eq_getElem hkv])
      have fk1 := fk (k + 1)
      have fs1 := fs (k + 1)
      have ek1 := HO.out.keys.cells (g := gk) rfl
      have hk2 : k < ks.length := by omega
      have c1 : wr.cell? ⟨gk, k + 1, none⟩ ≠ none := by
        have h9 := Jv.row_lt HO.out.keys gk rfl
        have := rk (k + 1) (((Jv.shifted ks (k + 1) y).map Value.string)[k + 1]'(by rw [List.length_map, Jv.shifted_len ks (k + 1) y hjn]; omega)) (List.getElem?_eq_getElem _)
        rw [this]; simp
      obtain ⟨ov, c1⟩ := Option.ne_none_iff_exists'.1 c1
      have qw : IntKind.i64.wrap (((k + 1 : Nat) : Int) - 1) = (k : Int) := by rw [IntKind.wrap_i64]; omega
      have qw2 : IntKind.i64.wrap (k : Int) = (k : Int) := by rw [IntKind.wrap_i64]; omega
      have q0 : (0 : Int) ≤ (k : Int) := by omega
      have q1 : (k : Int) < (ks.length : Int) + 1 := by omega
      have q2 : (k : Int) + 1 < (ks.length : Int) + 1 := by omega
      have q3 : (k : Int) + 1 ≤ 64 := by omega
      have q4 : (k : Int) < (ks.length : Int) := by omega
      have q5 : (0 : Int) ≤ (k : Int) + 1 := by omega
      have q6 : ((k : Int) + 1).toNat = k + 1 := by omega
      have HV5 : Hid (∀ W : World, W.heap = wr.heap → Tryz.Ow (W.setCell ⟨gk, k + 1, none⟩ (.string ks[k])) x (Jv.shifted ks k ks[k]) (Jv.shifted vals (k + 1) z) (.slice (some ⟨gk, 0, none⟩) (ks.length + 1) cap1) (.slice (some ⟨gs, 0, none⟩) (ks.length + 1) cap2)) := fun W e => (by
        have h1 := (HO.out.heap e).setK (by rw [Jv.shifted_len ks (k + 1) y hjn]) (k + 1) (by rw [Jv.shifted_len ks (k + 1) y hjn]; omega) ks[k]
        rw [Jv.shifted_step ks k y hjn] at h1
        exact h1)
      have HP5 : Hid (∀ W : World, W.heap = wr.heap → W.os = wr.os → W.tape = wr.tape → W.output = wr.output → Jv.PutC w (W.setCell ⟨gk, k + 1, none⟩ (.string ks[k])) x kv sv (.slice (some ⟨gk, 0, none⟩) (ks.length + 1) cap1) (.slice (some ⟨gs, 0, none⟩) (ks.length + 1) cap2)) := fun W e1 e2 e3 e4 => (HP.out.same e1 e2 e3 e4).set _ _ _ (.inr (.inl rfl))
      clear rk rs fk fs ek1
      go_upto_region 5 with (fail)
      (refine Go.Lq.wp_region_last 14 (by kernel_rfl) (by kernel_rfl) ?_; dsimp only [List.dropLast]; (repeat (quiet_step (fail))); refine wpQuiet_nil ?_; intro _ hw'; obtain ⟨nq, hw''⟩ := hw'; subst hw''; refine Go.Lq.wpOp_last rfl rfl ?_; unfold Oper.wp; go_simp)
      have HO6 : Hid (Tryz.Ow ((wr.drewN nq).setCell ⟨gk, k + 1, none⟩ (.string ks[k])) x (Jv.shifted ks k ks[k]) (Jv.shifted vals (k + 1) z) (.slice (some ⟨gk, 0, none⟩) (ks.length + 1) cap1) (.slice (some ⟨gs, 0, none⟩) (ks.length + 1) cap2)) := HV5.out _ (by rfl)
      have HP6 : Hid (Jv.PutC w ((wr.drewN nq).setCell ⟨gk, k + 1, none⟩ (.string ks[k])) x kv sv (.slice (some ⟨gk, 0, none⟩) (ks.length + 1) cap1) (.slice (some ⟨gs, 0, none⟩) (ks.length + 1) cap2)) := HP5.out _ (by rfl) (by rfl) (by rfl) (by rfl)
      clear HV5 HP5 HO HP c4 c5 e1 e2 fk1 fs1 c1 ov
      generalize (wr.drewN nq).setCell ⟨gk, k + 1, none⟩ (.string ks[k]) = W6 at *
      have c4 := HO6.out.vb.c4
      have hvl6 := Jv.shifted_len vals (k + 1) z (by rw [HLN.out]; exact hjn)
      obtain ⟨gs', cs, es, _, _, rs, fs⟩ := Jv.row_at HO6.out.items (by rw [hvl6]; omega)
      have hgs : gs' = gs := by
        injection es with e1 _ _
        injection e1 with e1
        injection e1 with e1
        exact e1.symm
      subst hgs
      clear es
      have e2 := rs k (vals[k]'hkv) (by rw [Jv.shifted_at vals k z (by omega), List.getElem?_eq_getElem hkv])
      have fs1 := fs (k + 1)
      have c1 : W6.cell? ⟨gs', k + 1, none⟩ ≠ none := by
        have := rs (k + 1) ((Jv.shifted vals (k + 1) z)[k + 1]'(by rw [hvl6]; omega)) (List.getElem?_eq_getElem _)
        rw [this]; simp
      obtain ⟨ov, c1⟩ := Option.ne_none_iff_exists'.1 c1
      have HV7 : Hid (∀ W : World, W.heap = W6.heap → Tryz.Ow (W.setCell ⟨gs', k + 1, none⟩ (vals[k]'hkv)) x (Jv.shifted ks k ks[k]) (Jv.shifted vals k (vals[k]'hkv)) (.slice (some ⟨gk, 0, none⟩) (ks.length + 1) cap1) (.slice (some ⟨gs', 0, none⟩) (ks.length + 1) cap2)) := fun W e => (by
        have h1 := (HO6.out.heap e).setS (by rw [hvl6, HLN.out]) (k + 1) (by rw [hvl6]; omega) (vals[k]'hkv)
        rw [Jv.shifted_step vals k z (by omega)] at h1
        exact h1)
      have HP7 : Hid (∀ W : World, W.heap = W6.heap → W.os = W6.os → W.tape = W6.tape → W.output = W6.output → Jv.PutC w (W.setCell ⟨gs', k + 1, none⟩ (vals[k]'hkv)) x kv sv (.slice (some ⟨gk, 0, none⟩) (ks.length + 1) cap1) (.slice (some ⟨gs', 0, none⟩) (ks.length + 1) cap2)) := fun W e1 e2 e3 e4 => (HP6.out.same e1 e2 e3 e4).set _ _ _ (.inr (.inr rfl))
      clear rs fs hvl6
      obtain ⟨ak, hak⟩ := HPV.out (vals[k]'hkv) (List.getElem_mem hkv)
      rw [hak] at e2 HV7 HP7
      clear hak
      go_upto_region 6 with (fail)
      (refine Go.Lq.wp_region_last 14 (by kernel_rfl) (by kernel_rfl) ?_; dsimp only [List.dropLast]; (repeat (quiet_step (fail))); refine wpQuiet_nil ?_; intro _ hw'; obtain ⟨nq, hw''⟩ := hw'; subst hw''; refine Go.Lq.wpOp_last rfl rfl ?_; unfold Oper.wp; go_simp)
      go_wp2
      go_roundw
      case rel => exact ⟨k, ks[k], .pointer ak, by simp, by omega, by omega, HV7.out _ (by rfl), HP7.out _ (by rfl) (by rfl) (by rfl) (by rfl)⟩
      case measure => simp [intOf]
    · obtain rfl : a = j := by omega
      have hkl := Jv.shifted_len ks a y hjn
      have hvl := Jv.shifted_len vals a z (by rw [HLN.out]; exact hjn)
      have fk1 := fk a
      have c1 : wr.cell? ⟨gk, a, none⟩ ≠ none := by
        have := rk a (((Jv.shifted ks a y).map Value.string)[a]'(by rw [List.length_map, hkl]; omega)) (List.getElem?_eq_getElem _)
        rw [this]; simp
      obtain ⟨ov, c1⟩ := Option.ne_none_iff_exists'.1 c1
      have r0 : ¬ (a : Int) < (a : Int) := by omega
      have q0 : (0 : Int) ≤ (a : Int) := by omega
      have q1 : (a : Int) < (ks.length : Int) + 1 := by omega
      have HV8 : Hid (Tryz.Ow (wr.setCell ⟨gk, a, none⟩ (.string key)) x (insertAt ks a key) (Jv.shifted vals a z) (.slice (some ⟨gk, 0, none⟩) (ks.length + 1) cap1) (.slice (some ⟨gs, 0, none⟩) (ks.length + 1) cap2)) := (by
        have h1 := HO.out.setK (by rw [hkl]) a (by rw [hkl]; omega) key
        rw [Jv.shifted_done ks a y key hjn] at h1
        exact h1)
      have HP8 : Hid (Jv.PutC w (wr.setCell ⟨gk, a, none⟩ (.string key)) x kv sv (.slice (some ⟨gk, 0, none⟩) (ks.length + 1) cap1) (.slice (some ⟨gs, 0, none⟩) (ks.length + 1) cap2)) := HP.out.set _ _ _ (.inr (.inl rfl))
      clear rk rs fk fs hkl
      go_upto_region 8 with (fail)
      clear c4 c5 c1 fk1 HO HP
      generalize wr.setCell ⟨gk, a, none⟩ (.string key) = W8 at *
      have c4 := HV8.out.vb.c4
      obtain ⟨gs', cs, es, _, _, rs, fs⟩ := Jv.row_at HV8.out.items (by rw [hvl]; omega)
      have hgs : gs' = gs := by
        injection es with e1 _ _
        injection e1 with e1
        injection e1 with e1
        exact e1.symm
      subst hgs
      clear es
      have fs1 := fs a
      have c1 : W8.cell? ⟨gs', a, none⟩ ≠ none := by
        have := rs a ((Jv.shifted vals a z)[a]'(by rw [hvl, HLN.out]; omega)) (List.getElem?_eq_getElem _)
        rw [this]; simp
      obtain ⟨ov2, c1⟩ := Option.ne_none_iff_exists'.1 c1
      have HV9 : Hid (Tryz.Ow (W8.setCell ⟨gs', a, none⟩ (.pointer u)) x (insertAt ks a key) (insertAt vals a (.pointer u)) (.slice (some ⟨gk, 0, none⟩) (ks.length + 1) cap1) (.slice (some ⟨gs', 0, none⟩) (ks.length + 1) cap2)) := (by
        have h1 := HV8.out.setS (by rw [hvl, HLN.out]) a (by rw [hvl, HLN.out]; omega) (.pointer u)
        rw [Jv.shifted_done vals a z _ (by rw [HLN.out]; exact hjn)] at h1
        exact h1)
      have HP9 : Hid (Jv.PutC w (W8.setCell ⟨gs', a, none⟩ (.pointer u)) x kv sv (.slice (some ⟨gk, 0, none⟩) (ks.length + 1) cap1) (.slice (some ⟨gs', 0, none⟩) (ks.length + 1) cap2)) := HP8.out.set _ _ _ (.inr (.inr rfl))
      clear rs fs hvl
      go_wp2
      exact bodyPost_end (results_none rfl _ _ _) rfl ⟨⟨_, rfl⟩, _, _, HV9.out, HP9.out⟩
end Go.Proofs
