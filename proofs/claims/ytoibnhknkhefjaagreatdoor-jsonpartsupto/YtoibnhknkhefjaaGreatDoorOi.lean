/-
  OfList; Get, Look, Item; OfMap and OfList of two, whatever blocks may be; append keeps what was there.
-/
import Derived.Test.YtoibnhknkhefjaaGreatDoorOf
import Derived.Test.YtoibnhknkhefjaaGreatDoorJsm
import Derived.Test.YtoibnhknkhefjaaGreatDoorJx
namespace Go.Proofs
open Go.RowKit Go.Jv Go.Sort Go.Maps
def Jv.lstC (iv : Value) : Array Value := #[.int .i64 4, .bool false, .int .i64 0, .string ⟨#[]⟩, .slice none 0 0, iv]
/-- The list that OfList makes, so far. -/
structure Tryz.Ol (w : World) (os : List (Option Nat)) (gL xv : Nat) (wr : World) (k : Nat) (iv : Value) (xs : List Nat) : Prop where
  src : ∀ (i : Nat) (o : Option Nat), os[i]? = some o → wr.cell? ⟨gL, i, none⟩ = some (Jv.ptrV o)
  obj : wr.heap[xv]? = some (.cells (Jv.lstC iv) 67 (0, 0))
  items : wr.ownsRow (xv + 1) 29 1 iv k (xs.map fun x => .pointer (some ⟨x, 0, none⟩))
  its : ∀ (i : Nat) (o : Option Nat) (y : Nat), os[i]? = some o → xs[i]? = some y → o = some y ∨ (o = none ∧ xv < y ∧ wr.heap[y]? = some (.cells Jv.nullC 67 (0, 0)))
  bel : Below w.heap.size w wr
  lo : gL < xv ∧ w.heap.size ≤ xv
section
variable {w : World} {os : List (Option Nat)} {gL xv : Nat} {wr : World} {k : Nat} {iv : Value} {xs : List Nat}
theorem Tryz.Ol.lt (h : Tryz.Ol w os gL xv wr k iv xs) : xv < wr.heap.size := (Array.getElem?_eq_some_iff.1 h.obj).1
theorem Tryz.Ol.below {W : World} (h : Tryz.Ol w os gL xv wr k iv xs) (hb : Below wr.heap.size wr W) : Tryz.Ol w os gL xv W k iv xs := by
  have hx := h.lt
  have hlo := h.lo
  refine ⟨fun i o e => (hb.cell (p := ⟨gL, i, none⟩) (by show gL < _; omega)).trans (h.src i o e), (hb.block _ hx).trans h.obj, Jv.rowBel h.items hb, fun i o y h1 h2 => ?_, h.bel.trans (hb.mono (by omega)), hlo⟩
  rcases h.its i o y h1 h2 with h3 | ⟨h3, h4, h5⟩
  · exact .inl h3
  · exact .inr ⟨h3, h4, (hb.block _ (Array.getElem?_eq_some_iff.1 h5).1).trans h5⟩
theorem Tryz.Ol.item {W : World} {o : Option Nat} {y : Nat} {ob : Obj} {g cap : Nat} (h : Tryz.Ol w os gL xv wr k iv xs) (hs : os[k]? = some o) (hxs : xs.length = k) (hy : o = some y ∨ (o = none ∧ xv < y ∧ wr.heap[y]? = some (.cells Jv.nullC 67 (0, 0)))) (hg : (wr.alloc ob).grownBy W iv.ownBlock) (ho : W.ownsRow (xv + 1) 29 1 (.slice (some ⟨g, 0, none⟩) (k + 1) cap) (k + 1) ((xs.map fun x => .pointer (some ⟨x, 0, none⟩)) ++ [.pointer (some ⟨y, 0, none⟩)])) :
    Tryz.Ol w os gL xv (W.setCell ⟨xv, 5, none⟩ (.slice (some ⟨g, 0, none⟩) (k + 1) cap)) (k + 1) (.slice (some ⟨g, 0, none⟩) (k + 1) cap) (xs ++ [y]) := by
  have hx := h.lt
  have hlo := h.lo
  have hkl := Jv.row_lo h.items
  have hWs : wr.heap.size < W.heap.size := by have := hg.size; simp at this; omega
  have hW : ∀ k, k < wr.heap.size → iv.ownBlock ≠ some k → W.heap[k]? = wr.heap[k]? := fun k hk e => (hg.block k (by simp; omega) (fun e1 => e e1.symm)).trans (Below.heap_alloc wr ob k hk)
  have hset' : ∀ (u : Value) k, k ≠ xv → (W.setCell ⟨xv, 5, none⟩ u).heap[k]? = W.heap[k]? := fun u k hk => Below.heap_setCell W ⟨xv, 5, none⟩ u k (by show k ≠ xv; exact hk)
  have hrn : ∀ k, k ≤ xv → iv.ownBlock ≠ some k := fun k hk e => by have := hkl k e; omega
  refine ⟨fun i o' e => ?_, ?_, ?_, fun i o' y' h1 h2 => ?_, ⟨hg.os.trans h.bel.os, hg.tape.trans h.bel.tape, hg.output.trans h.bel.output, by show w.heap.size ≤ (W.setCell _ _).heap.size; have := h.bel.size; simp; omega, fun k hk => (hset' _ k (by omega)).trans ((hW k (by have := h.bel.size; omega) (hrn k (by omega))).trans (h.bel.block k hk))⟩, hlo⟩
  · exact (World.cell?_of_block ((hset' _ gL (by omega)).trans (hW gL (by omega) (hrn gL (by omega))))).trans (h.src i o' e)
  · rw [heap_setCell_same W _ _ _ _ _ ((hW xv hx (hrn xv (by omega))).trans h.obj)]; rfl
  · rw [List.map_append]
    exact Jv.row_heapZ ho fun k hk => hset' _ k (by have := Jv.row_lo ho k hk; omega)
  · have key : o' = some y' ∨ (o' = none ∧ xv < y' ∧ wr.heap[y']? = some (.cells Jv.nullC 67 (0, 0))) := by
      by_cases hi : i < xs.length
      · rw [List.getElem?_append_left hi] at h2
        exact h.its i o' y' h1 h2
      · rw [List.getElem?_append_right (by omega)] at h2
        have hi2 : i = k := by
          have := (List.getElem?_eq_some_iff.1 h2).1
          simp at this
          omega
        subst hi2
        rw [hxs, Nat.sub_self] at h2
        simp at h2
        rw [hs] at h1
        cases h1
        rw [← h2]
        exact hy
    rcases key with h3 | ⟨h3, h4, h5⟩
    · exact .inl h3
    · exact .inr ⟨h3, h4, (hset' _ y' (by omega)).trans ((hW y' (Array.getElem?_eq_some_iff.1 h5).1 (Jv.rowTy h.items h5 (by decide))).trans h5)⟩
theorem Tryz.Ol.tr (h : Tryz.Ol w os gL xv wr os.length iv xs) (hxs : xs.length = os.length) (vs : List V) (hvs : vs.length = os.length) (hv : ∀ (i : Nat) (o : Option Nat) (y : Nat) (v : V), os[i]? = some o → xs[i]? = some y → vs[i]? = some v → Tryz.Tr wr (fun g => g < wr.heap.size) v y) :
    Tryz.Tr wr (fun g => g < wr.heap.size) (.list vs) xv := by
  unfold Tryz.Tr
  refine ⟨h.lt, iv, xs, Jv.vb_of h.obj, ⟨?_, fun k hk => (Jv.row_lo h.items k hk).2⟩, Tryz.trs_of vs xs (by omega) fun i v y h1 h2 => ?_⟩
  · have := h.items
    rw [← hxs] at this
    unfold Jv.ptrs
    rw [List.length_map]
    exact Jv.row_move this fun g hg => ⟨Nat.zero_le _, rfl⟩
  · have hi : i < os.length := by have := (List.getElem?_eq_some_iff.1 h1).1; omega
    exact hv i _ y v (List.getElem?_eq_getElem hi) h2 h1
end
set_option maxHeartbeats 2000000 in
set_option maxRecDepth 20000 in
theorem Tryz.ofList_any (os : List (Option Nat)) (hol : os.length ≤ 1000000) (h0 : 0 < os.length) (gL cap : Nat) (w : World) (hgl : gL < w.heap.size) (hsrc : ∀ (i : Nat) (o : Option Nat), os[i]? = some o → w.cell? ⟨gL, i, none⟩ = some (Jv.ptrV o)) :
    Calls Tryz.prog 23 #[.slice (some ⟨gL, 0, none⟩) os.length cap] w fun e w' => ∃ xv iv xs, e = .returned (.pointer (some ⟨xv, 0, none⟩)) ∧ xs.length = os.length ∧ Tryz.Ol w os gL xv w' os.length iv xs := by
  obtain ⟨pm, hpm, hp0, hp1, hp2⟩ := info_parts Tryz.info_ptrO
  have hal : Below w.heap.size w (w.alloc (.cells (Jv.lstC (.slice none 0 0)) 67)) := (Below.refl _ _).alloc (Nat.le_refl _) _
  have HOL0 : Hid (Tryz.Ol w os gL w.heap.size (w.alloc (.cells (Jv.lstC (.slice none 0 0)) 67)) 0 (.slice none 0 0) []) := ⟨fun i o e => (hal.cell (p := ⟨gL, i, none⟩) hgl).trans (hsrc i o e), heap_alloc_new w _, World.ownsRow_nil _ _ _ _, fun i o y _ h => by simp at h, hal, hgl, Nat.le_refl _⟩
  clear hal hsrc
  go_enter Tryz.func23, Tryz.ntmps23
  go_wp2
  generalize hxv : w.heap.size = xv at *
  go_loopw [10] (fun i wr => ∃ (k : Nat) (iv : Value) (xs : List Nat), i = .int .i64 k ∧ k ≤ os.length ∧ xs.length = k ∧ Tryz.Ol w os gL xv wr k iv xs) (fun i _ => os.length - (intOf i).toNat)
  case atStart => exact ⟨0, _, [], rfl, by omega, rfl, HOL0.out⟩
  case round =>
    obtain ⟨k, iv, xs, rfl, hk, hxs, hol1⟩ := hrel
    clear HOL0
    by_cases hkl : k < os.length
    · have q0 : (k : Int) < (os.length : Int) := by omega
      obtain ⟨o, ho⟩ : ∃ o, os[k]? = some o := ⟨_, List.getElem?_eq_getElem hkl⟩
      have c0 : wr.cell? ⟨gL, k, none⟩ = some (Jv.ptrV o) := hol1.src k o ho
      have c5 : wr.cell? ⟨xv, 5, none⟩ = some iv := cell_of_row _ _ 5 _ _ _ hol1.obj
      have f5 : wr.frozen? ⟨xv, 5, none⟩ = false := frozen_of_row _ _ 5 _ _ hol1.obj
      have hx5 : xv < wr.heap.size := hol1.lt
      have hix : iv.ownBlock ≠ some xv := fun e => by have := Jv.row_lo hol1.items xv e; omega
      have hpr : ∀ W : World, W.heap = wr.heap → W.os = wr.os → W.tape = wr.tape → W.output = wr.output → Calls Tryz.prog 42 #[Jv.ptrV o] W fun e w' => ∃ y, e = .returned (.pointer (some ⟨y, 0, none⟩)) ∧ Below wr.heap.size wr w' ∧ (o = some y ∨ (o = none ∧ wr.heap.size ≤ y ∧ w'.heap[y]? = some (.cells Jv.nullC 67 (0, 0)))) := fun W e1 e2 e3 e4 =>
        (Tryz.present_any o W).mono fun _ _ ⟨y, q1, q2, q3⟩ => ⟨y, q1, ⟨q2.os.trans e2, q2.tape.trans e3, q2.output.trans e4, by rw [← e1]; exact q2.size, fun i hi => (q2.block i (by rw [e1]; exact hi)).trans (by rw [e1])⟩, by rw [← e1]; exact q3⟩
      have HITEMS : Hid (wr.ownsRow (xv + 1) 29 1 iv k (xs.map fun x => .pointer (some ⟨x, 0, none⟩))) := hol1.items
      have HOL : Hid (Tryz.Ol w os gL xv wr k iv xs) := hol1
      have hkb : k ≤ 1000000 := by omega
      clear hol1
      generalize hpv : Jv.ptrV o = pv at *
      go_upto_region 5 with fail
      go_region_law (first
        | (go_simp; refine (hpr _ (by rfl) (by rfl) (by rfl) (by rfl)).mono ?_; rintro e6 w6 ⟨y, rfl, hb6, hy6⟩; have c56 : w6.cell? ⟨xv, 5, none⟩ = some iv := (hb6.cell (p := ⟨xv, 5, none⟩) hx5).trans c5; have hx6 : xv < w6.heap.size := Nat.lt_of_lt_of_le hx5 hb6.size)
        | (refine step_append_lies _ (by rfl) _ _ _ (by rfl) (xv + 1) 29 pm _ 1 8 Tryz.underlying65 hpm hp0 hp1 hp2 rfl (by omega) iv k (xs.map fun x => .pointer (some ⟨x, 0, none⟩)) (by rfl) (World.ownsRow.alloc (Jv.rowBel HITEMS.out hb6) _) ⟨w6.heap.size, 0, none⟩ 1 1 [.pointer (some ⟨y, 0, none⟩)] (by rfl) (by rfl) (World.news_of_block (cs := #[.pointer (some ⟨y, 0, none⟩)]) (t := 29) (fr := (0, 0)) (heap_alloc_new w6 _)) (by simp [Value.oneCell']) (by omega) (by unfold maxLen; omega) (by omega) (by simp; omega) (w6.heap.size + 1) (by simp) ?_; intro g7 cap7 w7 hown7 hgrow7 hat7 hlt7; have f57 : w7.frozen? ⟨xv, 5, none⟩ = false := (hgrow7.frozen_far _ (by simp; omega) (Ne.symm hix)).trans ((((Below.refl w6.heap.size w6).alloc (Nat.le_refl _) _).frozen (p := ⟨xv, 5, none⟩) hx6).trans ((hb6.frozen (p := ⟨xv, 5, none⟩) hx5).trans f5)); have c57 : w7.cell? ⟨xv, 5, none⟩ = some iv := (hgrow7.cell_far _ (by simp; omega) (Ne.symm hix)).trans ((((Below.refl w6.heap.size w6).alloc (Nat.le_refl _) _).cell (p := ⟨xv, 5, none⟩) hx6).trans c56))
        | fail)
      all_goals
        go_wp2
        have hit : o = some y ∨ (o = none ∧ xv < y ∧ w6.heap[y]? = some (.cells Jv.nullC 67 (0, 0))) := by
          rcases hy6 with e1 | ⟨e1, e2, e3⟩
          · exact .inl e1
          · exact .inr ⟨e1, by omega, e3⟩
        refine ⟨⟨k + 1, _, xs ++ [y], by go_num, by omega, by simp; omega, (HOL.out.below hb6).item ho hxs hit ⟨hgrow7.os, hgrow7.tape, hgrow7.output, hgrow7.size, hgrow7.block⟩ hown7⟩, ?_⟩
        simp [intOf]; omega
    · have q0 : ¬ (k : Int) < (os.length : Int) := by omega
      obtain rfl : k = os.length := by omega
      have HOL : Hid (Tryz.Ol w os gL xv wr os.length iv xs) := hol1
      clear hol1
      go_wp2
      go_ret
      exact ⟨xv, rfl, iv, xs, hxs, HOL.out⟩
end Go.Proofs
namespace Go.Jv
/-- What Get gives. -/
def getV : V → ByteArray → Option V
  | .obj ks vs, key => if ks[place ks key]? = some key then vs[place ks key]? else none
  | _, _ => none
theorem getV_obj (ks : List ByteArray) (vs : List V) (key : ByteArray) : getV (.obj ks vs) key = if ks[place ks key]? = some key then vs[place ks key]? else none := rfl
def lookV : V → List ByteArray → Option V
  | v, [] => some v
  | v, p :: r => match getV v p with | none => none | some u => lookV u r
theorem lookV_step {v u : V} {p : ByteArray} {r : List ByteArray} (h : getV v p = some u) : lookV v (p :: r) = lookV u r := by simp only [lookV, h]
theorem lookV_none {v : V} {p : ByteArray} {r : List ByteArray} (h : getV v p = none) : lookV v (p :: r) = none := by simp only [lookV, h]
end Go.Jv
namespace Go.Proofs
open Go.RowKit Go.Jv
/-- A value's block, whatever its kind. -/
theorem Tryz.Tr.vb {w : World} {ok : Nat → Prop} {v : V} {x : Nat} (h : Tryz.Tr w ok v x) : ∃ k tr n s ks is, Jv.Vb w x k tr n s ks is ∧ ((∀ ks vs, v ≠ .obj ks vs) → k ≠ 5) := by
  cases v with
  | null => unfold Tryz.Tr at h; exact ⟨_, _, _, _, _, _, h.2, fun _ => by decide⟩
  | bool b => unfold Tryz.Tr at h; exact ⟨_, _, _, _, _, _, h.2, fun _ => by decide⟩
  | int n => unfold Tryz.Tr at h; exact ⟨_, _, _, _, _, _, h.2, fun _ => by decide⟩
  | text s => unfold Tryz.Tr at h; exact ⟨_, _, _, _, _, _, h.2, fun _ => by decide⟩
  | list l => unfold Tryz.Tr at h; obtain ⟨_, sv, xs, h2, _⟩ := h; exact ⟨_, _, _, _, _, _, h2, fun _ => by decide⟩
  | obj ks l => unfold Tryz.Tr at h; obtain ⟨_, kv, sv, xs, h2, _⟩ := h; exact ⟨_, _, _, _, _, _, h2, fun e => absurd rfl (e ks l)⟩
set_option maxHeartbeats 1000000 in
theorem Tryz.get_no {w : World} {x : Nat} {k : Int} {tr : Bool} {n : Int} {s : ByteArray} {ks is : Value} (h : Jv.Vb w x k tr n s ks is) (hk : k ≠ 5) (key : ByteArray) :
    Calls Tryz.prog 43 #[.pointer (some ⟨x, 0, none⟩), .string key] w fun e w' => e = .returned (.pointer none) ∧ w' = w := by
  have hkd := Tryz.kind_any h
  have hk' : ¬ k = 5 := hk
  clear h hk
  go_enter Tryz.func43, Tryz.ntmps43
  go_wp2_with (first
    | (go_at_call 14; refine hkd.mono ?_; clear hkd; rintro e w1 ⟨rfl, rfl⟩)
    | fail)
  go_ret
  exact ⟨rfl, rfl⟩
set_option maxHeartbeats 1000000 in
theorem Tryz.get_obj {w : World} {ok : Nat → Prop} {x : Nat} {ks : List ByteArray} {vs : List V} (h : Tryz.Tr w ok (.obj ks vs) x) (hl : ks.length ≤ 64) (hvs : vs.length = ks.length) (key : ByteArray) :
    Calls Tryz.prog 43 #[.pointer (some ⟨x, 0, none⟩), .string key] w fun e w' => (∃ q, w' = w.drewN q) ∧ ((getV (.obj ks vs) key = none ∧ e = .returned (.pointer none)) ∨ ∃ u y, getV (.obj ks vs) key = some u ∧ e = .returned (.pointer (some ⟨y, 0, none⟩)) ∧ Tryz.Tr w ok u y) := by
  have h' := h
  unfold Tryz.Tr at h'
  obtain ⟨_, kv, sv, xs, hvb, hkr, hir, htr, hlen⟩ := h'
  have hkd := Tryz.kind_any hvb
  have hkrow := hkr.row
  rw [List.length_map] at hkrow
  have hse := Tryz.search_any hkrow hl key
  have c4 := hvb.c4
  have c5 := hvb.c5
  by_cases hf : ks[place ks key]? = some key
  · have hp := (List.getElem?_eq_some_iff.1 hf).1
    obtain ⟨y, hy1, hy2⟩ := Tryz.Trs_get vs xs (place ks key) (by omega) htr
    obtain ⟨u, hu, hy3⟩ : ∃ u, vs[place ks key]? = some u ∧ Tryz.Tr w ok u y := ⟨_, List.getElem?_eq_getElem (by omega), hy2⟩
    clear hy2
    obtain ⟨g, cp, rfl, _, _, hcl⟩ := Jv.row_cells hir (by simp [Jv.ptrs]; omega)
    have hcy := hcl (place ks key) (.pointer (some ⟨y, 0, none⟩)) (by simp [Jv.ptrs, hy1])
    have hxl : (Jv.ptrs xs).length = ks.length := by simp [Jv.ptrs, hlen]
    have hgv : getV (.obj ks vs) key = some u := by rw [getV_obj, if_pos hf, hu]
    have hd : decide (ks[place ks key]? = some key) = true := by simp [hf]
    rw [hd] at hse
    rw [hgv]
    rw [hxl] at c5
    have HY : Hid (Tryz.Tr w ok u y) := hy3
    have hpi : ((place ks key : Nat) : Int) < (ks.length : Int) := by omega
    clear hkrow hkr hir htr hvb h hcl hy3 hy1 hgv hd hf hxl hu
    generalize place ks key = P at *
    go_enter Tryz.func43, Tryz.ntmps43
    go_wp2_with (first
      | (go_at_call 14; refine hkd.mono ?_; clear hkd; rintro e w1 ⟨rfl, rfl⟩)
      | (go_at_call 57; refine hse.mono ?_; clear hse; rintro e w2 ⟨rfl, q, rfl⟩)
      | fail)
    go_ret
    exact ⟨⟨_, rfl⟩, .inr ⟨u, y, rfl, rfl, HY.out⟩⟩
  · have hgv : getV (.obj ks vs) key = none := by rw [getV_obj, if_neg hf]
    have hd : decide (ks[place ks key]? = some key) = false := by simp [hf]
    rw [hd] at hse
    rw [hgv]
    clear hkrow hkr hir htr hvb h hgv hd hf
    generalize place ks key = P at *
    go_enter Tryz.func43, Tryz.ntmps43
    go_wp2_with (first
      | (go_at_call 14; refine hkd.mono ?_; clear hkd; rintro e w1 ⟨rfl, rfl⟩)
      | (go_at_call 57; refine hse.mono ?_; clear hse; rintro e w2 ⟨rfl, q, rfl⟩)
      | fail)
    go_ret
    exact ⟨⟨_, rfl⟩, .inl ⟨trivial, rfl⟩⟩
theorem Tryz.get_any (P : V → Prop) (hP : ∀ ks vs, P (.obj ks vs) → ks.length ≤ 64 ∧ vs.length = ks.length ∧ ∀ u ∈ vs, P u) {w : World} {ok : Nat → Prop} {v : V} {x : Nat} (h : Tryz.Tr w ok v x) (hv : P v) (key : ByteArray) :
    Calls Tryz.prog 43 #[.pointer (some ⟨x, 0, none⟩), .string key] w fun e w' => (∃ q, w' = w.drewN q) ∧ ((getV v key = none ∧ e = .returned (.pointer none)) ∨ ∃ u y, getV v key = some u ∧ e = .returned (.pointer (some ⟨y, 0, none⟩)) ∧ Tryz.Tr w ok u y ∧ P u) := by
  by_cases ho : ∃ ks vs, v = .obj ks vs
  · obtain ⟨ks, vs, rfl⟩ := ho
    obtain ⟨p1, p2, p3⟩ := hP ks vs hv
    refine (Tryz.get_obj h p1 p2 key).mono fun e w' ⟨h1, h2⟩ => ⟨h1, h2.imp id ?_⟩
    rintro ⟨u, y, q1, q2, q3⟩
    refine ⟨u, y, q1, q2, q3, p3 u ?_⟩
    rw [getV_obj] at q1
    split at q1
    · exact List.mem_of_getElem? q1
    · cases q1
  · obtain ⟨k, tr, n, s, kv, iv, hvb, hk⟩ := h.vb
    have hno : ∀ ks vs, v ≠ .obj ks vs := fun ks vs e => ho ⟨ks, vs, e⟩
    refine (Tryz.get_no hvb (hk hno) key).mono fun e w' ⟨h1, h2⟩ => ⟨⟨0, h2⟩, .inl ⟨?_, h1⟩⟩
    cases v <;> first | rfl | exact absurd rfl (hno _ _)
set_option maxHeartbeats 1000000 in
theorem Tryz.look_any (P : V → Prop) (hP : ∀ ks vs, P (.obj ks vs) → ks.length ≤ 64 ∧ vs.length = ks.length ∧ ∀ u ∈ vs, P u) {w : World} {ok : Nat → Prop} {v : V} {x : Nat} (h : Tryz.Tr w ok v x) (hv : P v) (path : List ByteArray) (g cap : Nat) (hpl : path.length ≤ 1000000) (hcells : ∀ (i : Nat) (s : ByteArray), path[i]? = some s → w.cell? ⟨g, i, none⟩ = some (.string s)) :
    Calls Tryz.prog 28 #[.pointer (some ⟨x, 0, none⟩), .slice (some ⟨g, 0, none⟩) path.length cap] w fun e w' => (∃ q, w' = w.drewN q) ∧ ((lookV v path = none ∧ e = .returned (.pointer none)) ∨ ∃ u y, lookV v path = some u ∧ e = .returned (.pointer (some ⟨y, 0, none⟩)) ∧ Tryz.Tr w ok u y ∧ P u) := by
  have HTR : Hid (Tryz.Tr w ok v x) := h
  have HPV : Hid (P v) := hv
  have HC : Hid (∀ (i : Nat) (s : ByteArray), path[i]? = some s → w.cell? ⟨g, i, none⟩ = some (.string s)) := hcells
  clear h hv hcells
  go_enter Tryz.func28, Tryz.ntmps28
  go_wp2
  go_loopw [0, 9] (fun p i wr => ∃ (k : Nat) (u : V) (y q : Nat), p = .pointer (some ⟨y, 0, none⟩) ∧ i = .int .i64 k ∧ k ≤ path.length ∧ Tryz.Tr w ok u y ∧ P u ∧ lookV v path = lookV u (path.drop k) ∧ wr = w.drewN q) (fun _ i _ => path.length - (intOf i).toNat)
  case atStart => exact ⟨0, v, x, 0, rfl, rfl, by omega, HTR.out, HPV.out, rfl, rfl⟩
  case round =>
    obtain ⟨k, u, y, q, rfl, rfl, hk, htu, hpu, hlk, rfl⟩ := hrel
    by_cases hkl : k < path.length
    · have q0 : (k : Int) < (path.length : Int) := by omega
      obtain ⟨s, hs⟩ : ∃ s, path[k]? = some s := ⟨_, List.getElem?_eq_getElem hkl⟩
      have c0 : w.cell? ⟨g, k, none⟩ = some (.string s) := HC.out k s hs
      have hdr : path.drop k = s :: path.drop (k + 1) := by
        have := (List.getElem?_eq_some_iff.1 hs).2
        rw [← this, List.getElem_cons_drop]
      rw [hdr] at hlk
      have hga := Tryz.get_any P hP (Tryz.Tr_keep (w := w) (w' := w.drewN q) (fun g _ _ => rfl) (Nat.le_refl _) _ _ htu) hpu s
      have HLK : Hid (lookV v path = lookV u (s :: path.drop (k + 1))) := hlk
      clear hlk hdr htu hpu
      cases hgv : getV u s with
      | none =>
        rw [hgv] at hga
        have hga2 : Calls Tryz.prog 43 #[.pointer (some ⟨y, 0, none⟩), .string s] (w.drewN q) fun e w' => e = .returned (.pointer none) ∧ ∃ q', w' = (w.drewN q).drewN q' := hga.mono fun e w' ⟨h1, h2⟩ => by
          rcases h2 with h2 | ⟨_, _, h2, _⟩
          · exact ⟨h2.2, h1⟩
          · cases h2
        have HN : Hid (lookV v path = none) := HLK.out.trans (lookV_none hgv)
        clear hga hgv
        go_wp2_with (first
          | (go_at_call 43; refine hga2.mono ?_; clear hga2; rintro e w1 ⟨rfl, q1, rfl⟩)
          | fail)
        go_ret
        exact ⟨⟨q + q1, rfl⟩, .inl ⟨HN.out, rfl⟩⟩
      | some u1 =>
        rw [hgv] at hga
        have hga2 : Calls Tryz.prog 43 #[.pointer (some ⟨y, 0, none⟩), .string s] (w.drewN q) fun e w' => ∃ y1, e = .returned (.pointer (some ⟨y1, 0, none⟩)) ∧ Tryz.Tr w ok u1 y1 ∧ P u1 ∧ ∃ q', w' = (w.drewN q).drewN q' := hga.mono fun e w' ⟨h1, h2⟩ => by
          rcases h2 with h2 | ⟨u2, y1, h2, h3, h4, h5⟩
          · cases h2.1
          · cases h2
            exact ⟨y1, h3, Tryz.Tr_keep (w := w.drewN q) (w' := w) (fun g _ _ => rfl) (Nat.le_refl _) _ _ h4, h5, h1⟩
        have HN : Hid (lookV v path = lookV u1 (path.drop (k + 1))) := HLK.out.trans (lookV_step hgv)
        clear hga hgv
        go_wp2_with (first
          | (go_at_call 43; refine hga2.mono ?_; clear hga2; rintro e w1 ⟨y1, rfl, ht1, hp1, q1, rfl⟩)
          | fail)
        go_roundw
        case rel => exact ⟨k + 1, u1, y1, q + q1, rfl, by go_num, by omega, ht1, hp1, HN.out, rfl⟩
        case measure => simp [intOf]; omega
    · have q0 : ¬ (k : Int) < (path.length : Int) := by omega
      obtain rfl : k = path.length := by omega
      rw [List.drop_length] at hlk
      have HR : Hid (lookV v path = some u ∧ Tryz.Tr w ok u y ∧ P u) := ⟨hlk, htu, hpu⟩
      clear hlk htu hpu
      go_wp2
      go_ret
      exact ⟨⟨q, rfl⟩, .inr ⟨u, HR.out.1, y, rfl, HR.out.2⟩⟩
/-- The first item. -/
theorem Tryz.item_at {w : World} {x : Nat} {k : Int} {tr : Bool} {n : Int} {s : ByteArray} {kv : Value} {g l c y i : Nat} (h : Jv.Vb w x k tr n s kv (.slice (some ⟨g, 0, none⟩) l c)) (hi : i < l) (_hl : l ≤ 1000000) (hc : w.cell? ⟨g, i, none⟩ = some (.pointer (some ⟨y, 0, none⟩))) :
    Calls Tryz.prog 26 #[.pointer (some ⟨x, 0, none⟩), .int .i64 i] w fun e w' => e = .returned (.pointer (some ⟨y, 0, none⟩)) ∧ ∃ q, w' = w.drewN q := by
  have hle := Tryz.len_of h
  have c5 := h.c5
  have q0 : ¬ (i : Int) < 0 := by omega
  have q1 : ¬ (l : Int) ≤ (i : Int) := by omega
  have q2 : (i : Int) < (l : Int) := by omega
  clear h
  go_enter Tryz.func26, Tryz.ntmps26
  go_wp2_with (first
    | (go_at_call 25; refine hle.mono ?_; clear hle; rintro e w1 ⟨rfl, rfl⟩)
    | fail)
  go_ret
  exact ⟨rfl, 0, rfl⟩
end Go.Proofs
namespace Go.Proofs
open Go.RowKit Go.Jv Go.Sort Go.Maps
theorem Tryz.Om.tr2 {w : World} {b n : Nat} {D : DataW Unit} {ks : List ByteArray} {gM capM xv : Nat} {wr : World} {kv iv : Value} {xs : List Nat} {ok : Nat → Prop} (h : Tryz.Om w b n D ks gM capM xv wr ks.length ks.length kv iv xs) (hok : ∀ g, xv ≤ g → ok g) (hxs : xs.length = ks.length) (vs : List V) (hvs : vs.length = ks.length) (hv : ∀ (i : Nat) (s : ByteArray) (y : Nat) (v : V), ks[i]? = some s → xs[i]? = some y → vs[i]? = some v → Tryz.Tr wr ok v y) :
    Tryz.Tr wr ok (.obj ks vs) xv := by
  unfold Tryz.Tr
  refine ⟨hok _ (Nat.le_refl _), kv, iv, xs, Jv.vb_of h.obj, ⟨?_, fun k hk => hok k (by have := (Jv.row_lo h.keys k hk).1; omega)⟩, ⟨?_, fun k hk => hok k (by have := (Jv.row_lo h.items k hk).1; omega)⟩, Tryz.trs_of vs xs (by omega) fun i v y h1 h2 => ?_, by omega⟩
  · have := h.keys
    rw [List.take_length] at this
    rw [List.length_map]
    exact Jv.row_move this fun g hg => ⟨Nat.zero_le _, rfl⟩
  · have := h.items
    rw [← hxs] at this
    unfold Jv.ptrs
    rw [List.length_map]
    exact Jv.row_move this fun g hg => ⟨Nat.zero_le _, rfl⟩
  · have hi : i < ks.length := by have := (List.getElem?_eq_some_iff.1 h1).1; omega
    exact hv i _ y v (List.getElem?_eq_getElem hi) h2 h1
theorem Tryz.Ol.tr2 {w : World} {os : List (Option Nat)} {gL xv : Nat} {wr : World} {iv : Value} {xs : List Nat} {ok : Nat → Prop} (h : Tryz.Ol w os gL xv wr os.length iv xs) (hok : ∀ g, xv ≤ g → ok g) (hxs : xs.length = os.length) (vs : List V) (hvs : vs.length = os.length) (hv : ∀ (i : Nat) (o : Option Nat) (y : Nat) (v : V), os[i]? = some o → xs[i]? = some y → vs[i]? = some v → Tryz.Tr wr ok v y) :
    Tryz.Tr wr ok (.list vs) xv := by
  unfold Tryz.Tr
  refine ⟨hok _ (Nat.le_refl _), iv, xs, Jv.vb_of h.obj, ⟨?_, fun k hk => hok k (by have := (Jv.row_lo h.items k hk).1; omega)⟩, Tryz.trs_of vs xs (by omega) fun i v y h1 h2 => ?_⟩
  · have := h.items
    rw [← hxs] at this
    unfold Jv.ptrs
    rw [List.length_map]
    exact Jv.row_move this fun g hg => ⟨Nat.zero_le _, rfl⟩
  · have hi : i < os.length := by have := (List.getElem?_eq_some_iff.1 h1).1; omega
    exact hv i _ y v (List.getElem?_eq_getElem hi) h2 h1
def Jv.D3 (o p : Option Nat) : DataW Unit := ((DataW.map []).put (Jv.kl Jv.kA) (Jv.ptrD o)).put (Jv.kl Jv.kB) (Jv.ptrD p)
theorem Jv.kAB : Jv.kl Jv.kA ≠ Jv.kl Jv.kB := fun h => Jv.kBA h.symm
theorem Jv.D3_has (o p : Option Nat) : (∀ k, Maps.has (Jv.D3 o p) k = true → ∃ s ∈ [Jv.kA, Jv.kB], k = Jv.kl s) ∧ ∀ s ∈ [Jv.kA, Jv.kB], Maps.has (Jv.D3 o p) (Jv.kl s) = true := by
  have hm : IsMap ((DataW.map [] : DataW Unit).put (Jv.kl Jv.kA) (Jv.ptrD o)) := Maps.isMap_empty.put _ _
  constructor
  · intro k hk
    by_cases h1 : k = Jv.kl Jv.kA
    · exact ⟨Jv.kA, by simp, h1⟩
    · by_cases h2 : k = Jv.kl Jv.kB
      · exact ⟨Jv.kB, by simp, h2⟩
      · unfold Jv.D3 at hk
        rw [Maps.has_put_other h2, Maps.has_put_other h1] at hk
        cases hk
  · intro s hs
    simp only [List.mem_cons, List.not_mem_nil, or_false] at hs
    unfold Jv.D3
    rcases hs with rfl | rfl
    · rw [Maps.has_put_other Jv.kAB]
      exact Maps.has_put_same Maps.isMap_empty (Jv.kl_key _) _
    · exact Maps.has_put_same hm (Jv.kl_key _) _
theorem Jv.D3_at (o p : Option Nat) : (Jv.D3 o p).atKey (Jv.kl Jv.kA) .nil = Jv.ptrD o ∧ (Jv.D3 o p).atKey (Jv.kl Jv.kB) .nil = Jv.ptrD p := by
  unfold Jv.D3
  refine ⟨?_, Maps.atKey_put_same (Maps.isMap_empty.put _ _) (Jv.kl_key _) _ _⟩
  rw [Maps.atKey_put_other Jv.kAB]
  exact Maps.atKey_put_same Maps.isMap_empty (Jv.kl_key _) _ _
theorem Tryz.ofMap_ab {w : World} {b n x z : Nat} {v u : V} {ok : Nat → Prop} (hown : w.ownsMap Tryz.prog 9 Jv.ptrR b n (Jv.D3 (some x) (some z))) (hv : Tryz.Tr w ok v x) (hu : Tryz.Tr w ok u z) (hok : ∀ g, w.heap.size ≤ g → ok g) :
    Calls Tryz.prog 21 #[.map (some b)] w fun e w' => ∃ y, e = .returned (.pointer (some ⟨y, 0, none⟩)) ∧ Tryz.Tr w' ok (.obj [Jv.kA, Jv.kB] [v, u]) y ∧ Below w.heap.size w w' := by
  refine (Tryz.ofMap_any hown [Jv.kA, Jv.kB] (Jv.D3_has _ _).1 (Jv.D3_has _ _).2 (by decide) (by decide) (by decide) (by decide) (fun s hs W => ?_)).mono ?_
  · have hsz : s.size ≤ 1 := by
      simp only [List.mem_cons, List.not_mem_nil, or_false] at hs
      rcases hs with rfl | rfl <;> decide
    have := Tryz.right_any s (by omega) W
    rw [Jv.rightAB s hs] at this
    exact this
  · rintro e w' ⟨xv, gM, capM, kv, iv, xs, rfl, hxs, hom⟩
    obtain ⟨dA, dB⟩ := Jv.D3_at (some x) (some z)
    have keep : ∀ (v : V) (x : Nat), Tryz.Tr w ok v x → Tryz.Tr w' ok v x := fun v x h => Tryz.Tr_keep (fun g _ hl => hom.bel.block g hl) hom.bel.size _ _ h
    refine ⟨xv, rfl, hom.tr2 (fun g hg => hok g (by have := hom.lo; omega)) hxs [v, u] rfl fun i s y t h1 h2 h3 => ?_, hom.bel⟩
    have hit := hom.its i s y h1 h2
    match i, h1, h3 with
    | 0, h1, h3 =>
      simp at h1 h3
      subst h1 h3
      rcases hit with h4 | ⟨h4, _⟩
      · rw [dA] at h4
        have e := Jv.ptrD_inj (a := some x) (b := some y) h4
        injection e with e
        subst e
        exact keep _ _ hv
      · rw [dA] at h4; cases h4
    | 1, h1, h3 =>
      simp at h1 h3
      subst h1 h3
      rcases hit with h4 | ⟨h4, _⟩
      · rw [dB] at h4
        have e := Jv.ptrD_inj (a := some z) (b := some y) h4
        injection e with e
        subst e
        exact keep _ _ hu
      · rw [dB] at h4; cases h4
    | i + 2, h1, _ => simp at h1
theorem Tryz.ofList_two {w : World} {gL cap x z : Nat} {v u : V} {ok : Nat → Prop} (hc0 : w.cell? ⟨gL, 0, none⟩ = some (.pointer (some ⟨x, 0, none⟩))) (hc1 : w.cell? ⟨gL, 1, none⟩ = some (.pointer (some ⟨z, 0, none⟩))) (hv : Tryz.Tr w ok v x) (hu : Tryz.Tr w ok u z) (hok : ∀ g, w.heap.size ≤ g → ok g) :
    Calls Tryz.prog 23 #[.slice (some ⟨gL, 0, none⟩) 2 cap] w fun e w' => ∃ y, e = .returned (.pointer (some ⟨y, 0, none⟩)) ∧ Tryz.Tr w' ok (.list [v, u]) y ∧ Below w.heap.size w w' := by
  refine (Tryz.ofList_any [some x, some z] (by simp) (by simp) gL cap w (World.block_lt_of_cell? _ _ hc0) (fun i o h => ?_)).mono ?_
  · match i, h with
    | 0, h => simp at h; subst h; exact hc0
    | 1, h => simp at h; subst h; exact hc1
    | i + 2, h => simp at h
  · rintro e w' ⟨xv, iv, xs, rfl, hxs, hol⟩
    have keep : ∀ (v : V) (x : Nat), Tryz.Tr w ok v x → Tryz.Tr w' ok v x := fun v x h => Tryz.Tr_keep (fun g _ hl => hol.bel.block g hl) hol.bel.size _ _ h
    refine ⟨xv, rfl, hol.tr2 (fun g hg => hok g (by have := hol.lo; omega)) hxs [v, u] rfl fun i o y t h1 h2 h3 => ?_, hol.bel⟩
    have hit := hol.its i o y h1 h2
    match i, h1, h3 with
    | 0, h1, h3 =>
      simp at h1 h3
      subst h1 h3
      rcases hit with h4 | ⟨h4, _⟩
      · injection h4 with h4; subst h4; exact keep _ _ hv
      · cases h4
    | 1, h1, h3 =>
      simp at h1 h3
      subst h1 h3
      rcases hit with h4 | ⟨h4, _⟩
      · injection h4 with h4; subst h4; exact keep _ _ hu
      · cases h4
    | i + 2, h1, _ => simp at h1
end Go.Proofs
namespace Go.Proofs
open Go.RowKit Go.Jv Go.Sort Go.Maps
theorem Jv.app_keep {P : Program} (w : World) (t ty e : TypeId) (i : TypeInfo) (z : Value) (bytes base : Nat) (ht : P.underlying t = some (.slice e)) (hi : P.info? e = some i) (hz : i.zero = some z)
    (hsize : i.size = 1) (hby : i.bytes = bytes) (hzs : z.cells.size = 1) (g n cap : Nat) (xs : List Value) (hown : w.ownsRow base e 1 (.slice (some ⟨g, 0, none⟩) n cap) n xs)
    (gA c : Nat) (u : Value) (hnews : w.cell? ⟨gA, 0, none⟩ = some u) (h1 : u.oneCell' = true) (h63 : n + 1 ≤ maxLen) (hbytes : (n + 1) * bytes ≤ 140737488355328) (hbase : base ≤ w.heap.size) :
    ∃ g' cap' w', (Builtin.append_ #[t, t] ty #[.slice (some ⟨g, 0, none⟩) n cap, .slice (some ⟨gA, 0, none⟩) 1 c]).run P w = .ok (.slice (some ⟨g', 0, none⟩) (n + 1) cap') w' ∧ w'.ownsRow base e 1 (.slice (some ⟨g', 0, none⟩) (n + 1) cap') (n + 1) (xs ++ [u]) ∧ w.grownBy w' (some g) ∧ ∀ j x, xs[j]? = some x → w'.cell? ⟨g, j, none⟩ = some x := by
  have hn' : ∀ (j : Nat) (v : Value), [u][j]? = some v → w.cell? ((⟨gA, 0, none⟩ : Addr).add j) = some v := fun j v hj => by
    cases j with
    | zero => simp at hj; subst hj; rw [Addr.add_mid]; exact hnews
    | succ j => simp at hj
  obtain ⟨g', cap', w', hr, h2, h3, h4, h5⟩ := run_append_lies (P := P) w t ty base e i z 1 bytes ht hi hz hsize hby hzs (by omega) (.slice (some ⟨g, 0, none⟩) n cap) n xs hown ⟨gA, 0, none⟩ 1 c [u] rfl hn' (by simpa using h1) (by omega) h63 hbytes hbase w.heap.size rfl
  refine ⟨g', cap', w', hr, h2, h3, fun j x hj => ?_⟩
  rcases hown.2 with ⟨e1, _⟩ | ⟨g1, cap1, cur, e1, hbg, hg, hnc, hcm, hcs, htake⟩
  · cases e1
  · injection e1 with e2 _ e3
    injection e2 with e2
    injection e2 with e2 _ _
    subst e2 e3
    by_cases hroom : n + 1 ≤ cap
    · have hr2 := run_append_room (P := P) w t ty e i ht hi g n cap cur hg ⟨gA, 0, none⟩ 1 c [u] (by rw [hsize]; rfl) hn' (by simpa using h1) hroom (by rw [hsize]; simp at hcs ⊢; omega)
      rw [hr2] at hr
      injection hr with hr _
      injection hr with hr _ _
      injection hr with hr
      injection hr with hr _ _
      subst hr
      have := h2.cells (g := g) rfl j x (by rw [List.getElem?_append_left (List.getElem?_eq_some_iff.1 hj).1]; exact hj)
      rwa [Addr.add_mid, Nat.zero_add] at this
    · have holds : ∀ j u, xs[j]? = some u → w.cell? ((⟨g, 0, none⟩ : Addr).add j) = some u := hown.cells (g := g) rfl
      have hr2 := run_append_grow (P := P) w t ty e i z ht hi hz ⟨g, 0, none⟩ n cap xs (by rw [hsize]; exact hown.1) holds ⟨gA, 0, none⟩ 1 c [u] (by rw [hsize]; rfl) hn' (by omega) (by unfold maxLen at h63; omega) (growslice_fits (by omega) (by rw [hby]; exact hbytes))
      rw [hr2] at hr
      injection hr with _ hr
      subst hr
      refine (World.cell?_of_block (Below.heap_alloc w.drew _ g (Array.getElem?_eq_some_iff.1 hg).1)).trans ?_
      have := holds j x hj
      rwa [Addr.add_mid, Nat.zero_add] at this
theorem Jv.wpList_app {P : Program} {ops : Array Oper} {rest : List Oper} {o : Oper} {a : Act} {w w' : World} {Q : Exit → Act → World → Prop} (hgd : o.guard = none) (s x : Operand) (t : TypeId)
    (ho : o.op = .call { callee := .builtin .append, args := #[s, x], argTypes := #[t, t] }) {u1 u2 v : Value} (hs : a.eval s = u1) (hx : a.eval x = u2)
    (hr : (Builtin.append_ #[t, t] o.type #[u1, u2]).run P w = .ok v w') (h : wpList P ops Q rest (a.put o.dst v) w') : wpList P ops Q (o :: rest) a w := by
  refine wpList_plain hgd fun K hK => ?_
  unfold Oper.wp execOp
  simp only [ho, resolve, invoke, builtin, Sem.run_bind, Sem.run_pure, Result.andThen_ok, List.map_toArray, List.map_cons, List.map_nil, hs, hx, hr]
  exact hK _ _ h
end Go.Proofs
