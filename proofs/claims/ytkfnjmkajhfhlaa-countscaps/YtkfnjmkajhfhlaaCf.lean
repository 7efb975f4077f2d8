/-
  A book: page, Note, Receipt, Leave, Counts.
-/
import Derived.Test.YtkfnjmkajhfhlaaCe
namespace Go.Proofs
open Go.RowKit Go.Wi Go.Ct
theorem Wi.Wo.undrew {own : Nat → Prop} {w w' : World} (h : Wo own w.drew w') : Wo own w w' := ⟨h.os, h.tape, h.output, h.size, h.block⟩
/-- What a call leaves of a book. -/
structure Try.BChg (w w' : World) (b : Nat) (s : St) (n : Nat) (g : Gh) : Prop where
  ex : ∃ g', Try.Bx w' b s n g' ∧ ∀ y, g'.T y ≠ .no → g.T y ≠ .no ∨ w.heap.size ≤ y
  wo : Wo (fun y => g.T y ≠ .no) w w'
theorem Try.BChg.refl {w : World} {b n : Nat} {s : St} {g : Gh} (h : Try.Bx w b s n g) : Try.BChg w w b s n g := ⟨⟨g, h, fun _ e => .inl e⟩, Wo.refl _ _⟩
theorem Try.BChg.below {w w' : World} {b n : Nat} {s : St} {g : Gh} (h : Try.Bx w b s n g) (hb : Below w.heap.size w w') : Try.BChg w w' b s n g :=
  ⟨⟨_, h.below hb, fun y e => .inl fun e1 => e (by simp only [e1]; split <;> rfl)⟩, Wo.ofBelow hb⟩
theorem Try.BChg.trans {w w1 w2 : World} {b n : Nat} {s : St} {g g1 : Gh} (ht : ∀ y, g1.T y ≠ .no → g.T y ≠ .no ∨ w.heap.size ≤ y) (hw : Wo (fun y => g.T y ≠ .no) w w1) (h : Try.BChg w1 w2 b s n g1) : Try.BChg w w2 b s n g := by
  obtain ⟨g2, h1, h2⟩ := h.ex
  have hs := hw.size
  refine ⟨⟨g2, h1, fun y e => ?_⟩, hw.step ht h.wo⟩
  rcases h2 y e with e1 | e1
  · exact ht y e1
  · exact .inr (by omega)
set_option maxHeartbeats 1000000 in
set_option maxRecDepth 20000 in
theorem Try.page_any {w : World} {b n : Nat} {s : St} {g : Gh} (h : Try.Bx w b s n g) (hn : n + 2 < maxLen) (u r : ByteArray) (hr : r.size ≤ maxLen) (hu : u.size ≤ maxLen) :
    Calls Try.prog 19 #[.pointer (some ⟨b, 0, none⟩), .string u, .string r] w fun z w' => ∃ p g', z = .returned (.pointer (some ⟨p, 0, none⟩)) ∧ Try.Bx w' b s (n + 2) g' ∧ g'.H r u = some p ∧ (∀ y, g'.T y ≠ .no → g.T y ≠ .no ∨ w.heap.size ≤ y) ∧ Wo (fun y => g.T y ≠ .no) w w' := by
  have hmm := @run_makeMap Try.prog
  have heq := fun W q => run_eql_map_nil (P := Try.prog) W 58 9 52 q Try.uPages
  have c2 : w.cell? ⟨b, 2, none⟩ = some (.map (some g.br)) := cell_of_row _ _ 2 _ _ _ h.bl
  obtain ⟨h1, h2⟩ := h.looks r u hr hu
  have hbl := block_lt h.bl
  cases hG : g.G r with
  | none =>
    have hH := h.gh r u hG
    rw [hG] at h1 h2
    have hrl := h.rm.lt rfl
    obtain ⟨w1, hrun1, hM1, htu1⟩ := (h.rm.keep (w' := w.alloc (.map #[] 0)) fun x e => by injection e with e; subst e; exact Ct.alloc_old _ hrl).store Try.uRooms (by omega) (x := r) hr (mapP w.heap.size)
    have hr1 : (Instr.mapUpdate 44 (.map (some g.br)) (.string r) (.map (some w.heap.size))).run Try.prog (w.alloc (.map #[] 0)) = .ok () w1 := hrun1
    have hg1 := htu1.grown
    have hs1 : w1.heap.size = w.heap.size + 1 := by
      obtain ⟨es, c, es', c', _, rfl⟩ := htu1
      simp [ChangeMaps.setBlock]
    have hk1 : ∀ y, y < w.heap.size → y ≠ g.br → w1.heap[y]? = w.heap[y]? := fun y hy hne => (hg1.block y (by simp; omega) (fun e => hne (by injection e))).trans (Ct.alloc_old _ hy)
    have hU1 : Mp Try.kS w1 (some w.heap.size) 0 (fun _ => none) := (Mp.made Try.kS w).keep fun x e => by
      injection e with e; subst e
      exact hg1.block _ (by simp) (fun e => by injection e with e; omega)
    have hB1 := h.addUsers hG (Nat.le_refl _) hM1 (hU1.mono (by omega)) hk1
    have hw1 : Wo (fun y => g.T y ≠ .no) w w1 := ((Wo.refl _ w).alloc _).grown hg1 fun y e => .inl (by injection e with e; rw [← e, h.tm]; simp)
    have hl2 : (Instr.lookup 58 (.map (some w.heap.size)) (.string u) false).run Try.prog w1 = .ok (.pointer none) w1 := hU1.look Try.uPages (Try.zPage w1) (x := u) hu
    obtain ⟨w3, hrun3, hM3, htu3⟩ := (hU1.keep (w' := w1.alloc (.cells #[.int .i64 0, .map none, .int .i64 0] 61)) fun x e => by injection e with e; subst e; exact Ct.alloc_old _ (by omega)).store Try.uPages (by unfold maxLen; omega) (x := u) hu (ptrP w1.heap.size)
    have hr3 : (Instr.mapUpdate 58 (.map (some w.heap.size)) (.string u) (.pointer (some ⟨w.heap.size + 1, 0, none⟩))).run Try.prog (w1.alloc (.cells #[.int .i64 0, .map none, .int .i64 0] 61)) = .ok () w3 := by rw [← hs1]; exact hrun3
    have hg3 := htu3.grown
    have hs3 : w3.heap.size = w1.heap.size + 1 := by
      obtain ⟨es, c, es', c', _, rfl⟩ := htu3
      simp [ChangeMaps.setBlock]
    have hB3 := hB1.addPage (r := r) (u := u) (x := w.heap.size) (p := w1.heap.size) (w' := w3) (by simp) hH (Nat.le_refl _) ((hM3.cong fun y => by by_cases e : y = u <;> simp [upd, e, h.gh r y hG]).mono (by omega))
      ((hg3.block _ (by simp) (fun e => by injection e with e; omega)).trans (heap_alloc_new w1 _)) (fun y hy hne => (hg3.block y (by simp; omega) (fun e => hne (by injection e))).trans (Ct.alloc_old _ hy))
    have hw3 : Wo (fun y => g.T y ≠ .no) w w3 := (hw1.alloc _).grown hg3 fun y e => .inr (by injection e with e; omega)
    have HB : Hid _ := hB3
    have HW : Hid _ := hw3
    clear h hM1 htu1 hg1 hk1 hU1 hB1 hw1 hM3 htu3 hg3 hB3 hw3 hrun1 hrun3
    go_enter Try.func19, Try.ntmps19
    go_wp2
    go_ret
    have hz : Ending.returned (.pointer (some ⟨w.heap.size + 1, 0, none⟩)) = Ending.returned (.pointer (some ⟨w1.heap.size, 0, none⟩)) := by rw [hs1]
    refine ⟨w1.heap.size, hz, _, HB.out, upd2_same _ _ _ _, fun y e => ?_, HW.out⟩
    simp only at e
    by_cases e1 : y = w1.heap.size
    · exact .inr (by omega)
    · rw [if_neg e1] at e
      by_cases e2 : y = w.heap.size
      · exact .inr (by omega)
      · rw [if_neg e2] at e; exact .inl e
  | some x =>
    rw [hG] at h1 h2
    cases hH : g.H r u with
    | some p =>
      rw [hH] at h2
      have H : Hid _ := h.mono (n' := n + 2) (by omega)
      clear h
      go_enter Try.func19, Try.ntmps19
      go_wp2
      go_ret
      exact ⟨p, g, rfl, H.out, hH, fun y e => .inl e, Wo.refl _ _⟩
    | none =>
      rw [hH] at h2
      have hxl := (h.us r x hG).lt rfl
      obtain ⟨w3, hrun3, hM3, htu3⟩ := ((h.us r x hG).keep (w' := w.alloc (.cells #[.int .i64 0, .map none, .int .i64 0] 61)) fun y e => by injection e with e; subst e; exact Ct.alloc_old _ hxl).store Try.uPages (by omega) (x := u) hu (ptrP w.heap.size)
      have hr3 : (Instr.mapUpdate 58 (.map (some x)) (.string u) (.pointer (some ⟨w.heap.size, 0, none⟩))).run Try.prog (w.alloc (.cells #[.int .i64 0, .map none, .int .i64 0] 61)) = .ok () w3 := hrun3
      have hg3 := htu3.grown
      have hB3 := h.addPage (r := r) (u := u) (x := x) (p := w.heap.size) (w' := w3) hG hH (Nat.le_refl _) hM3
        ((hg3.block _ (by simp) (fun e => by injection e with e; omega)).trans (heap_alloc_new w _)) (fun y hy hne => (hg3.block y (by simp; omega) (fun e => hne (by injection e))).trans (Ct.alloc_old _ hy))
      have hw3 : Wo (fun y => g.T y ≠ .no) w w3 := ((Wo.refl _ w).alloc _).grown hg3 fun y e => .inl (by injection e with e; rw [← e, h.tu r x hG]; simp)
      have HB : Hid _ := hB3.mono (n' := n + 2) (by omega)
      have HW : Hid _ := hw3
      clear h hM3 htu3 hg3 hB3 hw3 hrun3
      go_enter Try.func19, Try.ntmps19
      go_wp2
      go_ret
      refine ⟨w.heap.size, _, rfl, HB.out, upd2_same _ _ _ _, fun y e => ?_, HW.out⟩
      simp only at e
      by_cases e1 : y = w.heap.size
      · exact .inr (by omega)
      · rw [if_neg e1] at e; exact .inl e
/-- Behind a note. -/
def Ct.noted (s : St) (u r : ByteArray) (k : Nat) (t hl : Bool) : St :=
  if !t && decide (s.mr r u < (k : Int)) then s.page r u (s.mr r u) (upd (s.nt r u) k (some hl)) else s
set_option maxHeartbeats 1000000 in
set_option maxRecDepth 20000 in
theorem Try.note_bad {w : World} {b n : Nat} {s : St} {g : Gh} (h : Try.Bx w b s n g) (u r e : ByteArray) (he : e.size ≤ maxLen) (nf hl : Bool) (sd : ByteArray) (hf : fnd s r e = 0 ∨ nf = false) :
    Calls Try.prog 9 #[.pointer (some ⟨b, 0, none⟩), .string u, .string r, .string e, .agg #[.bool nf, .bool hl, .string sd]] w fun z w' => z = .returned (.int .i64 (if fnd s r e = 0 then 112 else 1)) ∧ Below w.heap.size w w' := by
  have hfd := Try.find_any (h.below ((Below.refl w.heap.size w).alloc (Nat.le_refl _) (.cells #[.bool nf, .bool hl, .string sd] 31))) r e he
  clear h
  by_cases h0 : fnd s r e = 0
  · rw [h0] at hfd
    simp only [h0, if_true]
    go_enter Try.func9, Try.ntmps9
    go_wp2_with (first
      | (go_at_call 17; refine hfd.mono ?_; clear hfd; rintro z w2 ⟨rfl, rfl⟩)
      | fail)
    go_ret
    exact ⟨rfl, (Below.refl _ w).alloc (Nat.le_refl _) _⟩
  · obtain rfl : nf = false := by rcases hf with hf | hf; exact absurd hf h0; exact hf
    simp only [h0, if_false]
    have q1 : ¬ ((fnd s r e : Nat) : Int) = 0 := by omega
    generalize fnd s r e = k at *
    go_enter Try.func9, Try.ntmps9
    go_wp2_with (first
      | (go_at_call 17; refine hfd.mono ?_; clear hfd; rintro z w2 ⟨rfl, rfl⟩)
      | fail)
    go_ret
    exact ⟨rfl, (Below.refl _ w).alloc (Nat.le_refl _) _⟩
set_option maxHeartbeats 1000000 in
set_option maxRecDepth 20000 in
theorem Try.note_ok {w : World} {b n : Nat} {s : St} {g : Gh} (h : Try.Bx w b s n g) (hn : n + 3 < maxLen) (u r e : ByteArray) (he : e.size ≤ maxLen) (hr : r.size ≤ maxLen) (hu : u.size ≤ maxLen) (hl : Bool) (sd : ByteArray) (t : Bool) (i : Nat) (hf : fnd s r e = i + 1) (hi : s.ev[i]? = some (r, e, t)) :
    Calls Try.prog 9 #[.pointer (some ⟨b, 0, none⟩), .string u, .string r, .string e, .agg #[.bool true, .bool hl, .string sd]] w fun z w' => z = .returned (.int .i64 0) ∧ Try.BChg w w' b (Ct.noted s u r (i + 1) t hl) (n + 3) g := by
  have hil := (List.getElem?_eq_some_iff.1 hi).1
  have hlen := h.len
  have hB0 : Below w.heap.size w (w.alloc (.cells #[.bool true, .bool hl, .string sd] 31)) := (Below.refl w.heap.size w).alloc (Nat.le_refl _) _
  have h0 := h.below hB0
  have hT0 : ∀ y, (if y < w.heap.size then g.T y else Tg.no) ≠ .no → g.T y ≠ .no ∨ w.heap.size ≤ y := fun y e => .inl fun e1 => e (by simp only [e1]; split <;> rfl)
  have hfd := Try.find_any h0 r e he
  rw [hf, show ((i + 1 : Nat) : Int) = (i : Int) + 1 by omega] at hfd
  have hml := Try.mayLive_any h0 u r e t i hi hr hu
  have hcast : ((i + 1 : Nat) : Int) = (i : Int) + 1 := by omega
  unfold Ct.noted
  rw [hcast]
  have hi5 : i < 5000 := by omega
  have H0 : Hid _ := h0
  have HT0 : Hid _ := hT0
  have H : Hid _ := h
  have q1 : ¬ ((i : Int) + 1 = 0) := by omega
  have hbw := block_lt h.bl
  clear h h0 hB0 hT0 hi hcast hf hlen hil
  cases hd : (!t && decide (s.mr r u < (i : Int) + 1)) with
  | false =>
    rw [hd] at hml
    clear hd
    simp only [if_false, Bool.false_eq_true]
    go_enter Try.func9, Try.ntmps9
    go_wp2_with (first
      | (go_at_call 17; refine hfd.mono ?_; clear hfd; rintro z w2 ⟨rfl, rfl⟩)
      | (go_at_call 18; refine hml.mono ?_; clear hml; rintro z w3 ⟨rfl, hb3⟩; have HBX : Hid _ := hb3; clear hb3)
      | fail)
    go_ret
    have hb3 := HBX.out
    exact ⟨rfl, Try.BChg.below (H.out.mono (by omega)) (((Below.refl _ w).alloc (Nat.le_refl _) _).trans (hb3.mono (by simp)))⟩
  | true =>
    rw [hd] at hml
    clear hd
    simp only [if_true]
    go_enter Try.func9, Try.ntmps9
    go_wp2_with (first
      | (go_at_call 17; refine hfd.mono ?_; clear hfd; rintro z w2 ⟨rfl, rfl⟩)
      | (go_at_call 18; refine hml.mono ?_; clear hml; rintro z w3 ⟨rfl, hb3⟩; have HBX : Hid _ := hb3; clear hb3)
      | fail)
    have hb3 := HBX.out
    have hx3 : w3.heap[w.heap.size]? = some (.cells #[.bool true, .bool hl, .string sd] 31 (0, 0)) := (hb3.block _ (by simp)).trans (heap_alloc_new w _)
    have hbel3 : Below w.heap.size w w3 := ((Below.refl _ w).alloc (Nat.le_refl _) _).trans (hb3.mono (by simp))
    have hs3 : w.heap.size < w3.heap.size := block_lt hx3
    have e1 : w3.cell? ⟨w.heap.size, 1, none⟩ = some (.bool hl) := cell_of_row _ _ 1 _ _ _ hx3
    have hpg := fun (W : World) (hW : W.heap = w3.heap) => Try.page_any ((H.out.below hbel3).keep (w' := W) fun x _ => by rw [hW]) (by omega) u r hr hu
    have HX3 : Hid _ := hx3
    have HB3 : Hid _ := hbel3
    clear hb3 hx3 hbel3 HBX
    go_region_with (first
      | (go_at_call 19; go_loud (refine (hpg w3.drew rfl).mono ?_; rintro z w5 ⟨p, g5, rfl, hB5, hH5, hT5, hW5⟩; have e5 : w5.cell? ⟨w.heap.size, 1, none⟩ = some (.bool hl) := cell_of_row _ _ 1 _ _ _ ((hW5.block w.heap.size hs3 (by simp)).trans HX3.out); have hput := fun (W : World) (hW : W.heap = w5.heap) => Try.put_any ((hB5.pg r u p hH5).keep (w' := W) (by rw [hW]) (fun x _ => by rw [hW])) (by omega) ((i : Int) + 1) (by refine WalkArith.wf_i64 ?_; omega) hl; have HB5 : Hid _ := hB5; have HT5 : Hid _ := hT5; have HW5 : Hid _ := hW5; clear hB5 hT5 hW5))
      | (go_at_call 20; refine (hput w5 rfl).mono ?_; rintro z w6 ⟨⟨v6, rfl⟩, hc6⟩)
      | fail)
    all_goals
      go_wp2
      go_ret
      refine ⟨rfl, Try.BChg.trans (w1 := w3) (g1 := { g with T := fun x => if x < w.heap.size then g.T x else .no }) HT0.out (Wo.ofBelow HB3.out) (Try.BChg.trans (w1 := w5) (g1 := g5) HT5.out (Wi.Wo.undrew HW5.out) ?_)⟩
      obtain ⟨g6, hB6, hT6, hW6⟩ := HB5.out.setPage hH5 (n' := n + 3) (by omega) hc6
      exact ⟨⟨g6, hB6, hT6⟩, hW6⟩
end Go.Proofs
