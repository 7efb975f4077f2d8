/-
  A page: a mark, and notes.
-/
import Derived.Test.YtkfnjmkajhfhlaaCa
import Derived.Test.YtkfnjmkajhfhlaaVc
import Derived.Deep.RegionHeld3
import Derived.Deep.DeepCutAuto
namespace Go.Ct
/-- How many notes have a highlight. -/
noncomputable def cntT (f : Int → Option Bool) : Nat := by
  classical
  exact if h : ∃ L : List Int, L.Nodup ∧ ∀ x, x ∈ L ↔ f x = some true then (Classical.choose h).length else 0
theorem cntT_eq {f : Int → Option Bool} {L : List Int} (h1 : L.Nodup) (h2 : ∀ x, x ∈ L ↔ f x = some true) : cntT f = L.length := by
  have h : ∃ L : List Int, L.Nodup ∧ ∀ x, x ∈ L ↔ f x = some true := ⟨L, h1, h2⟩
  unfold cntT
  rw [dif_pos h]
  obtain ⟨a, b⟩ := Classical.choose_spec h
  exact Nat.le_antisymm (List.Nodup.length_le_of_subset a fun x hx => (h2 x).2 ((b x).1 hx)) (List.Nodup.length_le_of_subset h1 fun x hx => (b x).2 ((h2 x).1 hx))
theorem cntT_cong {f g : Int → Option Bool} (h : ∀ x, f x = some true ↔ g x = some true) (hf : ∃ L : List Int, L.Nodup ∧ ∀ x, x ∈ L ↔ f x = some true) : cntT f = cntT g := by
  obtain ⟨L, h1, h2⟩ := hf
  rw [cntT_eq h1 h2, cntT_eq h1 fun x => (h2 x).trans (h x)]
theorem cntT_zero {f : Int → Option Bool} (h : ∀ x, f x ≠ some true) : cntT f = 0 :=
  cntT_eq (L := []) List.nodup_nil fun x => by simp [h x]
/-- One more. -/
theorem cntT_up {f : Int → Option Bool} {k : Int} (hk : f k ≠ some true) (hf : ∃ L : List Int, L.Nodup ∧ ∀ x, x ∈ L ↔ f x = some true) : cntT (upd f k (some true)) = cntT f + 1 := by
  obtain ⟨L, h1, h2⟩ := hf
  rw [cntT_eq h1 h2, cntT_eq (L := k :: L) (List.nodup_cons.2 ⟨fun e => hk ((h2 k).1 e), h1⟩) fun x => ?_]
  · simp
  · by_cases e : x = k
    · subst e; simp
    · rw [upd_ne _ _ e, List.mem_cons, h2 x]; simp [e]
/-- One less. -/
theorem cntT_dn {f : Int → Option Bool} {k : Int} (hk : f k = some true) (hf : ∃ L : List Int, L.Nodup ∧ ∀ x, x ∈ L ↔ f x = some true) : cntT f = cntT (upd f k none) + 1 := by
  obtain ⟨L, h1, h2⟩ := hf
  have hm : k ∈ L := (h2 k).2 hk
  rw [cntT_eq h1 h2, cntT_eq (L := L.erase k) (h1.erase k) fun x => ?_, List.length_erase_of_mem hm]
  · have := List.length_pos_of_mem hm
    omega
  · by_cases e : x = k
    · subst e
      simp only [upd_same]
      exact ⟨fun h => absurd h (List.Nodup.not_mem_erase h1), fun h => by cases h⟩
    · rw [upd_ne _ _ e, List.mem_erase_of_ne e, h2 x]
/-- As many. -/
theorem cntT_same {f : Int → Option Bool} {k : Int} {v : Option Bool} (hk : f k ≠ some true) (hv : v ≠ some true) (hf : ∃ L : List Int, L.Nodup ∧ ∀ x, x ∈ L ↔ f x = some true) : cntT (upd f k v) = cntT f :=
  (cntT_cong (fun x => by
    by_cases e : x = k
    · subst e; simp [hk, hv]
    · rw [upd_ne _ _ e]) hf).symm
end Go.Ct
namespace Go.Proofs
open Go.RowKit Go.Wi Go.Ct
noncomputable def Try.kI : Ky Try.prog 3 Int := intKy Try.underlying3
noncomputable def Try.kS : Ky Try.prog 9 ByteArray := strKy Try.underlying9
theorem Try.uNotes : Try.prog.underlying 59 = some (.map 3 56) := by kernel_rfl
theorem Try.uPages : Try.prog.underlying 58 = some (.map 9 52) := by kernel_rfl
theorem Try.uRooms : Try.prog.underlying 44 = some (.map 9 58) := by kernel_rfl
theorem Try.uPlaces : Try.prog.underlying 43 = some (.map 9 3) := by kernel_rfl
theorem Try.zInt (w : World) : (zeroValue 3).run Try.prog w = .ok (.int .i64 0) w := by kernel_rfl
theorem Try.zNote (w : World) : (zeroValue 56).run Try.prog w = .ok (.agg #[.bool false]) w := by kernel_rfl
theorem Try.field_note (b : Bool) (w : World) : (Instr.field 56 (.agg #[.bool b]) 0).run Try.prog w = .ok (.bool b) w := by kernel_rfl
theorem Try.zPage (w : World) : (zeroValue 52).run Try.prog w = .ok (.pointer none) w := by kernel_rfl
theorem Try.zPages (w : World) : (zeroValue 58).run Try.prog w = .ok (.map none) w := by kernel_rfl
/-- A page in memory. -/
structure Try.Pg (w : World) (p : Nat) (o : Option Nat) (n : Nat) (m : Int) (f : Int → Option Bool) : Prop where
  bl : w.heap[p]? = some (.cells #[.int .i64 m, .map o, .int .i64 (cntT f : Nat)] 61 (0, 0))
  mp : Mp Try.kI w o n (fun k => (f k).map noteV)
section
variable {w w' : World} {p : Nat} {o : Option Nat} {n : Nat} {m : Int} {f : Int → Option Bool}
theorem Try.Pg.ne (h : Try.Pg w p o n m f) : o ≠ some p := fun e => by
  rcases h.mp.ex with ⟨h1, _⟩ | ⟨b, D, h1, ⟨es, c, h2, _⟩, _⟩
  · rw [h1] at e; cases e
  · rw [h1] at e; injection e with e; subst e
    rw [h.bl] at h2; cases h2
theorem Try.Pg.keep (h : Try.Pg w p o n m f) (hp : w'.heap[p]? = w.heap[p]?) (ho : ∀ b, o = some b → w'.heap[b]? = w.heap[b]?) : Try.Pg w' p o n m f :=
  ⟨hp.trans h.bl, h.mp.keep ho⟩
theorem Try.Pg.lt (h : Try.Pg w p o n m f) : p < w.heap.size := block_lt h.bl
/-- What a call that writes on a page leaves. -/
structure Try.PChg (w w' : World) (p : Nat) (o : Option Nat) (n : Nat) (m : Int) (f : Int → Option Bool) : Prop where
  ex : ∃ o', Try.Pg w' p o' n m f ∧ ∀ b, o' = some b → o = some b ∨ w.heap.size ≤ b
  wo : Wo (fun x => x = p ∨ o = some x) w w'
end
theorem Ct.alloc_old {w : World} {x : Nat} (o : Obj) (h : x < w.heap.size) : (w.alloc o).heap[x]? = w.heap[x]? := (World.grownBy_alloc w o none).block x h (by simp)
/-- The highlights that a map of notes holds are so and so many. -/
theorem Try.fin_of {w : World} {o : Option Nat} {n : Nat} {f : Int → Option Bool} (h : Mp Try.kI w o n (fun k => (f k).map noteV)) : ∃ L : List Int, (L.Nodup ∧ ∀ x, x ∈ L ↔ f x = some true) ∧ L.length ≤ n := by
  obtain ⟨L, h1, h2, h3, _⟩ := h.list Try.uNotes
  refine ⟨L.filter (fun x => f x == some true), ⟨h1.filter _, fun x => ?_⟩, Nat.le_trans (List.length_filter_le _ _) h3⟩
  rw [List.mem_filter, h2 x]
  cases hx : f x with
  | none => simp
  | some b => cases b <;> simp
theorem Try.fin {w : World} {o : Option Nat} {n : Nat} {f : Int → Option Bool} (h : Mp Try.kI w o n (fun k => (f k).map noteV)) : ∃ L : List Int, L.Nodup ∧ ∀ x, x ∈ L ↔ f x = some true := by
  obtain ⟨L, h1, -⟩ := Try.fin_of h
  exact ⟨L, h1⟩
theorem Try.cnt_le {w : World} {o : Option Nat} {n : Nat} {f : Int → Option Bool} (h : Mp Try.kI w o n (fun k => (f k).map noteV)) : cntT f ≤ n := by
  obtain ⟨L, h1, h2⟩ := Try.fin_of h
  rw [cntT_eq h1.1 h1.2]; exact h2
theorem Ct.look_note {f : Int → Option Bool} {k : Int} : (((fun k => (f k).map noteV) k).getD (.agg #[.bool false])) = .agg #[.bool (decide (f k = some true))] := by
  show ((f k).map noteV).getD _ = _
  cases hx : f k with
  | none => simp
  | some b => cases b <;> simp [noteV]
set_option maxHeartbeats 1000000 in
set_option maxRecDepth 20000 in
/-- take, of a page that has it. -/
theorem Try.take_yes {w w3 : World} {p : Nat} {o : Option Nat} {m : Int} {c : Nat} (hbl : w.heap[p]? = some (.cells #[.int .i64 m, .map o, .int .i64 (c + 1 : Nat)] 61 (0, 0))) (k : Int) (hc : c + 1 ≤ 9223372036854775807)
    (hl : (Instr.lookup 59 (.map o) (.int .i64 k) false).run Try.prog w = .ok (.agg #[.bool true]) w)
    (hd : ∀ ty, (Builtin.delete_ #[59, 3] ty #[.map o, .int .i64 k]).run Try.prog (w.setCell ⟨p, 2, none⟩ (.int .i64 (c : Nat))) = .ok (.tuple #[]) w3) :
    Calls Try.prog 25 #[.pointer (some ⟨p, 0, none⟩), .int .i64 k] w fun e w' => (∃ v, e = .returned v) ∧ w3 = w' := by
  have c1 : w.cell? ⟨p, 1, none⟩ = some (.map o) := cell_of_row _ _ 1 _ _ _ hbl
  have c2 : w.cell? ⟨p, 2, none⟩ = some (.int .i64 (c + 1 : Nat)) := cell_of_row _ _ 2 _ _ _ hbl
  have f2 : w.frozen? ⟨p, 2, none⟩ = false := frozen_of_row _ _ 2 _ _ hbl
  have d1 : (w.setCell ⟨p, 2, none⟩ (.int .i64 (c : Nat))).cell? ⟨p, 1, none⟩ = some (.map o) := (World.cell?_setCell_other _ _ _ _ (fun e => by injection e with e1 e2; omega)).trans c1
  have e1 : IntKind.i64.wrap (((c + 1 : Nat) : Int) - 1) = (c : Int) := by rw [IntKind.wrap_i64]; omega
  have hfd := Try.field_note
  clear hbl
  go_enter Try.func25, Try.ntmps25
  go_wp2
  go_end0
  exact ⟨⟨_, rfl⟩, rfl⟩
set_option maxHeartbeats 1000000 in
set_option maxRecDepth 20000 in
/-- .. that has none. -/
theorem Try.take_no {w w3 : World} {p : Nat} {o : Option Nat} {m : Int} {c : Int} (hbl : w.heap[p]? = some (.cells #[.int .i64 m, .map o, .int .i64 c] 61 (0, 0))) (k : Int)
    (hl : (Instr.lookup 59 (.map o) (.int .i64 k) false).run Try.prog w = .ok (.agg #[.bool false]) w)
    (hd : ∀ ty, (Builtin.delete_ #[59, 3] ty #[.map o, .int .i64 k]).run Try.prog w = .ok (.tuple #[]) w3) :
    Calls Try.prog 25 #[.pointer (some ⟨p, 0, none⟩), .int .i64 k] w fun e w' => (∃ v, e = .returned v) ∧ w3 = w' := by
  have c1 : w.cell? ⟨p, 1, none⟩ = some (.map o) := cell_of_row _ _ 1 _ _ _ hbl
  have hfd := Try.field_note
  clear hbl
  go_enter Try.func25, Try.ntmps25
  go_wp2
  go_end0
  exact ⟨⟨_, rfl⟩, rfl⟩
/-- take, of a page. -/
theorem Try.take_any {w : World} {p : Nat} {o : Option Nat} {n : Nat} {m : Int} {f : Int → Option Bool} (h : Try.Pg w p o n m f) (hn : n ≤ maxLen) (k : Int) (hk : (Lit.int .i64 k).wf = true) :
    Calls Try.prog 25 #[.pointer (some ⟨p, 0, none⟩), .int .i64 k] w fun e w' => (∃ v, e = .returned v) ∧ Try.Pg w' p o n m (upd f k none) ∧ Wo (fun x => x = p ∨ o = some x) w w' ∧ w'.heap.size = w.heap.size := by
  have hl := h.mp.look Try.uNotes (Try.zNote w) (x := k) hk
  rw [Ct.look_note] at hl
  have hfn := Try.fin h.mp
  have hle := Try.cnt_le h.mp
  have hup : ∀ x, upd (fun k => (f k).map noteV) k none x = (upd f k none x).map noteV := fun x => by
    by_cases e : x = k
    · subst e; simp
    · rw [upd_ne _ _ e, upd_ne _ _ e]
  by_cases ht : f k = some true
  · rw [decide_eq_true ht] at hl
    have hdn := cntT_dn ht hfn
    have hbl := h.bl
    rw [hdn] at hbl
    have e2 := heap_setCell_same w p 2 #[.int .i64 m, .map o, .int .i64 ((cntT (upd f k none) + 1 : Nat) : Int)] 61 (.int .i64 (cntT (upd f k none) : Nat)) hbl
    obtain ⟨w3, hd, hM, hg, hs, -⟩ := (h.mp.keep (w' := w.setCell ⟨p, 2, none⟩ (.int .i64 (cntT (upd f k none) : Nat))) fun x hx => Below.heap_setCell _ ⟨p, 2, none⟩ _ _ (fun e => h.ne (by rw [hx, e]))).drop Try.uNotes (x := k) hk
    refine (Try.take_yes hbl k (by unfold maxLen at hn; omega) hl hd).mono ?_
    rintro e w' ⟨h1, rfl⟩
    refine ⟨h1, ⟨((hg.block p (by simpa using h.lt) (Ne.symm h.ne)).trans e2), hM.cong hup⟩, ((Wo.refl _ w).setCell p 2 _ (.inl (.inl rfl))).grown hg fun x e => .inl (.inr e), by rw [hs]; simp⟩
  · rw [decide_eq_false ht] at hl
    obtain ⟨w3, hd, hM, hg, hs, -⟩ := h.mp.drop Try.uNotes (x := k) hk
    refine (Try.take_no h.bl k hl hd).mono ?_
    rintro e w' ⟨h1, rfl⟩
    refine ⟨h1, ⟨?_, hM.cong hup⟩, (Wo.refl _ w).grown hg fun x e => .inl (.inr e), hs⟩
    rw [hg.block p h.lt (Ne.symm h.ne), h.bl, cntT_same ht (by simp) hfn]
set_option maxHeartbeats 1000000 in
set_option maxRecDepth 20000 in
theorem Try.tidy_any {w : World} {p : Nat} {o : Option Nat} {n : Nat} {m : Int} {f : Int → Option Bool} (h : Try.Pg w p o n m f) :
    Calls Try.prog 26 #[.pointer (some ⟨p, 0, none⟩)] w fun e w' => (∃ v, e = .returned v) ∧ ∃ o', Try.Pg w' p o' n m f ∧ (o' = o ∨ o' = none) ∧ (o' = none ↔ ∀ k, f k = none) ∧ Wo (fun x => x = p) w w' ∧ w'.heap.size = w.heap.size := by
  obtain ⟨L, hL1, hL2, _, hlen⟩ := h.mp.list Try.uNotes
  have c1 : w.cell? ⟨p, 1, none⟩ = some (.map o) := cell_of_row _ _ 1 _ _ _ h.bl
  have f1 : w.frozen? ⟨p, 1, none⟩ = false := frozen_of_row _ _ 1 _ _ h.bl
  by_cases hl : L.length = 0
  · have hL : L = [] := List.eq_nil_of_length_eq_zero hl
    have hf0 : ∀ k, f k = none := fun k => by
      have := hL2 k
      rw [hL] at this
      cases hk : f k with
      | none => rfl
      | some v => simp [hk] at this
    rw [hl] at hlen
    have H : Hid _ := h
    clear h hL1 hL2
    go_enter Try.func26, Try.ntmps26
    go_wp2
    go_end0
    have e2 := heap_setCell_same _ p 1 #[.int .i64 m, .map o, .int .i64 (cntT f : Nat)] 61 (.map none) H.out.bl
    exact ⟨⟨_, rfl⟩, none, ⟨e2, ⟨.inl ⟨rfl, fun x => by simp [hf0]⟩⟩⟩, .inr rfl, ⟨fun _ => hf0, fun _ => rfl⟩, (Wo.refl _ w).setCell p 1 _ (.inl rfl), by simp⟩
  · have hne : ((L.length : Nat) : Int) ≠ 0 := by omega
    have hex : ¬ ∀ k, f k = none := fun hf => by
      cases L with
      | nil => exact hl rfl
      | cons x l =>
        have := (hL2 x).1 (by simp)
        simp [hf] at this
    have ho : o ≠ none := fun e => by
      rcases h.mp.ex with ⟨_, h1⟩ | ⟨b, D, h1, _⟩
      · exact hex fun k => by simpa using h1 k
      · rw [e] at h1; cases h1
    generalize L.length = l at *
    have H : Hid _ := h
    clear h hL1 hL2
    go_enter Try.func26, Try.ntmps26
    go_wp2
    go_end0
    exact ⟨⟨_, rfl⟩, o, H.out, .inl rfl, ⟨fun e => absurd e ho, fun e => absurd e hex⟩, Wo.refl _ w, rfl⟩
end Go.Proofs
