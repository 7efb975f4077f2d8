/-
  The map of couples that 'alike' is handed.
-/
import Derived.Test.YtelhjocmiamfiaaGreatDoorJsm
import Derived.Maps.Keyed
namespace Go.Proofs
open Go.RowKit Go.Jv
/-- A block as it was laid. -/
def Jv.Pl (w : World) (a : Nat) : Prop := ∃ cs T, w.heap[a]? = some (.cells cs T (0, 0)) ∧ cs.size ≠ 0
theorem Jv.pl_keep {w w' : World} {a : Nat} (h : Jv.Pl w a) (hk : w'.heap[a]? = w.heap[a]?) : Jv.Pl w' a := by
  obtain ⟨cs, T, h1, h2⟩ := h
  exact ⟨cs, T, hk.trans h1, h2⟩
theorem Jv.same_addr {P : Program} {w : World} {x y : Nat} (hx : Jv.Pl w x) (hy : Jv.Pl w y) : (sameAddr ⟨x, 0, none⟩ ⟨y, 0, none⟩).run P w = .ok (decide (x = y)) w := by
  obtain ⟨ca, ta, ha, ha2⟩ := hx
  obtain ⟨cb, tb, hb, hb2⟩ := hy
  by_cases h : x = y
  · subst h
    simp [sameAddr]
  · simp [sameAddr, h, World.frozen?, ha, hb, noView, viewAt, World.shape?, mayBeOne, stringish, hb2]
theorem Tryz.eq_ptr {w : World} {x y : Nat} (hx : Jv.Pl w x) (hy : Jv.Pl w y) (d : Nat) : (Op.equalIn (d + 1) 24 (.pointer (some ⟨x, 0, none⟩)) (.pointer (some ⟨y, 0, none⟩))).run Tryz.prog w = .ok (decide (x = y)) w := by
  have hi := Tryz.info_val
  cases hj : Tryz.prog.info? 50 with
  | none => rw [hj] at hi; cases hi
  | some j =>
    rw [hj] at hi
    have hsz : j.size ≠ 0 := by simp at hi; omega
    simp [Op.equalIn, run_underlying Tryz.underlying24, sizeOf, typeInfo, hj, hsz, Jv.same_addr hx hy]
def Jv.cpl (a b : Nat) : Value := .agg #[.pointer (some ⟨a, 0, none⟩), .pointer (some ⟨b, 0, none⟩)]
theorem Tryz.part_ptr (cs : Array Value) (off : Nat) (v : Value) (W : World) (h : cs[off]? = some v) : (part 24 cs off).run Tryz.prog W = .ok v W := by
  simp [part, isAgg, run_underlying Tryz.underlying24, h]
theorem Tryz.eq_cplIn {w : World} {a b c d : Nat} (ha : Jv.Pl w a) (hb : Jv.Pl w b) (hc : Jv.Pl w c) (hd : Jv.Pl w d) (n : Nat) : (Op.equalIn (n + 1 + 1) 58 (Jv.cpl a b) (Jv.cpl c d)).run Tryz.prog w = .ok (decide (a = c ∧ b = d)) w := by
  have h1 := Tryz.eq_ptr ha hc n
  have h2 := Tryz.eq_ptr hb hd n
  generalize hE : Op.equalIn (n + 1) = E at h1 h2
  unfold Jv.cpl
  rw [Op.equalIn, hE]
  have p0 := fun W => Tryz.part_ptr #[.pointer (some ⟨a, 0, none⟩), .pointer (some ⟨b, 0, none⟩)] 0 _ W rfl
  have p1 := fun W => Tryz.part_ptr #[.pointer (some ⟨a, 0, none⟩), .pointer (some ⟨b, 0, none⟩)] 1 _ W rfl
  have p2 := fun W => Tryz.part_ptr #[.pointer (some ⟨c, 0, none⟩), .pointer (some ⟨d, 0, none⟩)] 0 _ W rfl
  have p3 := fun W => Tryz.part_ptr #[.pointer (some ⟨c, 0, none⟩), .pointer (some ⟨d, 0, none⟩)] 1 _ W rfl
  have hst : Tryz.prog.stoodInHeld 58 = false := by kernel_rfl
  by_cases e1 : a = c
  · rw [decide_eq_true e1] at h1
    by_cases e2 : b = d
    · rw [decide_eq_true e2] at h2
      rw [decide_eq_true ⟨e1, e2⟩]
      simp [run_underlying Tryz.underlying58, hst, p0, p1, p2, p3, h1, h2]
    · rw [decide_eq_false e2] at h2
      rw [decide_eq_false (fun e => e2 e.2)]
      simp [run_underlying Tryz.underlying58, hst, p0, p1, p2, p3, h1, h2]
  · rw [decide_eq_false e1] at h1
    rw [decide_eq_false (fun e => e1 e.1)]
    simp [run_underlying Tryz.underlying58, hst, p0, p1, p2, p3, h1]
theorem Tryz.eq_cpl {w : World} {a b c d : Nat} (ha : Jv.Pl w a) (hb : Jv.Pl w b) (hc : Jv.Pl w c) (hd : Jv.Pl w d) : (Op.equal 58 (Jv.cpl a b) (Jv.cpl c d)).run Tryz.prog w = .ok (decide (a = c ∧ b = d)) w := Tryz.eq_cplIn ha hb hc hd 9998
/-- The map: couples of blocks as they were laid, each with nothing. -/
def Jv.Mo (w : World) (es : Array MapEntry) : Prop := ∀ e ∈ es.toList, e.val = .agg #[] ∧ ∃ a b, e.key = Jv.cpl a b ∧ Jv.Pl w a ∧ Jv.Pl w b
theorem Tryz.find_any {w : World} {x y : Nat} (hx : Jv.Pl w x) (hy : Jv.Pl w y) : ∀ (l : List MapEntry) (i : Nat), (∀ e ∈ l, e.val = .agg #[] ∧ ∃ a b, e.key = Jv.cpl a b ∧ Jv.Pl w a ∧ Jv.Pl w b) →
    (Instr.findAsking 58 (Jv.cpl x y) l i).run Tryz.prog w = .ok none w ∨ ∃ j e, l[j]? = some e ∧ e.key = Jv.cpl x y ∧ (Instr.findAsking 58 (Jv.cpl x y) l i).run Tryz.prog w = .ok (some (i + j, .agg #[])) w
  | [], i, _ => .inl (by simp [Instr.findAsking])
  | e :: l, i, h => by
    obtain ⟨h1, a, b, h2, h3, h4⟩ := h e (by simp)
    have hq := Tryz.eq_cpl hx hy h3 h4
    by_cases he : x = a ∧ y = b
    · refine .inr ⟨0, e, rfl, by rw [h2, he.1, he.2], ?_⟩
      rw [decide_eq_true he] at hq
      simp [Instr.findAsking, h2, hq, h1]
    · rw [decide_eq_false he] at hq
      rcases Tryz.find_any hx hy l (i + 1) (fun e' he' => h e' (by simp [he'])) with hr | ⟨j, e', r1, r2, r3⟩
      · exact .inl (by simp [Instr.findAsking, h2, hq, hr])
      · exact .inr ⟨j + 1, e', by simpa using r1, r2, by simp [Instr.findAsking, h2, hq, r3]; omega⟩
theorem Tryz.findKey_any {w : World} {x y : Nat} (hx : Jv.Pl w x) (hy : Jv.Pl w y) (es : Array MapEntry) (h : Jv.Mo w es) :
    (Instr.findKey 58 (Jv.cpl x y) es.toList).run Tryz.prog w = .ok none w ∨ ∃ j e, es.toList[j]? = some e ∧ e.key = Jv.cpl x y ∧ (Instr.findKey 58 (Jv.cpl x y) es.toList).run Tryz.prog w = .ok (some (j, .agg #[])) w := by
  have hf := Tryz.find_any hx hy es.toList 0 h
  unfold Jv.Mo at h
  generalize es.toList = l at *
  cases l with
  | nil => exact .inl (by simp [Instr.findKey, run_underlying Tryz.underlying58, Instr.findNow])
  | cons e l =>
    obtain ⟨-, a, b, h2, -, -⟩ := h e (by simp)
    have hn : Instr.findNow (.struct #[]) (Jv.cpl x y) (e :: l) 0 = none := by simp [Instr.findNow, Instr.sameNow]
    rcases hf with hr | ⟨j, e', r1, r2, r3⟩
    · exact .inl (by simp [Instr.findKey, run_underlying Tryz.underlying58, Instr.findNow, h2, Instr.sameNow, hr]; done)
    · exact .inr ⟨j, e', r1, r2, by simp [Instr.findKey, run_underlying Tryz.underlying58, Instr.findNow, h2, Instr.sameNow, r3]; done⟩
theorem Tryz.check_cpl (w : World) (em : Bool) (x y n : Nat) : (Instr.checkKey em (n + 1 + 1) 58 (Jv.cpl x y)).run Tryz.prog w = .ok () w := by
  have h1 : ∀ (a : Nat) W, (Instr.checkKey em (n + 1) 24 (.pointer (some ⟨a, 0, none⟩))).run Tryz.prog W = .ok () W := fun a W => by
    simp [Instr.checkKey, run_underlying Tryz.underlying24]
  generalize hE : Instr.checkKey em (n + 1) = E at h1
  unfold Jv.cpl
  rw [Instr.checkKey, hE]
  have p0 := fun W => Tryz.part_ptr #[.pointer (some ⟨x, 0, none⟩), .pointer (some ⟨y, 0, none⟩)] 0 _ W rfl
  have p1 := fun W => Tryz.part_ptr #[.pointer (some ⟨x, 0, none⟩), .pointer (some ⟨y, 0, none⟩)] 1 _ W rfl
  simp [run_underlying Tryz.underlying58, p0, p1, h1]
theorem Tryz.zero_st (W : World) : (zeroValue 55).run Tryz.prog W = .ok (.agg #[]) W := by kernel_rfl
theorem Tryz.lookup_any {w : World} {x y m : Nat} {es : Array MapEntry} {cl : Nat} (hm : w.heap[m]? = some (.map es cl)) (hx : Jv.Pl w x) (hy : Jv.Pl w y) (h : Jv.Mo w es) :
    ∃ b : Bool, (Instr.lookup 40 (.map (some m)) (Jv.cpl x y) true).run Tryz.prog w = .ok (.tuple #[.agg #[], .bool b]) w := by
  have hc : ∀ em, (Instr.checkKey em 10000 58 (Jv.cpl x y)).run Tryz.prog w = .ok () w := fun em => Tryz.check_cpl w em x y 9998
  have hz := Tryz.zero_st w
  rcases Tryz.findKey_any hx hy es h with hr | ⟨j, e, -, -, hr⟩
  · exact ⟨false, by simp [Instr.lookup, run_underlying Tryz.underlying40, MapKept.run_getObj_map hm, hc, hr, hz, Result.andThen]⟩
  · exact ⟨true, by simp [Instr.lookup, run_underlying Tryz.underlying40, MapKept.run_getObj_map hm, hc, hr, Result.andThen]⟩
/-- The map, in memory. -/
structure Jv.Mp (w : World) (m : Nat) : Prop where
  ex : ∃ es cl, w.heap[m]? = some (.map es cl) ∧ Jv.Mo w es
theorem Tryz.update_any {w : World} {x y m : Nat} (h : Jv.Mp w m) (hx : Jv.Pl w x) (hy : Jv.Pl w y) :
    ∃ w', (Instr.mapUpdate 40 (.map (some m)) (Jv.cpl x y) (.agg #[])).run Tryz.prog w = .ok () w' ∧ Jv.Mp w' m ∧ w'.os = w.os ∧ w'.tape = w.tape ∧ w'.output = w.output ∧ w'.heap.size = w.heap.size ∧ ∀ k, k ≠ m → w'.heap[k]? = w.heap[k]? := by
  obtain ⟨es, cl, hm, hmo⟩ := h.ex
  have hc : (Instr.checkKey false 10000 58 (Jv.cpl x y)).run Tryz.prog w = .ok () w := Tryz.check_cpl w false x y 9998
  have hpl : ∀ (o : Obj) (a : Nat), Jv.Pl w a → Jv.Pl { w with heap := w.heap.set! m o } a := fun o a ha => by
    obtain ⟨cs, T, h1, h2⟩ := ha
    refine ⟨cs, T, ?_, h2⟩
    have hne : m ≠ a := fun e => by rw [e, h1] at hm; cases hm
    simp only [Array.set!_eq_setIfInBounds, Array.getElem?_setIfInBounds_ne hne]
    exact h1
  have hml : m < w.heap.size := (Array.getElem?_eq_some_iff.1 hm).1
  have hst : (Instr.keyThatStays (Jv.cpl x y) (Jv.cpl x y)).run Tryz.prog w = .ok (Jv.cpl x y) w := by
    simp [Instr.keyThatStays, Jv.cpl, Instr.sameBits]
  rcases Tryz.findKey_any hx hy es hmo with hr | ⟨j, e, he, hek, hr⟩
  · refine ⟨{ w with heap := w.heap.set! m (.map (es.push { key := Jv.cpl x y, val := .agg #[], born := cl }) (cl + 1)) }, ?_, ⟨es.push { key := Jv.cpl x y, val := .agg #[], born := cl }, cl + 1, by simp [hml], ?_⟩, rfl, rfl, rfl, by simp, fun k hk => by simp [Array.getElem?_setIfInBounds_ne (Ne.symm hk)]⟩
    · simp [Instr.mapUpdate, run_underlying Tryz.underlying40, MapKept.run_getObj_map hm, hc, hr, MapKept.run_setObj_map _ hm, Result.andThen]
    · intro e' he'
      simp only [Array.toList_push, List.mem_append, List.mem_singleton] at he'
      rcases he' with he' | rfl
      · obtain ⟨h1, a, b, h2, h3, h4⟩ := hmo e' he'
        exact ⟨h1, a, b, h2, hpl _ a h3, hpl _ b h4⟩
      · exact ⟨rfl, x, y, rfl, hpl _ x hx, hpl _ y hy⟩
  · have hj : es[j]? = some e := by rw [← Array.getElem?_toList]; exact he
    refine ⟨{ w with heap := w.heap.set! m (.map (es.modify j fun e => { e with key := Jv.cpl x y, val := .agg #[] }) cl) }, ?_, ⟨es.modify j fun e => { e with key := Jv.cpl x y, val := .agg #[] }, cl, by simp [hml], ?_⟩, rfl, rfl, rfl, by simp, fun k hk => by simp [Array.getElem?_setIfInBounds_ne (Ne.symm hk)]⟩
    · simp [Instr.mapUpdate, run_underlying Tryz.underlying40, MapKept.run_getObj_map hm, hc, hr, hj, hek, hst, MapKept.run_setObj_map _ hm, Result.andThen]
    · intro e' he'
      obtain ⟨i, hi⟩ := List.mem_iff_getElem?.1 he'
      rw [Array.getElem?_toList, Array.getElem?_modify] at hi
      split at hi
      · cases hq : es[i]? with
        | none => rw [hq] at hi; cases hi
        | some q =>
          rw [hq] at hi
          simp at hi
          subst hi
          exact ⟨rfl, x, y, rfl, hpl _ x hx, hpl _ y hy⟩
      · obtain ⟨h1, a, b, h2, h3, h4⟩ := hmo e' (List.mem_iff_getElem?.2 ⟨i, by rw [Array.getElem?_toList]; exact hi⟩)
        exact ⟨h1, a, b, h2, hpl _ a h3, hpl _ b h4⟩
theorem Jv.mp_keep {w w' : World} {m : Nat} (h : Jv.Mp w m) (hk : ∀ k, k < w.heap.size → w'.heap[k]? = w.heap[k]?) : Jv.Mp w' m := by
  obtain ⟨es, cl, hm, hmo⟩ := h.ex
  refine ⟨es, cl, (hk m (Array.getElem?_eq_some_iff.1 hm).1).trans hm, fun e he => ?_⟩
  obtain ⟨h1, a, b, h2, h3, h4⟩ := hmo e he
  have hl : ∀ a, Jv.Pl w a → a < w.heap.size := fun a ha => by obtain ⟨cs, T, h, -⟩ := ha; exact (Array.getElem?_eq_some_iff.1 h).1
  exact ⟨h1, a, b, h2, Jv.pl_keep h3 (hk a (hl a h3)), Jv.pl_keep h4 (hk b (hl b h4))⟩
end Go.Proofs
