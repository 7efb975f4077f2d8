/-
  Laid together by packg.py of TnM TnN.
-/
import Derived.Test.YtcakkkafanpjaaaGreatDoorQaZ
import Derived.Test.YtcakkkafanpjaaaGreatDoorQaX
namespace Go.Proofs
open Go.RowKit Go.Jv
theorem Jv.rw_fun {w : World} {ok ok' : Nat → Prop} {e e' : TypeId} {sv : Value} {v1 v2 : List Value} (h1 : Jv.Rw w ok e sv v1) (h2 : Jv.Rw w ok' e' sv v2) : v1 = v2 := by
  obtain ⟨a1, c1, e1⟩ := Jv.row_form h1.row
  obtain ⟨a2, c2, e2⟩ := Jv.row_form h2.row
  rw [e1] at e2
  have hl : v1.length = v2.length := by injection e2
  by_cases h0 : 0 < v1.length
  · obtain ⟨g1, d1, f1, -, -, r1⟩ := Jv.row_cells h1 h0
    obtain ⟨g2, d2, f2, -, -, r2⟩ := Jv.row_cells h2 (by omega)
    rw [f1] at f2
    have hg : g1 = g2 := by
      injection f2 with f2
      injection f2 with f2
      injection f2
    subst hg
    apply List.ext_getElem? 
    intro j
    by_cases hj : j < v1.length
    · have q1 := r1 j v1[j] (List.getElem?_eq_getElem hj)
      have q2 := r2 j (v2[j]'(by omega)) (List.getElem?_eq_getElem (by omega))
      rw [q1] at q2
      rw [List.getElem?_eq_getElem hj, List.getElem?_eq_getElem (by omega : j < v2.length)]
      exact q2
    · rw [List.getElem?_eq_none (by omega), List.getElem?_eq_none (by omega)]
  · have n1 : v1 = [] := List.eq_nil_of_length_eq_zero (by omega)
    have n2 : v2 = [] := List.eq_nil_of_length_eq_zero (by omega)
    rw [n1, n2]
theorem Jv.ptrs_inj {a b : List Nat} (h : Jv.ptrs a = Jv.ptrs b) : a = b := by
  unfold Jv.ptrs at h
  exact List.map_inj_right (fun x y e => by injection e with e; injection e with e; injection e) |>.1 h
theorem Jv.strs_inj {a b : List ByteArray} (h : a.map Value.string = b.map Value.string) : a = b :=
  List.map_inj_right (fun x y e => by injection e) |>.1 h
theorem Jv.Vb.same {w : World} {x : Nat} {k k' : Int} {tr tr' : Bool} {n n' : Int} {s s' : ByteArray} {ks ks' is is' : Value} (h : Jv.Vb w x k tr n s ks is) (g : Jv.Vb w x k' tr' n' s' ks' is') : k = k' ∧ tr = tr' ∧ n = n' ∧ s = s' ∧ ks = ks' ∧ is = is' := by
  have a0 := h.c0.symm.trans g.c0
  have a1 := h.c1.symm.trans g.c1
  have a2 := h.c2.symm.trans g.c2
  have a3 := h.c3.symm.trans g.c3
  have a4 := h.c4.symm.trans g.c4
  have a5 := h.c5.symm.trans g.c5
  simp only [Option.some.injEq, Value.int.injEq, Value.bool.injEq, Value.string.injEq, true_and] at a0 a1 a2 a3 a4 a5
  exact ⟨a0, a1, a2, a3, a4, a5⟩
mutual
/-- One block, one value. -/
theorem Tryz.Tr_fun {w : World} {ok ok' : Nat → Prop} : ∀ (v u : V) (x : Nat), Tryz.Tr w ok v x → Tryz.Tr w ok' u x → v = u
  | .null, u, x, h, g => by
    cases u with
    | null => rfl
    | list l => unfold Tryz.Tr at h g; obtain ⟨-, sv, xs, g, -⟩ := g; exact absurd (h.2.same g).1 (by decide)
    | obj ks l => unfold Tryz.Tr at h g; obtain ⟨-, kv, sv, xs, g, -⟩ := g; exact absurd (h.2.same g).1 (by decide)
    | _ => unfold Tryz.Tr at h g; exact absurd (h.2.same g.2).1 (by decide)
  | .bool b, u, x, h, g => by
    cases u with
    | bool c => unfold Tryz.Tr at h g; rw [(h.2.same g.2).2.1]
    | list l => unfold Tryz.Tr at h g; obtain ⟨-, sv, xs, g, -⟩ := g; exact absurd (h.2.same g).1 (by decide)
    | obj ks l => unfold Tryz.Tr at h g; obtain ⟨-, kv, sv, xs, g, -⟩ := g; exact absurd (h.2.same g).1 (by decide)
    | _ => unfold Tryz.Tr at h g; exact absurd (h.2.same g.2).1 (by decide)
  | .int n, u, x, h, g => by
    cases u with
    | int c => unfold Tryz.Tr at h g; rw [(h.2.same g.2).2.2.1]
    | list l => unfold Tryz.Tr at h g; obtain ⟨-, sv, xs, g, -⟩ := g; exact absurd (h.2.same g).1 (by decide)
    | obj ks l => unfold Tryz.Tr at h g; obtain ⟨-, kv, sv, xs, g, -⟩ := g; exact absurd (h.2.same g).1 (by decide)
    | _ => unfold Tryz.Tr at h g; exact absurd (h.2.same g.2).1 (by decide)
  | .text s, u, x, h, g => by
    cases u with
    | text c => unfold Tryz.Tr at h g; rw [(h.2.same g.2).2.2.2.1]
    | list l => unfold Tryz.Tr at h g; obtain ⟨-, sv, xs, g, -⟩ := g; exact absurd (h.2.same g).1 (by decide)
    | obj ks l => unfold Tryz.Tr at h g; obtain ⟨-, kv, sv, xs, g, -⟩ := g; exact absurd (h.2.same g).1 (by decide)
    | _ => unfold Tryz.Tr at h g; exact absurd (h.2.same g.2).1 (by decide)
  | .list l, u, x, h, g => by
    unfold Tryz.Tr at h
    obtain ⟨-, sv, xs, h1, h2, h3⟩ := h
    cases u with
    | list l' =>
      unfold Tryz.Tr at g
      obtain ⟨-, sv', xs', g1, g2, g3⟩ := g
      obtain ⟨-, -, -, -, -, e⟩ := h1.same g1
      subst e
      have hx := Jv.ptrs_inj (Jv.rw_fun h2 g2)
      subst hx
      rw [Tryz.Trs_fun l l' xs h3 g3]
    | obj ks l' => unfold Tryz.Tr at g; obtain ⟨-, kv, sv', xs', g, -⟩ := g; exact absurd (h1.same g).1 (by decide)
    | _ => unfold Tryz.Tr at g; exact absurd (h1.same g.2).1 (by decide)
  | .obj ks l, u, x, h, g => by
    unfold Tryz.Tr at h
    obtain ⟨-, kv, sv, xs, h1, h2, h3, h4, -⟩ := h
    cases u with
    | obj ks' l' =>
      unfold Tryz.Tr at g
      obtain ⟨-, kv', sv', xs', g1, g2, g3, g4, -⟩ := g
      obtain ⟨-, -, -, -, e1, e2⟩ := h1.same g1
      subst e1 e2
      have hk := Jv.strs_inj (Jv.rw_fun h2 g2)
      have hx := Jv.ptrs_inj (Jv.rw_fun h3 g3)
      subst hx hk
      rw [Tryz.Trs_fun l l' xs h4 g4]
    | list l' => unfold Tryz.Tr at g; obtain ⟨-, sv', xs', g, -⟩ := g; exact absurd (h1.same g).1 (by decide)
    | _ => unfold Tryz.Tr at g; exact absurd (h1.same g.2).1 (by decide)
theorem Tryz.Trs_fun {w : World} {ok ok' : Nat → Prop} : ∀ (l k : List V) (xs : List Nat), Tryz.Trs w ok l xs → Tryz.Trs w ok' k xs → l = k
  | [], k, xs, h, g => by
    unfold Tryz.Trs at h
    subst h
    cases k with
    | nil => rfl
    | cons v k => unfold Tryz.Trs at g; obtain ⟨x, r, e, -⟩ := g; cases e
  | v :: l, k, xs, h, g => by
    unfold Tryz.Trs at h
    obtain ⟨x, r, rfl, h1, h2⟩ := h
    cases k with
    | nil => unfold Tryz.Trs at g; cases g
    | cons u k =>
      unfold Tryz.Trs at g
      obtain ⟨x', r', e, g1, g2⟩ := g
      injection e with e1 e2
      subst e1 e2
      rw [Tryz.Tr_fun v u x h1 g1, Tryz.Trs_fun l k r h2 g2]
end
/-- The map, in memory: what stands in it is related by R. -/
structure Jv.Mr (R : Nat → Nat → Prop) (w : World) (m : Nat) : Prop where
  ex : ∃ es cl, w.heap[m]? = some (.map es cl) ∧ Jv.Mo w es ∧ ∀ e ∈ es.toList, ∀ a b, e.key = Jv.cpl a b → R a b
theorem Jv.cpl_inj {a b c d : Nat} (h : Jv.cpl a b = Jv.cpl c d) : a = c ∧ b = d := by
  unfold Jv.cpl at h
  injection h with h
  simp at h
  exact h
theorem Tryz.lookup_r {R : Nat → Nat → Prop} {w : World} {x y m : Nat} (h : Jv.Mr R w m) (hx : Jv.Pl w x) (hy : Jv.Pl w y) :
    ∃ b : Bool, (b = true → R x y) ∧ (Instr.lookup 61 (.map (some m)) (Jv.cpl x y) true).run Tryz.prog w = .ok (.tuple #[.agg #[], .bool b]) w := by
  obtain ⟨es, cl, hm, hmo, hr0⟩ := h.ex
  have hc : ∀ em, (Instr.checkKey em 10000 104 (Jv.cpl x y)).run Tryz.prog w = .ok () w := fun em => Tryz.check_cpl w em x y 9998
  have hz := Tryz.zero_st w
  rcases Tryz.findKey_any hx hy es hmo with hr | ⟨j, e, he, hk, hr⟩
  · exact ⟨false, (fun e => by cases e), by simp [Instr.lookup, run_underlying Tryz.underlying61, MapKept.run_getObj_map hm, hc, hr, hz, Result.andThen]⟩
  · exact ⟨true, fun _ => hr0 e (List.mem_of_getElem? he) x y hk, by simp [Instr.lookup, run_underlying Tryz.underlying61, MapKept.run_getObj_map hm, hc, hr, Result.andThen]⟩
theorem Tryz.update_r {R : Nat → Nat → Prop} {w : World} {x y m : Nat} (h : Jv.Mr R w m) (hx : Jv.Pl w x) (hy : Jv.Pl w y) (hR : R x y) :
    ∃ w', (Instr.mapUpdate 61 (.map (some m)) (Jv.cpl x y) (.agg #[])).run Tryz.prog w = .ok () w' ∧ Jv.Mr R w' m ∧ w'.os = w.os ∧ w'.tape = w.tape ∧ w'.output = w.output ∧ w'.heap.size = w.heap.size ∧ ∀ k, k ≠ m → w'.heap[k]? = w.heap[k]? := by
  obtain ⟨es, cl, hm, hmo, hr0⟩ := h.ex
  have hc : (Instr.checkKey false 10000 104 (Jv.cpl x y)).run Tryz.prog w = .ok () w := Tryz.check_cpl w false x y 9998
  have hpl : ∀ (o : Obj) (a : Nat), Jv.Pl w a → Jv.Pl { w with heap := w.heap.set! m o } a := fun o a ha => by
    obtain ⟨cs, T, h1, h2⟩ := ha
    refine ⟨cs, T, ?_, h2⟩
    have hne : m ≠ a := fun e => by rw [e, h1] at hm; cases hm
    simp only [Array.set!_eq_setIfInBounds, Array.getElem?_setIfInBounds_ne hne]
    exact h1
  have hml : m < w.heap.size := (Array.getElem?_eq_some_iff.1 hm).1
  have hst : (Instr.keyThatStays (Jv.cpl x y) (Jv.cpl x y)).run Tryz.prog w = .ok (Jv.cpl x y) w := by
    simp [Instr.keyThatStays, Jv.cpl, Instr.sameBits]
  have hxy : ∀ a b, Jv.cpl x y = Jv.cpl a b → R a b := fun a b e => by
    obtain ⟨e1, e2⟩ := Jv.cpl_inj e
    rw [← e1, ← e2]; exact hR
  rcases Tryz.findKey_any hx hy es hmo with hr | ⟨j, e, he, hek, hr⟩
  · refine ⟨{ w with heap := w.heap.set! m (.map (es.push { key := Jv.cpl x y, val := .agg #[], born := cl }) (cl + 1)) }, ?_, ⟨es.push { key := Jv.cpl x y, val := .agg #[], born := cl }, cl + 1, by simp [hml], ?_, ?_⟩, rfl, rfl, rfl, by simp, fun k hk => by simp [Array.getElem?_setIfInBounds_ne (Ne.symm hk)]⟩
    · simp [Instr.mapUpdate, run_underlying Tryz.underlying61, MapKept.run_getObj_map hm, hc, hr, MapKept.run_setObj_map _ hm, Result.andThen]
    · intro e' he'
      simp only [Array.toList_push, List.mem_append, List.mem_singleton] at he'
      rcases he' with he' | rfl
      · obtain ⟨h1, a, b, h2, h3, h4⟩ := hmo e' he'
        exact ⟨h1, a, b, h2, hpl _ a h3, hpl _ b h4⟩
      · exact ⟨rfl, x, y, rfl, hpl _ x hx, hpl _ y hy⟩
    · intro e' he'
      simp only [Array.toList_push, List.mem_append, List.mem_singleton] at he'
      rcases he' with he' | rfl
      · exact hr0 e' he'
      · exact hxy
  · have hj : es[j]? = some e := by rw [← Array.getElem?_toList]; exact he
    refine ⟨{ w with heap := w.heap.set! m (.map (es.modify j fun e => { e with key := Jv.cpl x y, val := .agg #[] }) cl) }, ?_, ⟨es.modify j fun e => { e with key := Jv.cpl x y, val := .agg #[] }, cl, by simp [hml], ?_, ?_⟩, rfl, rfl, rfl, by simp, fun k hk => by simp [Array.getElem?_setIfInBounds_ne (Ne.symm hk)]⟩
    · simp [Instr.mapUpdate, run_underlying Tryz.underlying61, MapKept.run_getObj_map hm, hc, hr, hj, hek, hst, MapKept.run_setObj_map _ hm, Result.andThen]
    · intro e' he'
      obtain ⟨i, hi⟩ := List.mem_iff_getElem?.1 he'
      rw [Array.getElem?_toList, Array.getElem?_modify] at hi
      split at hi
      · cases hq : es[i]? with
        | none => rw [hq] at hi; cases hi
        | some q =>
          rw [hq] at hi
          simp at hi
          subst hi
          exact ⟨rfl, x, y, rfl, hpl _ x hx, hpl _ y hy⟩
      · obtain ⟨h1, a, b, h2, h3, h4⟩ := hmo e' (List.mem_iff_getElem?.2 ⟨i, by rw [Array.getElem?_toList]; exact hi⟩)
        exact ⟨h1, a, b, h2, hpl _ a h3, hpl _ b h4⟩
    · intro e' he'
      obtain ⟨i, hi⟩ := List.mem_iff_getElem?.1 he'
      rw [Array.getElem?_toList, Array.getElem?_modify] at hi
      split at hi
      · cases hq : es[i]? with
        | none => rw [hq] at hi; cases hi
        | some q =>
          rw [hq] at hi
          simp at hi
          subst hi
          exact hxy
      · exact hr0 e' (List.mem_iff_getElem?.2 ⟨i, by rw [Array.getElem?_toList]; exact hi⟩)
theorem Jv.mr_keep {R : Nat → Nat → Prop} {w w' : World} {m : Nat} (h : Jv.Mr R w m) (hk : ∀ k, k < w.heap.size → w'.heap[k]? = w.heap[k]?) : Jv.Mr R w' m := by
  obtain ⟨es, cl, hm, hmo, hr⟩ := h.ex
  refine ⟨es, cl, (hk m (Array.getElem?_eq_some_iff.1 hm).1).trans hm, fun e he => ?_, hr⟩
  obtain ⟨h1, a, b, h2, h3, h4⟩ := hmo e he
  have hl : ∀ a, Jv.Pl w a → a < w.heap.size := fun a ha => by obtain ⟨cs, T, h, -⟩ := ha; exact (Array.getElem?_eq_some_iff.1 h).1
  exact ⟨h1, a, b, h2, Jv.pl_keep h3 (hk a (hl a h3)), Jv.pl_keep h4 (hk b (hl b h4))⟩
end Go.Proofs
namespace Go.Proofs
open Go.RowKit Go.Jv
set_option maxRecDepth 100000 in
set_option maxHeartbeats 2000000 in
theorem Tryz.alx_kind {w : World} {x y : Nat} {ka : Int} {ba : Bool} {na : Int} {ta : ByteArray} {La : Nat} {kb : Int} {bb : Bool} {nb : Int} {tb : ByteArray} {Lb : Nat} {kv1 kv2 : Value} {a1 a2 : Option Addr} {c1 c2 : Nat} (hx : Jv.Vb w x ka ba na ta kv1 (.slice a1 La c1)) (hy : Jv.Vb w y kb bb nb tb kv2 (.slice a2 Lb c2)) (hne : ¬ x = y) (m : Value) (hd : ¬ ka = kb) :
    Calls Tryz.prog 24 #[.pointer (some ⟨x, 0, none⟩), .pointer (some ⟨y, 0, none⟩), m] w fun e w' => e = .returned (.bool false) ∧ w' = w := by
  obtain ⟨ca, ta', ha⟩ := hx.un
  have hq := Tryz.eql_val hne ha hy.c0
  clear ha
  have k1 := Tryz.kind_any hx
  have k2 := Tryz.kind_any hy
  have t1 := Tryz.true_of hx
  have t2 := Tryz.true_of hy
  have n1 := Tryz.num_of hx
  have n2 := Tryz.num_of hy
  have x1 := Tryz.text_of hx
  have x2 := Tryz.text_of hy
  have l1 := Tryz.len_of hx
  have l2 := Tryz.len_of hy
  have l3 := Tryz.len_of hx
  have q : (ka != kb) = true := by simpa using hd
  have q' : ¬ ka = kb := hd
  clear hx hy hd
  go_enter Tryz.func24, Tryz.ntmps24
  go_wp2_with (first
    | (go_at_call 12; refine k1.mono ?_; clear k1; rintro e1 w1 ⟨rfl, rfl⟩)
    | (go_at_call 12; refine k2.mono ?_; clear k2; rintro e1 w1 ⟨rfl, rfl⟩)
    | (go_at_call 32; refine t1.mono ?_; clear t1; rintro e1 w1 ⟨rfl, rfl⟩)
    | (go_at_call 32; refine t2.mono ?_; clear t2; rintro e1 w1 ⟨rfl, rfl⟩)
    | (go_at_call 34; refine n1.mono ?_; clear n1; rintro e1 w1 ⟨rfl, rfl⟩)
    | (go_at_call 34; refine n2.mono ?_; clear n2; rintro e1 w1 ⟨rfl, rfl⟩)
    | (go_at_call 36; refine x1.mono ?_; clear x1; rintro e1 w1 ⟨rfl, rfl⟩)
    | (go_at_call 36; refine x2.mono ?_; clear x2; rintro e1 w1 ⟨rfl, rfl⟩)
    | (go_at_call 38; refine l1.mono ?_; clear l1; rintro e1 w1 ⟨rfl, rfl⟩)
    | (go_at_call 38; refine l2.mono ?_; clear l2; rintro e1 w1 ⟨rfl, rfl⟩)
    | (go_at_call 38; refine l3.mono ?_; clear l3; rintro e3 w3 ⟨rfl, rfl⟩)
    | fail)
  go_ret
  exact ⟨rfl, rfl⟩
set_option maxRecDepth 100000 in
set_option maxHeartbeats 2000000 in
theorem Tryz.alx_truth {w : World} {x y : Nat} {ka : Int} {ba : Bool} {na : Int} {ta : ByteArray} {La : Nat} {bb : Bool} {nb : Int} {tb : ByteArray} {Lb : Nat} {kv1 kv2 : Value} {a1 a2 : Option Addr} {c1 c2 : Nat} (hx : Jv.Vb w x ka ba na ta kv1 (.slice a1 La c1)) (hy : Jv.Vb w y ka bb nb tb kv2 (.slice a2 Lb c2)) (hne : ¬ x = y) (m : Value) (hd : ¬ ba = bb) :
    Calls Tryz.prog 24 #[.pointer (some ⟨x, 0, none⟩), .pointer (some ⟨y, 0, none⟩), m] w fun e w' => e = .returned (.bool false) ∧ w' = w := by
  obtain ⟨ca, ta', ha⟩ := hx.un
  have hq := Tryz.eql_val hne ha hy.c0
  clear ha
  have k1 := Tryz.kind_any hx
  have k2 := Tryz.kind_any hy
  have t1 := Tryz.true_of hx
  have t2 := Tryz.true_of hy
  have n1 := Tryz.num_of hx
  have n2 := Tryz.num_of hy
  have x1 := Tryz.text_of hx
  have x2 := Tryz.text_of hy
  have l1 := Tryz.len_of hx
  have l2 := Tryz.len_of hy
  have l3 := Tryz.len_of hx
  clear hx hy
  cases ba <;> cases bb <;> first | exact absurd rfl hd | skip
  all_goals clear hd
  all_goals go_enter Tryz.func24, Tryz.ntmps24
  all_goals go_wp2_with (first
    | (go_at_call 12; refine k1.mono ?_; clear k1; rintro e1 w1 ⟨rfl, rfl⟩)
    | (go_at_call 12; refine k2.mono ?_; clear k2; rintro e1 w1 ⟨rfl, rfl⟩)
    | (go_at_call 32; refine t1.mono ?_; clear t1; rintro e1 w1 ⟨rfl, rfl⟩)
    | (go_at_call 32; refine t2.mono ?_; clear t2; rintro e1 w1 ⟨rfl, rfl⟩)
    | (go_at_call 34; refine n1.mono ?_; clear n1; rintro e1 w1 ⟨rfl, rfl⟩)
    | (go_at_call 34; refine n2.mono ?_; clear n2; rintro e1 w1 ⟨rfl, rfl⟩)
    | (go_at_call 36; refine x1.mono ?_; clear x1; rintro e1 w1 ⟨rfl, rfl⟩)
    | (go_at_call 36; refine x2.mono ?_; clear x2; rintro e1 w1 ⟨rfl, rfl⟩)
    | (go_at_call 38; refine l1.mono ?_; clear l1; rintro e1 w1 ⟨rfl, rfl⟩)
    | (go_at_call 38; refine l2.mono ?_; clear l2; rintro e1 w1 ⟨rfl, rfl⟩)
    | (go_at_call 38; refine l3.mono ?_; clear l3; rintro e3 w3 ⟨rfl, rfl⟩)
    | fail)
  all_goals go_ret
  all_goals exact ⟨rfl, rfl⟩
set_option maxRecDepth 100000 in
set_option maxHeartbeats 2000000 in
theorem Tryz.alx_num {w : World} {x y : Nat} {ka : Int} {ba : Bool} {na : Int} {ta : ByteArray} {La : Nat} {nb : Int} {tb : ByteArray} {Lb : Nat} {kv1 kv2 : Value} {a1 a2 : Option Addr} {c1 c2 : Nat} (hx : Jv.Vb w x ka ba na ta kv1 (.slice a1 La c1)) (hy : Jv.Vb w y ka ba nb tb kv2 (.slice a2 Lb c2)) (hne : ¬ x = y) (m : Value) (hd : ¬ na = nb) :
    Calls Tryz.prog 24 #[.pointer (some ⟨x, 0, none⟩), .pointer (some ⟨y, 0, none⟩), m] w fun e w' => e = .returned (.bool false) ∧ w' = w := by
  obtain ⟨ca, ta', ha⟩ := hx.un
  have hq := Tryz.eql_val hne ha hy.c0
  clear ha
  have k1 := Tryz.kind_any hx
  have k2 := Tryz.kind_any hy
  have t1 := Tryz.true_of hx
  have t2 := Tryz.true_of hy
  have n1 := Tryz.num_of hx
  have n2 := Tryz.num_of hy
  have x1 := Tryz.text_of hx
  have x2 := Tryz.text_of hy
  have l1 := Tryz.len_of hx
  have l2 := Tryz.len_of hy
  have l3 := Tryz.len_of hx
  have q : (na != nb) = true := by simpa using hd
  have q' : ¬ na = nb := hd
  clear hx hy hd
  go_enter Tryz.func24, Tryz.ntmps24
  go_wp2_with (first
    | (go_at_call 12; refine k1.mono ?_; clear k1; rintro e1 w1 ⟨rfl, rfl⟩)
    | (go_at_call 12; refine k2.mono ?_; clear k2; rintro e1 w1 ⟨rfl, rfl⟩)
    | (go_at_call 32; refine t1.mono ?_; clear t1; rintro e1 w1 ⟨rfl, rfl⟩)
    | (go_at_call 32; refine t2.mono ?_; clear t2; rintro e1 w1 ⟨rfl, rfl⟩)
    | (go_at_call 34; refine n1.mono ?_; clear n1; rintro e1 w1 ⟨rfl, rfl⟩)
    | (go_at_call 34; refine n2.mono ?_; clear n2; rintro e1 w1 ⟨rfl, rfl⟩)
    | (go_at_call 36; refine x1.mono ?_; clear x1; rintro e1 w1 ⟨rfl, rfl⟩)
    | (go_at_call 36; refine x2.mono ?_; clear x2; rintro e1 w1 ⟨rfl, rfl⟩)
    | (go_at_call 38; refine l1.mono ?_; clear l1; rintro e1 w1 ⟨rfl, rfl⟩)
    | (go_at_call 38; refine l2.mono ?_; clear l2; rintro e1 w1 ⟨rfl, rfl⟩)
    | (go_at_call 38; refine l3.mono ?_; clear l3; rintro e3 w3 ⟨rfl, rfl⟩)
    | fail)
  go_ret
  exact ⟨rfl, rfl⟩
set_option maxRecDepth 100000 in
set_option maxHeartbeats 2000000 in
theorem Tryz.alx_text {w : World} {x y : Nat} {ka : Int} {ba : Bool} {na : Int} {ta : ByteArray} {La : Nat} {tb : ByteArray} {Lb : Nat} {kv1 kv2 : Value} {a1 a2 : Option Addr} {c1 c2 : Nat} (hx : Jv.Vb w x ka ba na ta kv1 (.slice a1 La c1)) (hy : Jv.Vb w y ka ba na tb kv2 (.slice a2 Lb c2)) (hne : ¬ x = y) (m : Value) (hd : ¬ ta = tb) :
    Calls Tryz.prog 24 #[.pointer (some ⟨x, 0, none⟩), .pointer (some ⟨y, 0, none⟩), m] w fun e w' => e = .returned (.bool false) ∧ w' = w := by
  obtain ⟨ca, ta', ha⟩ := hx.un
  have hq := Tryz.eql_val hne ha hy.c0
  clear ha
  have k1 := Tryz.kind_any hx
  have k2 := Tryz.kind_any hy
  have t1 := Tryz.true_of hx
  have t2 := Tryz.true_of hy
  have n1 := Tryz.num_of hx
  have n2 := Tryz.num_of hy
  have x1 := Tryz.text_of hx
  have x2 := Tryz.text_of hy
  have l1 := Tryz.len_of hx
  have l2 := Tryz.len_of hy
  have l3 := Tryz.len_of hx
  have q : (ta.toList == tb.toList) = false := by
    rw [beq_eq_false_iff_ne, ByteArray.toList_eq, ByteArray.toList_eq]
    exact fun e => hd (ByteArray.ext (Array.toList_inj.1 e))
  clear hx hy hd
  go_enter Tryz.func24, Tryz.ntmps24
  go_wp2_with (first
    | (go_at_call 12; refine k1.mono ?_; clear k1; rintro e1 w1 ⟨rfl, rfl⟩)
    | (go_at_call 12; refine k2.mono ?_; clear k2; rintro e1 w1 ⟨rfl, rfl⟩)
    | (go_at_call 32; refine t1.mono ?_; clear t1; rintro e1 w1 ⟨rfl, rfl⟩)
    | (go_at_call 32; refine t2.mono ?_; clear t2; rintro e1 w1 ⟨rfl, rfl⟩)
    | (go_at_call 34; refine n1.mono ?_; clear n1; rintro e1 w1 ⟨rfl, rfl⟩)
    | (go_at_call 34; refine n2.mono ?_; clear n2; rintro e1 w1 ⟨rfl, rfl⟩)
    | (go_at_call 36; refine x1.mono ?_; clear x1; rintro e1 w1 ⟨rfl, rfl⟩)
    | (go_at_call 36; refine x2.mono ?_; clear x2; rintro e1 w1 ⟨rfl, rfl⟩)
    | (go_at_call 38; refine l1.mono ?_; clear l1; rintro e1 w1 ⟨rfl, rfl⟩)
    | (go_at_call 38; refine l2.mono ?_; clear l2; rintro e1 w1 ⟨rfl, rfl⟩)
    | (go_at_call 38; refine l3.mono ?_; clear l3; rintro e3 w3 ⟨rfl, rfl⟩)
    | fail)
  go_ret
  exact ⟨rfl, rfl⟩
set_option maxRecDepth 100000 in
set_option maxHeartbeats 2000000 in
theorem Tryz.alx_len {w : World} {x y : Nat} {ka : Int} {ba : Bool} {na : Int} {ta : ByteArray} {La : Nat} {Lb : Nat} {kv1 kv2 : Value} {a1 a2 : Option Addr} {c1 c2 : Nat} (hx : Jv.Vb w x ka ba na ta kv1 (.slice a1 La c1)) (hy : Jv.Vb w y ka ba na ta kv2 (.slice a2 Lb c2)) (hne : ¬ x = y) (m : Value) (hd : ¬ La = Lb) :
    Calls Tryz.prog 24 #[.pointer (some ⟨x, 0, none⟩), .pointer (some ⟨y, 0, none⟩), m] w fun e w' => e = .returned (.bool false) ∧ w' = w := by
  obtain ⟨ca, ta', ha⟩ := hx.un
  have hq := Tryz.eql_val hne ha hy.c0
  clear ha
  have k1 := Tryz.kind_any hx
  have k2 := Tryz.kind_any hy
  have t1 := Tryz.true_of hx
  have t2 := Tryz.true_of hy
  have n1 := Tryz.num_of hx
  have n2 := Tryz.num_of hy
  have x1 := Tryz.text_of hx
  have x2 := Tryz.text_of hy
  have l1 := Tryz.len_of hx
  have l2 := Tryz.len_of hy
  have l3 := Tryz.len_of hx
  have q : ¬ (La : Int) = (Lb : Int) := by omega
  clear hx hy hd
  go_enter Tryz.func24, Tryz.ntmps24
  go_wp2_with (first
    | (go_at_call 12; refine k1.mono ?_; clear k1; rintro e1 w1 ⟨rfl, rfl⟩)
    | (go_at_call 12; refine k2.mono ?_; clear k2; rintro e1 w1 ⟨rfl, rfl⟩)
    | (go_at_call 32; refine t1.mono ?_; clear t1; rintro e1 w1 ⟨rfl, rfl⟩)
    | (go_at_call 32; refine t2.mono ?_; clear t2; rintro e1 w1 ⟨rfl, rfl⟩)
    | (go_at_call 34; refine n1.mono ?_; clear n1; rintro e1 w1 ⟨rfl, rfl⟩)
    | (go_at_call 34; refine n2.mono ?_; clear n2; rintro e1 w1 ⟨rfl, rfl⟩)
    | (go_at_call 36; refine x1.mono ?_; clear x1; rintro e1 w1 ⟨rfl, rfl⟩)
    | (go_at_call 36; refine x2.mono ?_; clear x2; rintro e1 w1 ⟨rfl, rfl⟩)
    | (go_at_call 38; refine l1.mono ?_; clear l1; rintro e1 w1 ⟨rfl, rfl⟩)
    | (go_at_call 38; refine l2.mono ?_; clear l2; rintro e1 w1 ⟨rfl, rfl⟩)
    | (go_at_call 38; refine l3.mono ?_; clear l3; rintro e3 w3 ⟨rfl, rfl⟩)
    | fail)
  go_ret
  exact ⟨rfl, rfl⟩
set_option maxRecDepth 100000 in
set_option maxHeartbeats 4000000 in
theorem Tryz.alike_go {R : Nat → Nat → Prop} {w : World} {x y m B L : Nat} {k : Int} {b : Bool} {n : Int} {t : ByteArray} {kv1 kv2 : Value} {g1 g2 c1 c2 : Nat} (hx : Jv.Vb w x k b n t kv1 (.slice (some ⟨g1, 0, none⟩) L c1)) (hy : Jv.Vb w y k b n t kv2 (.slice (some ⟨g2, 0, none⟩) L c2)) (hne : ¬ x = y)
    (hxB : x < B) (hyB : y < B) (hg1 : g1 < B) (hg2 : g2 < B) (hm : B ≤ m) (hB : B ≤ w.heap.size) (hP : Jv.Mr R w m) (hL0 : 0 < L) (hL : L ≤ 9223372036854775807)
    (ke : Bool) (hkeys : ∀ W, Below B w W → Calls Tryz.prog 61 #[kv1, kv2] W fun e w' => e = .returned (.bool ke) ∧ ∃ q, w' = W.drewN q)
    (eqs : Nat → Bool) (hit : ∀ i, i < L → ∃ a c, w.cell? ⟨g1, i, none⟩ = some (.pointer (some ⟨a, 0, none⟩)) ∧ w.cell? ⟨g2, i, none⟩ = some (.pointer (some ⟨c, 0, none⟩)) ∧ ∀ W, Below B w W → Jv.Mr R W m → Calls Tryz.prog 24 #[.pointer (some ⟨a, 0, none⟩), .pointer (some ⟨c, 0, none⟩), .map (some m)] W fun e w' => e = .returned (.bool (eqs i)) ∧ Jv.Mr R w' m ∧ Below B W w')
    (res : Bool) (hr1 : R x y → res = true) (hr2 : ke = false → res = false) (hr3 : ∀ i, i < L → eqs i = false → res = false) (hr4 : ke = true → (∀ i, i < L → eqs i = true) → res = true ∧ R x y) :
    Calls Tryz.prog 24 #[.pointer (some ⟨x, 0, none⟩), .pointer (some ⟨y, 0, none⟩), .map (some m)] w fun e w' => e = .returned (.bool res) ∧ Jv.Mr R w' m ∧ Below B w w' := by
  obtain ⟨ca, ta, ha⟩ := hx.un
  have hq := Tryz.eql_val hne ha hy.c0
  clear ha
  have k1 := Tryz.kind_any hx
  have k2 := Tryz.kind_any hy
  have t1 := Tryz.true_of hx
  have t2 := Tryz.true_of hy
  have n1 := Tryz.num_of hx
  have n2 := Tryz.num_of hy
  have x1 := Tryz.text_of hx
  have x2 := Tryz.text_of hy
  have l1 := Tryz.len_of hx
  have l2 := Tryz.len_of hy
  have l3 := Tryz.len_of hx
  obtain ⟨bb, hbb, hlk⟩ := Tryz.lookup_r hP hx.pl hy.pl
  simp only [Jv.cpl] at hlk
  have hL1 : ¬ (L : Int) = 0 := by omega
  have hL2 : ((L : Int) == 0) = false := by simpa using hL1
  have hL3 : ¬ L = 0 := by omega
  have HX : Hid _ := hx
  have HY : Hid _ := hy
  have HP : Hid (Jv.Mr R w m) := hP
  have HIT : Hid _ := hit
  have HK : Hid _ := hkeys
  have HBB : Hid (bb = true → R x y) := hbb
  have HR1 : Hid (R x y → res = true) := hr1
  have HR2 : Hid (ke = false → res = false) := hr2
  have HR3 : Hid (∀ i, i < L → eqs i = false → res = false) := hr3
  have HR4 : Hid (ke = true → (∀ i, i < L → eqs i = true) → res = true ∧ R x y) := hr4
  clear hx hy hP hit hkeys hbb hr1 hr2 hr3 hr4
  go_enter Tryz.func24, Tryz.ntmps24
  go_upto_if 58 with (first
    | (go_at_call 12; refine k1.mono ?_; clear k1; rintro e1 w1 ⟨rfl, rfl⟩)
    | (go_at_call 12; refine k2.mono ?_; clear k2; rintro e1 w1 ⟨rfl, rfl⟩)
    | (go_at_call 32; refine t1.mono ?_; clear t1; rintro e1 w1 ⟨rfl, rfl⟩)
    | (go_at_call 32; refine t2.mono ?_; clear t2; rintro e1 w1 ⟨rfl, rfl⟩)
    | (go_at_call 34; refine n1.mono ?_; clear n1; rintro e1 w1 ⟨rfl, rfl⟩)
    | (go_at_call 34; refine n2.mono ?_; clear n2; rintro e1 w1 ⟨rfl, rfl⟩)
    | (go_at_call 36; refine x1.mono ?_; clear x1; rintro e1 w1 ⟨rfl, rfl⟩)
    | (go_at_call 36; refine x2.mono ?_; clear x2; rintro e1 w1 ⟨rfl, rfl⟩)
    | (go_at_call 38; refine l1.mono ?_; clear l1; rintro e1 w1 ⟨rfl, rfl⟩)
    | (go_at_call 38; refine l2.mono ?_; clear l2; rintro e1 w1 ⟨rfl, rfl⟩)
    | (go_at_call 38; refine l3.mono ?_; clear l3; rintro e3 w3 ⟨rfl, rfl⟩)
    | fail)
  obtain ⟨W1, hW1⟩ : ∃ W1, W1 = w3.alloc (.cells #[] 101) := ⟨_, rfl⟩
  have hbW : Below w3.heap.size w3 W1 := by rw [hW1]; exact (Below.refl _ _).alloc (Nat.le_refl _) _
  rw [← hW1]
  have hPW : Jv.Mr R W1 m := Jv.mr_keep HP.out (fun k hk => hbW.block k hk)
  have hbB : Below B w3 W1 := hbW.mono hB
  clear hW1 hlk hq HP
  cases bb with
  | true =>
    have HRS : Hid (res = true) := HR1.out (HBB.out rfl)
    go_wp2
    obtain rfl := HRS.out
    go_ret
    exact ⟨rfl, hPW, hbB⟩
  | false =>
    have hvx := HX.out.keep (w' := W1) (hbW.block x HX.out.lt) hbW.size
    have hvy := HY.out.keep (w' := W1) (hbW.block y HY.out.lt) hbW.size
    have x4 := hvx.c4
    have y4 := hvy.c4
    have x5 := hvx.c5
    have hke : ∀ n, Calls Tryz.prog 61 #[kv1, kv2] (W1.drewN n) fun e w' => e = .returned (.bool ke) ∧ ∃ q, w' = (W1.drewN n).drewN q := fun n => HK.out (W1.drewN n) (below_drewN hbB n)
    have HPW : Hid (Jv.Mr R W1 m) := hPW
    have HB1 : Hid (Below B w3 W1) := hbB
    clear hvx hvy HK hPW hbB HBB
    cases ke with
    | false =>
      have HRS : Hid (res = false) := HR2.out rfl
      go_upto_region 10 with fail
      go_quiet ((go_at_call 61; exact Calls.quiet_of (hke _)))
      go_wp2
      obtain rfl := HRS.out
      go_ret
      exact ⟨rfl, Jv.mr_keep HPW.out (fun k _ => rfl), below_drewN HB1.out _⟩
    | true =>
      go_upto_region 10 with fail
      go_quiet ((go_at_call 61; exact Calls.quiet_of (hke _)))
      go_wp2
      go_loopw [9, 10, 74] (fun _ _ i wr => ∃ j : Nat, j ≤ L ∧ i = .int .i64 j ∧ Jv.Mr R wr m ∧ Below B w3 wr ∧ ∀ i, i < j → eqs i = true) (fun _ _ i _ => L - (intOf i).toNat)
      case atStart => exact ⟨0, Nat.zero_le _, rfl, Jv.mr_keep HPW.out (fun k _ => rfl), below_drewN HB1.out _, fun i h => by omega⟩
      case round =>
        obtain ⟨j, hj, rfl, hMr, hBr, hEq⟩ := hrel
        have HEQ : Hid (∀ i, i < j → eqs i = true) := hEq
        clear hke x4 y4 x5 HPW HB1 hEq
        by_cases hjL : j < L
        · have q0 : (j : Int) < (L : Int) := by omega
          obtain ⟨a, c, ca, cc, hal⟩ := HIT.out j hjL
          have d1 : wr.cell? ⟨g1, j, none⟩ = some (.pointer (some ⟨a, 0, none⟩)) := (hBr.cell (p := ⟨g1, j, none⟩) hg1).trans ca
          have d2 : wr.cell? ⟨g2, j, none⟩ = some (.pointer (some ⟨c, 0, none⟩)) := (hBr.cell (p := ⟨g2, j, none⟩) hg2).trans cc
          have d3 : wr.cell? ⟨y, 5, none⟩ = some (.slice (some ⟨g2, 0, none⟩) L c2) := (hBr.cell (p := ⟨y, 5, none⟩) hyB).trans HY.out.c5
          have hcall := hal wr hBr hMr
          clear hal ca cc
          cases hq : eqs j with
          | true =>
            have HQ : Hid (eqs j = true) := hq
            rw [hq] at hcall
            clear hq
            go_wp2_with (first
              | (go_at_call 24; refine hcall.mono ?_; clear hcall; rintro e7 w7 ⟨rfl, hM7, hB7⟩)
              | fail)
            go_roundw
            case rel => exact ⟨j + 1, by omega, by go_num, hM7, hBr.trans hB7, fun i hi => by rcases Nat.lt_or_ge i j with h | h; exact HEQ.out i h; rw [show i = j by omega]; exact HQ.out⟩
            case measure => simp [intOf]; omega
          | false =>
            have HRS : Hid (res = false) := HR3.out j hjL hq
            rw [hq] at hcall
            clear hq
            go_wp2_with (first
              | (go_at_call 24; refine hcall.mono ?_; clear hcall; rintro e7 w7 ⟨rfl, hM7, hB7⟩)
              | fail)
            obtain rfl := HRS.out
            go_ret
            exact ⟨rfl, hM7, hBr.trans hB7⟩
        · have q0 : ¬ (j : Int) < (L : Int) := by omega
          obtain ⟨hrs, hRR⟩ := HR4.out (by trivial) (fun i hi => HEQ.out i (by omega))
          obtain ⟨w8, hup, hM8, u1, u2, u3, u4, u5⟩ := Tryz.update_r hMr (Jv.pl_keep HX.out.pl (hBr.block x hxB)) (Jv.pl_keep HY.out.pl (hBr.block y hyB)) hRR
          simp only [Jv.cpl] at hup
          have hB8 : Below B w3 w8 := ⟨u1.trans hBr.os, u2.trans hBr.tape, u3.trans hBr.output, by rw [u4]; exact hBr.size, fun k hk => (u5 k (by omega)).trans (hBr.block k hk)⟩
          have HM8 : Hid (Jv.Mr R w8 m) := hM8
          have HRS : Hid (res = true) := hrs
          clear hM8 u1 u2 u3 u4 u5 hMr hrs
          go_wp2
          obtain rfl := HRS.out
          go_ret
          exact ⟨rfl, HM8.out, hB8⟩
end Go.Proofs
