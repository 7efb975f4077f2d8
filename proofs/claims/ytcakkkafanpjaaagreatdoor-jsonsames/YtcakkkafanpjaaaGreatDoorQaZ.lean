/-
  Laid together by packg.py of Jmp Jal.
-/
import Derived.Test.YtcakkkafanpjaaaGreatDoorQaU
import Derived.Test.YtcakkkafanpjaaaGreatDoorQaO
import Derived.Maps.Keyed
import Derived.BigQuiet
namespace Go.Proofs
open Go.RowKit Go.Jv
/-- A block as it was laid. -/
def Jv.Pl (w : World) (a : Nat) : Prop := ∃ cs T, w.heap[a]? = some (.cells cs T (0, 0)) ∧ cs.size ≠ 0
theorem Jv.pl_keep {w w' : World} {a : Nat} (h : Jv.Pl w a) (hk : w'.heap[a]? = w.heap[a]?) : Jv.Pl w' a := by
  obtain ⟨cs, T, h1, h2⟩ := h
  exact ⟨cs, T, hk.trans h1, h2⟩
theorem Jv.same_addr {P : Program} {w : World} {x y : Nat} (hx : Jv.Pl w x) (hy : Jv.Pl w y) : (sameAddr ⟨x, 0, none⟩ ⟨y, 0, none⟩).run P w = .ok (decide (x = y)) w := by
  obtain ⟨ca, ta, ha, ha2⟩ := hx
  obtain ⟨cb, tb, hb, hb2⟩ := hy
  by_cases h : x = y
  · subst h
    simp [sameAddr]
  · simp [sameAddr, h, World.frozen?, ha, hb, noView, viewAt, World.shape?, mayBeOne, stringish, hb2]
theorem Tryz.eq_ptr {w : World} {x y : Nat} (hx : Jv.Pl w x) (hy : Jv.Pl w y) (d : Nat) : (Op.equalIn (d + 1) 24 (.pointer (some ⟨x, 0, none⟩)) (.pointer (some ⟨y, 0, none⟩))).run Tryz.prog w = .ok (decide (x = y)) w := by
  have hi := Tryz.info_val
  cases hj : Tryz.prog.info? 64 with
  | none => rw [hj] at hi; cases hi
  | some j =>
    rw [hj] at hi
    have hsz : j.size ≠ 0 := by simp at hi; omega
    simp [Op.equalIn, run_underlying Tryz.underlying24, sizeOf, typeInfo, hj, hsz, Jv.same_addr hx hy]
def Jv.cpl (a b : Nat) : Value := .agg #[.pointer (some ⟨a, 0, none⟩), .pointer (some ⟨b, 0, none⟩)]
theorem Tryz.part_ptr (cs : Array Value) (off : Nat) (v : Value) (W : World) (h : cs[off]? = some v) : (part 24 cs off).run Tryz.prog W = .ok v W := by
  simp [part, isAgg, run_underlying Tryz.underlying24, h]
theorem Tryz.eq_cplIn {w : World} {a b c d : Nat} (ha : Jv.Pl w a) (hb : Jv.Pl w b) (hc : Jv.Pl w c) (hd : Jv.Pl w d) (n : Nat) : (Op.equalIn (n + 1 + 1) 104 (Jv.cpl a b) (Jv.cpl c d)).run Tryz.prog w = .ok (decide (a = c ∧ b = d)) w := by
  have h1 := Tryz.eq_ptr ha hc n
  have h2 := Tryz.eq_ptr hb hd n
  generalize hE : Op.equalIn (n + 1) = E at h1 h2
  unfold Jv.cpl
  rw [Op.equalIn, hE]
  have p0 := fun W => Tryz.part_ptr #[.pointer (some ⟨a, 0, none⟩), .pointer (some ⟨b, 0, none⟩)] 0 _ W rfl
  have p1 := fun W => Tryz.part_ptr #[.pointer (some ⟨a, 0, none⟩), .pointer (some ⟨b, 0, none⟩)] 1 _ W rfl
  have p2 := fun W => Tryz.part_ptr #[.pointer (some ⟨c, 0, none⟩), .pointer (some ⟨d, 0, none⟩)] 0 _ W rfl
  have p3 := fun W => Tryz.part_ptr #[.pointer (some ⟨c, 0, none⟩), .pointer (some ⟨d, 0, none⟩)] 1 _ W rfl
  have hst : Tryz.prog.stoodInHeld 104 = false := by kernel_rfl
  by_cases e1 : a = c
  · rw [decide_eq_true e1] at h1
    by_cases e2 : b = d
    · rw [decide_eq_true e2] at h2
      rw [decide_eq_true ⟨e1, e2⟩]
      simp [run_underlying Tryz.underlying104, hst, p0, p1, p2, p3, h1, h2]
    · rw [decide_eq_false e2] at h2
      rw [decide_eq_false (fun e => e2 e.2)]
      simp [run_underlying Tryz.underlying104, hst, p0, p1, p2, p3, h1, h2]
  · rw [decide_eq_false e1] at h1
    rw [decide_eq_false (fun e => e1 e.1)]
    simp [run_underlying Tryz.underlying104, hst, p0, p1, p2, p3, h1]
theorem Tryz.eq_cpl {w : World} {a b c d : Nat} (ha : Jv.Pl w a) (hb : Jv.Pl w b) (hc : Jv.Pl w c) (hd : Jv.Pl w d) : (Op.equal 104 (Jv.cpl a b) (Jv.cpl c d)).run Tryz.prog w = .ok (decide (a = c ∧ b = d)) w := Tryz.eq_cplIn ha hb hc hd 9998
/-- The map: couples of blocks as they were laid, each with nothing. -/
def Jv.Mo (w : World) (es : Array MapEntry) : Prop := ∀ e ∈ es.toList, e.val = .agg #[] ∧ ∃ a b, e.key = Jv.cpl a b ∧ Jv.Pl w a ∧ Jv.Pl w b
theorem Tryz.find_any {w : World} {x y : Nat} (hx : Jv.Pl w x) (hy : Jv.Pl w y) : ∀ (l : List MapEntry) (i : Nat), (∀ e ∈ l, e.val = .agg #[] ∧ ∃ a b, e.key = Jv.cpl a b ∧ Jv.Pl w a ∧ Jv.Pl w b) →
    (Instr.findAsking 104 (Jv.cpl x y) l i).run Tryz.prog w = .ok none w ∨ ∃ j e, l[j]? = some e ∧ e.key = Jv.cpl x y ∧ (Instr.findAsking 104 (Jv.cpl x y) l i).run Tryz.prog w = .ok (some (i + j, .agg #[])) w
  | [], i, _ => .inl (by simp [Instr.findAsking])
  | e :: l, i, h => by
    obtain ⟨h1, a, b, h2, h3, h4⟩ := h e (by simp)
    have hq := Tryz.eq_cpl hx hy h3 h4
    by_cases he : x = a ∧ y = b
    · refine .inr ⟨0, e, rfl, by rw [h2, he.1, he.2], ?_⟩
      rw [decide_eq_true he] at hq
      simp [Instr.findAsking, h2, hq, h1]
    · rw [decide_eq_false he] at hq
      rcases Tryz.find_any hx hy l (i + 1) (fun e' he' => h e' (by simp [he'])) with hr | ⟨j, e', r1, r2, r3⟩
      · exact .inl (by simp [Instr.findAsking, h2, hq, hr])
      · exact .inr ⟨j + 1, e', by simpa using r1, r2, by simp [Instr.findAsking, h2, hq, r3]; omega⟩
theorem Tryz.findKey_any {w : World} {x y : Nat} (hx : Jv.Pl w x) (hy : Jv.Pl w y) (es : Array MapEntry) (h : Jv.Mo w es) :
    (Instr.findKey 104 (Jv.cpl x y) es.toList).run Tryz.prog w = .ok none w ∨ ∃ j e, es.toList[j]? = some e ∧ e.key = Jv.cpl x y ∧ (Instr.findKey 104 (Jv.cpl x y) es.toList).run Tryz.prog w = .ok (some (j, .agg #[])) w := by
  have hf := Tryz.find_any hx hy es.toList 0 h
  unfold Jv.Mo at h
  generalize es.toList = l at *
  cases l with
  | nil => exact .inl (by simp [Instr.findKey, run_underlying Tryz.underlying104, Instr.findNow])
  | cons e l =>
    obtain ⟨-, a, b, h2, -, -⟩ := h e (by simp)
    have hn : Instr.findNow (.struct #[]) (Jv.cpl x y) (e :: l) 0 = none := by simp [Instr.findNow, Instr.sameNow]
    rcases hf with hr | ⟨j, e', r1, r2, r3⟩
    · exact .inl (by simp [Instr.findKey, run_underlying Tryz.underlying104, Instr.findNow, h2, Instr.sameNow, hr]; done)
    · exact .inr ⟨j, e', r1, r2, by simp [Instr.findKey, run_underlying Tryz.underlying104, Instr.findNow, h2, Instr.sameNow, r3]; done⟩
theorem Tryz.check_cpl (w : World) (em : Bool) (x y n : Nat) : (Instr.checkKey em (n + 1 + 1) 104 (Jv.cpl x y)).run Tryz.prog w = .ok () w := by
  have h1 : ∀ (a : Nat) W, (Instr.checkKey em (n + 1) 24 (.pointer (some ⟨a, 0, none⟩))).run Tryz.prog W = .ok () W := fun a W => by
    simp [Instr.checkKey, run_underlying Tryz.underlying24]
  generalize hE : Instr.checkKey em (n + 1) = E at h1
  unfold Jv.cpl
  rw [Instr.checkKey, hE]
  have p0 := fun W => Tryz.part_ptr #[.pointer (some ⟨x, 0, none⟩), .pointer (some ⟨y, 0, none⟩)] 0 _ W rfl
  have p1 := fun W => Tryz.part_ptr #[.pointer (some ⟨x, 0, none⟩), .pointer (some ⟨y, 0, none⟩)] 1 _ W rfl
  simp [run_underlying Tryz.underlying104, p0, p1, h1]
theorem Tryz.zero_st (W : World) : (zeroValue 101).run Tryz.prog W = .ok (.agg #[]) W := by kernel_rfl
theorem Tryz.lookup_any {w : World} {x y m : Nat} {es : Array MapEntry} {cl : Nat} (hm : w.heap[m]? = some (.map es cl)) (hx : Jv.Pl w x) (hy : Jv.Pl w y) (h : Jv.Mo w es) :
    ∃ b : Bool, (Instr.lookup 61 (.map (some m)) (Jv.cpl x y) true).run Tryz.prog w = .ok (.tuple #[.agg #[], .bool b]) w := by
  have hc : ∀ em, (Instr.checkKey em 10000 104 (Jv.cpl x y)).run Tryz.prog w = .ok () w := fun em => Tryz.check_cpl w em x y 9998
  have hz := Tryz.zero_st w
  rcases Tryz.findKey_any hx hy es h with hr | ⟨j, e, -, -, hr⟩
  · exact ⟨false, by simp [Instr.lookup, run_underlying Tryz.underlying61, MapKept.run_getObj_map hm, hc, hr, hz, Result.andThen]⟩
  · exact ⟨true, by simp [Instr.lookup, run_underlying Tryz.underlying61, MapKept.run_getObj_map hm, hc, hr, Result.andThen]⟩
/-- The map, in memory. -/
structure Jv.Mp (w : World) (m : Nat) : Prop where
  ex : ∃ es cl, w.heap[m]? = some (.map es cl) ∧ Jv.Mo w es
theorem Tryz.update_any {w : World} {x y m : Nat} (h : Jv.Mp w m) (hx : Jv.Pl w x) (hy : Jv.Pl w y) :
    ∃ w', (Instr.mapUpdate 61 (.map (some m)) (Jv.cpl x y) (.agg #[])).run Tryz.prog w = .ok () w' ∧ Jv.Mp w' m ∧ w'.os = w.os ∧ w'.tape = w.tape ∧ w'.output = w.output ∧ w'.heap.size = w.heap.size ∧ ∀ k, k ≠ m → w'.heap[k]? = w.heap[k]? := by
  obtain ⟨es, cl, hm, hmo⟩ := h.ex
  have hc : (Instr.checkKey false 10000 104 (Jv.cpl x y)).run Tryz.prog w = .ok () w := Tryz.check_cpl w false x y 9998
  have hpl : ∀ (o : Obj) (a : Nat), Jv.Pl w a → Jv.Pl { w with heap := w.heap.set! m o } a := fun o a ha => by
    obtain ⟨cs, T, h1, h2⟩ := ha
    refine ⟨cs, T, ?_, h2⟩
    have hne : m ≠ a := fun e => by rw [e, h1] at hm; cases hm
    simp only [Array.set!_eq_setIfInBounds, Array.getElem?_setIfInBounds_ne hne]
    exact h1
  have hml : m < w.heap.size := (Array.getElem?_eq_some_iff.1 hm).1
  have hst : (Instr.keyThatStays (Jv.cpl x y) (Jv.cpl x y)).run Tryz.prog w = .ok (Jv.cpl x y) w := by
    simp [Instr.keyThatStays, Jv.cpl, Instr.sameBits]
  rcases Tryz.findKey_any hx hy es hmo with hr | ⟨j, e, he, hek, hr⟩
  · refine ⟨{ w with heap := w.heap.set! m (.map (es.push { key := Jv.cpl x y, val := .agg #[], born := cl }) (cl + 1)) }, ?_, ⟨es.push { key := Jv.cpl x y, val := .agg #[], born := cl }, cl + 1, by simp [hml], ?_⟩, rfl, rfl, rfl, by simp, fun k hk => by simp [Array.getElem?_setIfInBounds_ne (Ne.symm hk)]⟩
    · simp [Instr.mapUpdate, run_underlying Tryz.underlying61, MapKept.run_getObj_map hm, hc, hr, MapKept.run_setObj_map _ hm, Result.andThen]
    · intro e' he'
      simp only [Array.toList_push, List.mem_append, List.mem_singleton] at he'
      rcases he' with he' | rfl
      · obtain ⟨h1, a, b, h2, h3, h4⟩ := hmo e' he'
        exact ⟨h1, a, b, h2, hpl _ a h3, hpl _ b h4⟩
      · exact ⟨rfl, x, y, rfl, hpl _ x hx, hpl _ y hy⟩
  · have hj : es[j]? = some e := by rw [← Array.getElem?_toList]; exact he
    refine ⟨{ w with heap := w.heap.set! m (.map (es.modify j fun e => { e with key := Jv.cpl x y, val := .agg #[] }) cl) }, ?_, ⟨es.modify j fun e => { e with key := Jv.cpl x y, val := .agg #[] }, cl, by simp [hml], ?_⟩, rfl, rfl, rfl, by simp, fun k hk => by simp [Array.getElem?_setIfInBounds_ne (Ne.symm hk)]⟩
    · simp [Instr.mapUpdate, run_underlying Tryz.underlying61, MapKept.run_getObj_map hm, hc, hr, hj, hek, hst, MapKept.run_setObj_map _ hm, Result.andThen]
    · intro e' he'
      obtain ⟨i, hi⟩ := List.mem_iff_getElem?.1 he'
      rw [Array.getElem?_toList, Array.getElem?_modify] at hi
      split at hi
      · cases hq : es[i]? with
        | none => rw [hq] at hi; cases hi
        | some q =>
          rw [hq] at hi
          simp at hi
          subst hi
          exact ⟨rfl, x, y, rfl, hpl _ x hx, hpl _ y hy⟩
      · obtain ⟨h1, a, b, h2, h3, h4⟩ := hmo e' (List.mem_iff_getElem?.2 ⟨i, by rw [Array.getElem?_toList]; exact hi⟩)
        exact ⟨h1, a, b, h2, hpl _ a h3, hpl _ b h4⟩
theorem Jv.mp_keep {w w' : World} {m : Nat} (h : Jv.Mp w m) (hk : ∀ k, k < w.heap.size → w'.heap[k]? = w.heap[k]?) : Jv.Mp w' m := by
  obtain ⟨es, cl, hm, hmo⟩ := h.ex
  refine ⟨es, cl, (hk m (Array.getElem?_eq_some_iff.1 hm).1).trans hm, fun e he => ?_⟩
  obtain ⟨h1, a, b, h2, h3, h4⟩ := hmo e he
  have hl : ∀ a, Jv.Pl w a → a < w.heap.size := fun a ha => by obtain ⟨cs, T, h, -⟩ := ha; exact (Array.getElem?_eq_some_iff.1 h).1
  exact ⟨h1, a, b, h2, Jv.pl_keep h3 (hk a (hl a h3)), Jv.pl_keep h4 (hk b (hl b h4))⟩
end Go.Proofs
namespace Go.Proofs
open Go.RowKit Go.Jv
theorem Jv.Vb.pl {w : World} {x : Nat} {k : Int} {b : Bool} {n : Int} {s : ByteArray} {kv sv : Value} (h : Jv.Vb w x k b n s kv sv) : Jv.Pl w x := by
  obtain ⟨cs, T, h1⟩ := h.un
  refine ⟨cs, T, h1, fun e => ?_⟩
  have h2 := h.c0
  unfold World.cell? at h2
  rw [h1] at h2
  simp at h2
  have := (Array.getElem?_eq_some_iff.1 h2).1
  omega
set_option maxRecDepth 100000 in
set_option maxHeartbeats 2000000 in
theorem Tryz.alike_leaf {w : World} {x y : Nat} {k : Int} {b : Bool} {n : Int} {t : ByteArray} {kv1 kv2 : Value} {a1 a2 : Option Addr} {c1 c2 : Nat} (hx : Jv.Vb w x k b n t kv1 (.slice a1 0 c1)) (hy : Jv.Vb w y k b n t kv2 (.slice a2 0 c2)) (hne : ¬ x = y) (m : Value) :
    Calls Tryz.prog 24 #[.pointer (some ⟨x, 0, none⟩), .pointer (some ⟨y, 0, none⟩), m] w fun e w' => e = .returned (.bool true) ∧ w' = w := by
  obtain ⟨ca, ta, ha⟩ := hx.un
  have hq := Tryz.eql_val hne ha hy.c0
  clear ha
  have k1 := Tryz.kind_any hx
  have k2 := Tryz.kind_any hy
  have t1 := Tryz.true_of hx
  have t2 := Tryz.true_of hy
  have n1 := Tryz.num_of hx
  have n2 := Tryz.num_of hy
  have x1 := Tryz.text_of hx
  have x2 := Tryz.text_of hy
  have l1 := Tryz.len_of hx
  have l2 := Tryz.len_of hy
  have l3 := Tryz.len_of hx
  clear hx hy
  go_enter Tryz.func24, Tryz.ntmps24
  go_wp2_with (first
    | (go_at_call 12; refine k1.mono ?_; clear k1; rintro e1 w1 ⟨rfl, rfl⟩)
    | (go_at_call 12; refine k2.mono ?_; clear k2; rintro e2 w2 ⟨rfl, rfl⟩)
    | (go_at_call 32; refine t1.mono ?_; clear t1; rintro e1 w1 ⟨rfl, rfl⟩)
    | (go_at_call 32; refine t2.mono ?_; clear t2; rintro e2 w2 ⟨rfl, rfl⟩)
    | (go_at_call 34; refine n1.mono ?_; clear n1; rintro e1 w1 ⟨rfl, rfl⟩)
    | (go_at_call 34; refine n2.mono ?_; clear n2; rintro e2 w2 ⟨rfl, rfl⟩)
    | (go_at_call 36; refine x1.mono ?_; clear x1; rintro e1 w1 ⟨rfl, rfl⟩)
    | (go_at_call 36; refine x2.mono ?_; clear x2; rintro e2 w2 ⟨rfl, rfl⟩)
    | (go_at_call 38; refine l1.mono ?_; clear l1; rintro e1 w1 ⟨rfl, rfl⟩)
    | (go_at_call 38; refine l2.mono ?_; clear l2; rintro e2 w2 ⟨rfl, rfl⟩)
    | (go_at_call 38; refine l3.mono ?_; clear l3; rintro e3 w3 ⟨rfl, rfl⟩)
    | fail)
  go_ret
  exact ⟨rfl, rfl⟩
set_option maxRecDepth 100000 in
set_option maxHeartbeats 4000000 in
theorem Tryz.alike_items {w : World} {x y m B L : Nat} {k : Int} {b : Bool} {n : Int} {t : ByteArray} {kv1 kv2 : Value} {g1 g2 c1 c2 : Nat} (hx : Jv.Vb w x k b n t kv1 (.slice (some ⟨g1, 0, none⟩) L c1)) (hy : Jv.Vb w y k b n t kv2 (.slice (some ⟨g2, 0, none⟩) L c2)) (hne : ¬ x = y)
    (hxB : x < B) (hyB : y < B) (hg1 : g1 < B) (hg2 : g2 < B) (hm : B ≤ m) (hB : B ≤ w.heap.size) (hP : Jv.Mp w m) (hL0 : 0 < L) (hL : L ≤ 1000000)
    (hkeys : ∀ W, Below B w W → Calls Tryz.prog 61 #[kv1, kv2] W fun e w' => e = .returned (.bool true) ∧ ∃ q, w' = W.drewN q)
    (hit : ∀ i, i < L → ∃ a c, w.cell? ⟨g1, i, none⟩ = some (.pointer (some ⟨a, 0, none⟩)) ∧ w.cell? ⟨g2, i, none⟩ = some (.pointer (some ⟨c, 0, none⟩)) ∧ ∀ W, Below B w W → Jv.Mp W m → Calls Tryz.prog 24 #[.pointer (some ⟨a, 0, none⟩), .pointer (some ⟨c, 0, none⟩), .map (some m)] W fun e w' => e = .returned (.bool true) ∧ Jv.Mp w' m ∧ Below B W w') :
    Calls Tryz.prog 24 #[.pointer (some ⟨x, 0, none⟩), .pointer (some ⟨y, 0, none⟩), .map (some m)] w fun e w' => e = .returned (.bool true) ∧ Jv.Mp w' m ∧ Below B w w' := by
  obtain ⟨ca, ta, ha⟩ := hx.un
  have hq := Tryz.eql_val hne ha hy.c0
  clear ha
  have k1 := Tryz.kind_any hx
  have k2 := Tryz.kind_any hy
  have t1 := Tryz.true_of hx
  have t2 := Tryz.true_of hy
  have n1 := Tryz.num_of hx
  have n2 := Tryz.num_of hy
  have x1 := Tryz.text_of hx
  have x2 := Tryz.text_of hy
  have l1 := Tryz.len_of hx
  have l2 := Tryz.len_of hy
  have l3 := Tryz.len_of hx
  obtain ⟨es, cl, hmm, hmo⟩ := hP.ex
  obtain ⟨bb, hlk⟩ := Tryz.lookup_any hmm hx.pl hy.pl hmo
  simp only [Jv.cpl] at hlk
  have hL1 : ¬ (L : Int) = 0 := by omega
  have hL2 : ((L : Int) == 0) = false := by simpa using hL1
  have hL3 : ¬ L = 0 := by omega
  have HX : Hid _ := hx
  have HY : Hid _ := hy
  have HP : Hid (Jv.Mp w m) := hP
  have HIT : Hid _ := hit
  have HK : Hid _ := hkeys
  clear hx hy hP hmm hmo hit hkeys
  go_enter Tryz.func24, Tryz.ntmps24
  go_upto_if 58 with (first
    | (go_at_call 12; refine k1.mono ?_; clear k1; rintro e1 w1 ⟨rfl, rfl⟩)
    | (go_at_call 12; refine k2.mono ?_; clear k2; rintro e2 w2 ⟨rfl, rfl⟩)
    | (go_at_call 32; refine t1.mono ?_; clear t1; rintro e1 w1 ⟨rfl, rfl⟩)
    | (go_at_call 32; refine t2.mono ?_; clear t2; rintro e2 w2 ⟨rfl, rfl⟩)
    | (go_at_call 34; refine n1.mono ?_; clear n1; rintro e1 w1 ⟨rfl, rfl⟩)
    | (go_at_call 34; refine n2.mono ?_; clear n2; rintro e2 w2 ⟨rfl, rfl⟩)
    | (go_at_call 36; refine x1.mono ?_; clear x1; rintro e1 w1 ⟨rfl, rfl⟩)
    | (go_at_call 36; refine x2.mono ?_; clear x2; rintro e2 w2 ⟨rfl, rfl⟩)
    | (go_at_call 38; refine l1.mono ?_; clear l1; rintro e1 w1 ⟨rfl, rfl⟩)
    | (go_at_call 38; refine l2.mono ?_; clear l2; rintro e2 w2 ⟨rfl, rfl⟩)
    | (go_at_call 38; refine l3.mono ?_; clear l3; rintro e3 w3 ⟨rfl, rfl⟩)
    | fail)
  obtain ⟨W1, hW1⟩ : ∃ W1, W1 = w3.alloc (.cells #[] 101) := ⟨_, rfl⟩
  have hbW : Below w3.heap.size w3 W1 := by rw [hW1]; exact (Below.refl _ _).alloc (Nat.le_refl _) _
  rw [← hW1]
  have hPW : Jv.Mp W1 m := Jv.mp_keep HP.out (fun k hk => hbW.block k hk)
  have hbB : Below B w3 W1 := hbW.mono hB
  clear hW1 hlk hq HP
  cases bb with
  | true =>
    go_wp2
    go_ret
    exact ⟨rfl, hPW, hbB⟩
  | false =>
    have hvx := HX.out.keep (w' := W1) (hbW.block x HX.out.lt) hbW.size
    have hvy := HY.out.keep (w' := W1) (hbW.block y HY.out.lt) hbW.size
    have x4 := hvx.c4
    have y4 := hvy.c4
    have x5 := hvx.c5
    have hke : ∀ n, Calls Tryz.prog 61 #[kv1, kv2] (W1.drewN n) fun e w' => e = .returned (.bool true) ∧ ∃ q, w' = (W1.drewN n).drewN q := fun n => HK.out (W1.drewN n) (below_drewN hbB n)
    have HPW : Hid (Jv.Mp W1 m) := hPW
    have HBB : Hid (Below B w3 W1) := hbB
    clear hvx hvy HK hPW hbB
    go_upto_region 10 with fail
    go_quiet ((go_at_call 61; exact Calls.quiet_of (hke _)))
    go_wp2
    go_loopw [9, 10, 74] (fun _ _ i wr => ∃ j : Nat, j ≤ L ∧ i = .int .i64 j ∧ Jv.Mp wr m ∧ Below B w3 wr) (fun _ _ i _ => L - (intOf i).toNat)
    case atStart => exact ⟨0, Nat.zero_le _, rfl, Jv.mp_keep HPW.out (fun k _ => rfl), below_drewN HBB.out _⟩
    case round =>
      obtain ⟨j, hj, rfl, hMr, hBr⟩ := hrel
      clear hke x4 y4 x5 HPW HBB
      by_cases hjL : j < L
      · have q0 : (j : Int) < (L : Int) := by omega
        obtain ⟨a, c, ca, cc, hal⟩ := HIT.out j hjL
        have d1 : wr.cell? ⟨g1, j, none⟩ = some (.pointer (some ⟨a, 0, none⟩)) := (hBr.cell (p := ⟨g1, j, none⟩) hg1).trans ca
        have d2 : wr.cell? ⟨g2, j, none⟩ = some (.pointer (some ⟨c, 0, none⟩)) := (hBr.cell (p := ⟨g2, j, none⟩) hg2).trans cc
        have d3 : wr.cell? ⟨y, 5, none⟩ = some (.slice (some ⟨g2, 0, none⟩) L c2) := (hBr.cell (p := ⟨y, 5, none⟩) hyB).trans HY.out.c5
        have hcall := hal wr hBr hMr
        clear hal ca cc
        go_wp2_with (first
          | (go_at_call 24; refine hcall.mono ?_; clear hcall; rintro e7 w7 ⟨rfl, hM7, hB7⟩)
          | fail)
        go_roundw
        case rel => exact ⟨j + 1, by omega, by go_num, hM7, hBr.trans hB7⟩
        case measure => simp [intOf]; omega
      · have q0 : ¬ (j : Int) < (L : Int) := by omega
        obtain ⟨w8, hup, hM8, u1, u2, u3, u4, u5⟩ := Tryz.update_any hMr (Jv.pl_keep HX.out.pl (hBr.block x hxB)) (Jv.pl_keep HY.out.pl (hBr.block y hyB))
        simp only [Jv.cpl] at hup
        have hB8 : Below B w3 w8 := ⟨u1.trans hBr.os, u2.trans hBr.tape, u3.trans hBr.output, by rw [u4]; exact hBr.size, fun k hk => (u5 k (by omega)).trans (hBr.block k hk)⟩
        have HM8 : Hid (Jv.Mp w8 m) := hM8
        clear hM8 u1 u2 u3 u4 u5 hMr
        go_wp2
        go_ret
        exact ⟨rfl, HM8.out, hB8⟩
/-- Two values that are one, in blocks of their own, are alike. -/
def Tryz.AlOk (v : V) : Prop := ∀ (B : Nat) (ok1 ok2 : Nat → Prop) (w : World) (x y m : Nat), (∀ g, ok1 g → ¬ ok2 g) → (∀ g, ok1 g → g < B) → (∀ g, ok2 g → g < B) → B ≤ m → B ≤ w.heap.size → Tryz.Tr w ok1 v x → Tryz.Tr w ok2 v y → Jv.Mp w m →
    Calls Tryz.prog 24 #[.pointer (some ⟨x, 0, none⟩), .pointer (some ⟨y, 0, none⟩), .map (some m)] w fun e w' => e = .returned (.bool true) ∧ Jv.Mp w' m ∧ Below B w w'
theorem Tryz.leaf_ok {w : World} {x y m B : Nat} {k : Int} {b : Bool} {n : Int} {t : ByteArray} {kv1 kv2 : Value} (hx : Jv.Vb w x k b n t kv1 Jv.nilS) (hy : Jv.Vb w y k b n t kv2 Jv.nilS) (hne : ¬ x = y) (hP : Jv.Mp w m) :
    Calls Tryz.prog 24 #[.pointer (some ⟨x, 0, none⟩), .pointer (some ⟨y, 0, none⟩), .map (some m)] w fun e w' => e = .returned (.bool true) ∧ Jv.Mp w' m ∧ Below B w w' :=
  (Tryz.alike_leaf hx hy hne _).mono fun e w' ⟨h1, h2⟩ => ⟨h1, by rw [h2]; exact hP, by rw [h2]; exact Below.refl _ _⟩
theorem Tryz.items_ok {B : Nat} {ok1 ok2 : Nat → Prop} {w : World} {m : Nat} {l : List V} {xs ys : List Nat} {sv1 sv2 : Value} (hd : ∀ g, ok1 g → ¬ ok2 g) (h1 : ∀ g, ok1 g → g < B) (h2 : ∀ g, ok2 g → g < B) (hm : B ≤ m) (hB : B ≤ w.heap.size)
    (hr1 : Jv.Rw w ok1 24 sv1 (Jv.ptrs xs)) (hr2 : Jv.Rw w ok2 24 sv2 (Jv.ptrs ys)) (ht1 : Tryz.Trs w ok1 l xs) (ht2 : Tryz.Trs w ok2 l ys) (hall : ∀ (i : Nat) (h : i < l.length), Tryz.AlOk l[i]) (hx : xs.length = l.length) (hy : ys.length = l.length) (h0 : 0 < l.length) :
    ∃ g1 c1 g2 c2, sv1 = .slice (some ⟨g1, 0, none⟩) l.length c1 ∧ sv2 = .slice (some ⟨g2, 0, none⟩) l.length c2 ∧ g1 < B ∧ g2 < B ∧ ∀ i, i < l.length → ∃ a c, w.cell? ⟨g1, i, none⟩ = some (.pointer (some ⟨a, 0, none⟩)) ∧ w.cell? ⟨g2, i, none⟩ = some (.pointer (some ⟨c, 0, none⟩)) ∧ ∀ W, Below B w W → Jv.Mp W m → Calls Tryz.prog 24 #[.pointer (some ⟨a, 0, none⟩), .pointer (some ⟨c, 0, none⟩), .map (some m)] W fun e w' => e = .returned (.bool true) ∧ Jv.Mp w' m ∧ Below B W w' := by
  have e1 : (Jv.ptrs xs).length = l.length := by simp [Jv.ptrs, hx]
  have e2 : (Jv.ptrs ys).length = l.length := by simp [Jv.ptrs, hy]
  obtain ⟨g1, c1, rfl, o1, -, cl1⟩ := Jv.row_cells hr1 (by omega)
  obtain ⟨g2, c2, rfl, o2, -, cl2⟩ := Jv.row_cells hr2 (by omega)
  rw [e1, e2]
  refine ⟨g1, c1, g2, c2, rfl, rfl, h1 _ o1, h2 _ o2, fun i hi => ?_⟩
  obtain ⟨a, ha, hta⟩ := Tryz.Trs_get l xs i hi ht1
  obtain ⟨c, hc, htc⟩ := Tryz.Trs_get l ys i hi ht2
  refine ⟨a, c, cl1 i _ (by simp [Jv.ptrs, ha]), cl2 i _ (by simp [Jv.ptrs, hc]), fun W hW hMW => ?_⟩
  exact hall i hi B ok1 ok2 W a c m hd h1 h2 hm (Nat.le_trans hB hW.size) (Tryz.Tr_keep (fun g hg _ => hW.block g (h1 g hg)) hW.size _ _ hta) (Tryz.Tr_keep (fun g hg _ => hW.block g (h2 g hg)) hW.size _ _ htc) hMW
theorem Tryz.Trs_len2 {w : World} {ok : Nat → Prop} : ∀ (l : List V) (xs : List Nat), Tryz.Trs w ok l xs → xs.length = l.length
  | [], xs, h => by unfold Tryz.Trs at h; subst h; rfl
  | v :: l, xs, h => by
    unfold Tryz.Trs at h
    obtain ⟨x, r, rfl, -, h2⟩ := h
    simp [Tryz.Trs_len2 l r h2]
theorem Jv.row_nil {w : World} {ok : Nat → Prop} {e : TypeId} {sv : Value} {vals : List Value} (h : Jv.Rw w ok e sv vals) (h0 : vals.length = 0) : ∃ a c, sv = .slice a 0 c := by
  rcases h.row.2 with ⟨h1, _⟩ | ⟨g, c, _, h1, _⟩
  · exact ⟨none, 0, h1⟩
  · exact ⟨_, c, by rw [h1, h0]⟩
theorem Tryz.al_list (l : List V) (hl : l.length ≤ 1000000) (hall : ∀ (i : Nat) (h : i < l.length), Tryz.AlOk l[i]) : Tryz.AlOk (.list l) := by
  intro B ok1 ok2 w x y m hd h1 h2 hm hB htx hty hP
  unfold Tryz.Tr at htx hty
  obtain ⟨ox, sv1, xs, hvx, hr1, ht1⟩ := htx
  obtain ⟨oy, sv2, ys, hvy, hr2, ht2⟩ := hty
  have hne : ¬ x = y := fun e => hd x ox (by rw [e]; exact oy)
  have lx := Tryz.Trs_len2 l xs ht1
  have ly := Tryz.Trs_len2 l ys ht2
  by_cases h0 : 0 < l.length
  · obtain ⟨g1, c1, g2, c2, rfl, rfl, b1, b2, hit⟩ := Tryz.items_ok hd h1 h2 hm hB hr1 hr2 ht1 ht2 hall lx ly h0
    refine Tryz.alike_items hvx hvy hne (h1 x ox) (h2 y oy) b1 b2 hm hB hP h0 hl (fun W hW => ?_) hit
    exact (Tryz.slices_Equal_string_empty none none 0 0 0 W (by omega)).mono fun e w' ⟨h3, h4⟩ => ⟨by simpa using h3, 0, by rw [h4]; rfl⟩
  · have z1 : (Jv.ptrs xs).length = 0 := by rw [show (Jv.ptrs xs).length = xs.length by simp [Jv.ptrs]]; omega
    have z2 : (Jv.ptrs ys).length = 0 := by rw [show (Jv.ptrs ys).length = ys.length by simp [Jv.ptrs]]; omega
    obtain ⟨a1, c1, rfl⟩ := Jv.row_nil hr1 z1
    obtain ⟨a2, c2, rfl⟩ := Jv.row_nil hr2 z2
    exact (Tryz.alike_leaf hvx hvy hne _).mono fun e w' ⟨h1, h2⟩ => ⟨h1, by rw [h2]; exact hP, by rw [h2]; exact Below.refl _ _⟩
theorem Tryz.al_obj (ks : List ByteArray) (l : List V) (hl : l.length ≤ 1000000) (hall : ∀ (i : Nat) (h : i < l.length), Tryz.AlOk l[i]) : Tryz.AlOk (.obj ks l) := by
  intro B ok1 ok2 w x y m hd h1 h2 hm hB htx hty hP
  unfold Tryz.Tr at htx hty
  obtain ⟨ox, kv1, sv1, xs, hvx, hk1, hr1, ht1, hkx⟩ := htx
  obtain ⟨oy, kv2, sv2, ys, hvy, hk2, hr2, ht2, hky⟩ := hty
  have hne : ¬ x = y := fun e => hd x ox (by rw [e]; exact oy)
  have lx := Tryz.Trs_len2 l xs ht1
  have ly := Tryz.Trs_len2 l ys ht2
  by_cases h0 : 0 < l.length
  · obtain ⟨g1, c1, g2, c2, rfl, rfl, b1, b2, hit⟩ := Tryz.items_ok hd h1 h2 hm hB hr1 hr2 ht1 ht2 hall lx ly h0
    have kl : (ks.map Value.string).length = ks.length := by simp
    obtain ⟨gk1, ck1, rfl, ok1', -, cl1⟩ := Jv.row_cells hk1 (by omega)
    obtain ⟨gk2, ck2, rfl, ok2', -, cl2⟩ := Jv.row_cells hk2 (by omega)
    rw [kl] at hvx hvy
    refine Tryz.alike_items hvx hvy hne (h1 x ox) (h2 y oy) b1 b2 hm hB hP h0 hl (fun W hW => ?_) hit
    have := Tryz.slices_Equal_string gk1 0 ks.length ck1 gk2 0 ks.length ck2 ks ks W (Nat.le_refl _) (Nat.le_refl _) (by omega) (by omega) (fun j hj => by
      rw [Nat.zero_add, hW.cell (p := ⟨gk1, j, none⟩) (h1 _ ok1')]
      rw [cl1 j (.string ks[j]) (by simp [hj]), List.getD_eq_getElem?_getD, List.getElem?_eq_getElem hj]
      rfl) (fun j hj => by
      rw [Nat.zero_add, hW.cell (p := ⟨gk2, j, none⟩) (h2 _ ok2')]
      rw [cl2 j (.string ks[j]) (by simp [hj]), List.getD_eq_getElem?_getD, List.getElem?_eq_getElem hj]
      rfl)
    exact this.mono fun e w' ⟨h3, h4⟩ => ⟨by simpa using h3, h4⟩
  · have z1 : (Jv.ptrs xs).length = 0 := by rw [show (Jv.ptrs xs).length = xs.length by simp [Jv.ptrs]]; omega
    have z2 : (Jv.ptrs ys).length = 0 := by rw [show (Jv.ptrs ys).length = ys.length by simp [Jv.ptrs]]; omega
    obtain ⟨a1, c1, rfl⟩ := Jv.row_nil hr1 z1
    obtain ⟨a2, c2, rfl⟩ := Jv.row_nil hr2 z2
    exact (Tryz.alike_leaf hvx hvy hne _).mono fun e w' ⟨h1, h2⟩ => ⟨h1, by rw [h2]; exact hP, by rw [h2]; exact Below.refl _ _⟩
theorem Tryz.al_all : ∀ (d : Nat) (v : V), Gd d v → Tryz.AlOk v := by
  intro d
  induction d with
  | zero =>
    intro v hg
    cases v with
    | list l => exact absurd hg (by simp [Gd])
    | obj ks l => exact absurd hg (by simp [Gd])
    | null => intro B ok1 ok2 w x y m hd _ _ _ _ htx hty hP; unfold Tryz.Tr at htx hty; exact Tryz.leaf_ok htx.2 hty.2 (fun e => hd x htx.1 (by rw [e]; exact hty.1)) hP
    | bool b => intro B ok1 ok2 w x y m hd _ _ _ _ htx hty hP; unfold Tryz.Tr at htx hty; exact Tryz.leaf_ok htx.2 hty.2 (fun e => hd x htx.1 (by rw [e]; exact hty.1)) hP
    | int n => intro B ok1 ok2 w x y m hd _ _ _ _ htx hty hP; unfold Tryz.Tr at htx hty; exact Tryz.leaf_ok htx.2 hty.2 (fun e => hd x htx.1.1 (by rw [e]; exact hty.1.1)) hP
    | text s => intro B ok1 ok2 w x y m hd _ _ _ _ htx hty hP; unfold Tryz.Tr at htx hty; exact Tryz.leaf_ok htx.2 hty.2 (fun e => hd x htx.1 (by rw [e]; exact hty.1)) hP
  | succ d ih =>
    intro v hg
    cases v with
    | list l =>
      obtain ⟨g1, g2⟩ := hg
      exact Tryz.al_list l (by omega) fun i hi => ih _ (g2 _ (List.getElem_mem hi))
    | obj ks l =>
      obtain ⟨-, g1, -, -, g2⟩ := hg
      exact Tryz.al_obj ks l (by omega) fun i hi => ih _ (g2 _ (List.getElem_mem hi))
    | null => intro B ok1 ok2 w x y m hd _ _ _ _ htx hty hP; unfold Tryz.Tr at htx hty; exact Tryz.leaf_ok htx.2 hty.2 (fun e => hd x htx.1 (by rw [e]; exact hty.1)) hP
    | bool b => intro B ok1 ok2 w x y m hd _ _ _ _ htx hty hP; unfold Tryz.Tr at htx hty; exact Tryz.leaf_ok htx.2 hty.2 (fun e => hd x htx.1 (by rw [e]; exact hty.1)) hP
    | int n => intro B ok1 ok2 w x y m hd _ _ _ _ htx hty hP; unfold Tryz.Tr at htx hty; exact Tryz.leaf_ok htx.2 hty.2 (fun e => hd x htx.1.1 (by rw [e]; exact hty.1.1)) hP
    | text s => intro B ok1 ok2 w x y m hd _ _ _ _ htx hty hP; unfold Tryz.Tr at htx hty; exact Tryz.leaf_ok htx.2 hty.2 (fun e => hd x htx.1 (by rw [e]; exact hty.1)) hP
set_option maxRecDepth 100000 in
theorem Tryz.same_any {w : World} {x y : Nat} {v : V} {d : Nat} {ok1 ok2 : Nat → Prop} (hg : Gd d v) (hx : Tryz.Tr w ok1 v x) (hy : Tryz.Tr w ok2 v y) (hd : ∀ g, ok1 g → ¬ ok2 g) :
    Calls Tryz.prog 10 #[.pointer (some ⟨x, 0, none⟩), .pointer (some ⟨y, 0, none⟩)] w fun e w' => e = .returned (.bool true) ∧ Below w.heap.size w w' := by
  have hb0 : Below w.heap.size w (w.alloc (.map #[] 0)) := (Below.refl _ _).alloc (Nat.le_refl _) _
  have hP : Jv.Mp (w.alloc (.map #[] 0)) w.heap.size := ⟨#[], 0, heap_alloc_new w _, fun e he => by simp at he⟩
  have ha := Tryz.al_all d v hg w.heap.size (fun g => ok1 g ∧ g < w.heap.size) (fun g => ok2 g ∧ g < w.heap.size) (w.alloc (.map #[] 0)) x y w.heap.size (fun g h1 h2 => hd g h1.1 h2.1) (fun g h => h.2) (fun g h => h.2) (Nat.le_refl _) (by simp) (Tryz.Tr_keep (w := w) (fun g hg hl => hb0.block g hl) hb0.size _ _ (Tryz.Tr_mono (fun g h1 h2 => ⟨h1, h2⟩) _ _ hx)) (Tryz.Tr_keep (w := w) (fun g hg hl => hb0.block g hl) hb0.size _ _ (Tryz.Tr_mono (fun g h1 h2 => ⟨h1, h2⟩) _ _ hy)) hP
  have HB0 : Hid (Below w.heap.size w (w.alloc (.map #[] 0))) := hb0
  clear hx hy hP hb0
  have hm := run_makeMap (P := Tryz.prog) 61 w
  go_enter Tryz.func10, Tryz.ntmps10
  go_wp2_with (first
    | (go_at_call 24; refine ha.mono ?_; clear ha; rintro e1 w1 ⟨rfl, -, hb1⟩)
    | fail)
  go_ret
  exact ⟨rfl, HB0.out.trans hb1⟩
end Go.Proofs
