/-
  Laid together by packg.py of Yj.
-/
import Derived.Test.YtjiidkkmnlcpcaaGreatDoorPYi
import Derived.Test.YtjiidkkmnlcpcaaGreatDoorPaQ
import Derived.Test.YtjiidkkmnlcpcaaGreatDoorLq
namespace Go.Wb
section
variable {P : Program} {ops : Array Oper} {C : World → Prop} {Q : Act → Prop} {a : Act} {o : Oper} {rest : List Oper}
theorem q_valW {v : Value} (hw : Region.wanted o (yielded ops a.tmps) = true) (he : ∀ w, C w → (execOp a.eval o).run P w = .ok (.value v) w) (hK : wpQuiet P ops C Q rest (a.put o.dst v)) : wpQuiet P ops C Q (o :: rest) a := by
  unfold wpQuiet
  rw [if_pos hw]
  refine ⟨v, fun w hw => ?_, hK⟩
  unfold Oper.quietAt
  rw [he w hw]
  exact ⟨rfl, rfl⟩
theorem q_callW {v : Value} {f : FuncId} {args : Array Value} (hw : Region.wanted o (yielded ops a.tmps) = true) (he : ∀ w, C w → (execOp a.eval o).run P w = .ok (.enter f args) w) (hc : ∀ w, C w → Calls P f args w fun e w' => e = .returned v ∧ C w') (hK : wpQuiet P ops C Q rest (a.put o.dst v)) : wpQuiet P ops C Q (o :: rest) a := by
  unfold wpQuiet
  rw [if_pos hw]
  refine ⟨v, fun w hw => ?_, hK⟩
  unfold Oper.quietAt
  rw [he w hw]
  exact ⟨rfl, hc w hw⟩
theorem q_no (h : Region.wanted o (yielded ops a.tmps) = false) (hK : wpQuiet P ops C Q rest (a.put o.dst undef)) : wpQuiet P ops C Q (o :: rest) a := by
  unfold wpQuiet
  rw [if_neg (by rw [h]; decide)]
  exact hK
end
open Go.RowKit Go.Proofs
/-- Headers that lie somewhere. -/
structure Hs (w : World) (V : Value) (L : List (List UInt8 × List UInt8)) : Prop where
  ex : ∃ ad cap, V = .slice ad L.length cap ∧ (L = [] ∨ ∃ g o, ad = some ⟨g, o, none⟩ ∧ g < w.heap.size ∧ ∀ j (hj : j < L.length), w.cell? ⟨g, o + j * 2, none⟩ = some (.string ⟨L[j].1.toArray⟩) ∧ w.cell? ⟨g, o + j * 2 + 1, none⟩ = some (.string ⟨L[j].2.toArray⟩))
  nz : V = .slice none 0 0 ∨ ∃ ad n c, V = .slice (some ad) n c
theorem Hs.below {w w' : World} {V : Value} {L : List (List UInt8 × List UInt8)} (h : Hs w V L) (g : Below w.heap.size w w') : Hs w' V L := by
  have hz := h.nz
  obtain ⟨ad, cap, rfl, h1⟩ := h.ex
  refine ⟨⟨ad, cap, rfl, ?_⟩, hz⟩
  rcases h1 with h1 | ⟨gg, o, rfl, hg, h1⟩
  · exact .inl h1
  · exact .inr ⟨gg, o, rfl, Nat.lt_of_lt_of_le hg g.size, fun j hj => ⟨(g.cell (p := ⟨gg, o + j * 2, none⟩) hg).trans (h1 j hj).1, (g.cell (p := ⟨gg, o + j * 2 + 1, none⟩) hg).trans (h1 j hj).2⟩⟩
def sCL : List UInt8 := [99, 111, 110, 116, 101, 110, 116, 45, 108, 101, 110, 103, 116, 104]
def sTE : List UInt8 := [116, 114, 97, 110, 115, 102, 101, 114, 45, 101, 110, 99, 111, 100, 105, 110, 103]
def sCo : List UInt8 := [99, 111, 110, 110, 101, 99, 116, 105, 111, 110]
def mayH (h : List UInt8 × List UInt8) : Bool := !(h.1 == sCL) && !(h.1 == sTE) && !(h.1 == sCo) && isTok h.1 && (h.1.map sm == h.1) && isVal h.2
def mayStand (L : List (List UInt8 × List UInt8)) : Bool := L.all mayH
theorem may_next {L : List (List UInt8 × List UInt8)} {i : Nat} (hi : i < L.length) (h : (L.take i).all mayH = true) (hp : mayH L[i] = true) : (L.take (i + 1)).all mayH = true := by
  rw [List.take_add_one, List.getElem?_eq_getElem hi, List.all_append, h]
  simp [hp]
theorem may_not {L : List (List UInt8 × List UInt8)} {i : Nat} (hi : i < L.length) (hp : mayH L[i] = false) : mayStand L = false := by
  rw [Bool.eq_false_iff]
  intro h
  have := List.all_eq_true.1 h L[i] (List.getElem_mem hi)
  rw [hp] at this; cases this
end Go.Wb
namespace Go.Proofs
open Go.RowKit Go.Wi Go.Wb
set_option maxRecDepth 20000 in
set_option maxHeartbeats 1000000 in
theorem Tryz.mayStand_any {w : World} {V : Value} {L : List (List UInt8 × List UInt8)} (h : Hs w V L) (hL : L.length ≤ 9223372036854775807) (hl : ∀ x ∈ L, x.1.length ≤ 140737488355328 ∧ x.2.length ≤ 140737488355328) :
    Calls Tryz.prog 36 #[V] w fun e w' => e = .returned (.bool (mayStand L)) ∧ Below w.heap.size w w' := by
  obtain ⟨ad, cap, rfl, hx⟩ := h.ex
  clear h
  have HX : Hid (L = [] ∨ ∃ g o, ad = some ⟨g, o, none⟩ ∧ g < w.heap.size ∧ ∀ j (hj : j < L.length), w.cell? ⟨g, o + j * 2, none⟩ = some (.string ⟨L[j].1.toArray⟩) ∧ w.cell? ⟨g, o + j * 2 + 1, none⟩ = some (.string ⟨L[j].2.toArray⟩)) := hx
  clear hx
  go_enter Tryz.func36, Tryz.ntmps36
  go_wp2
  go_loopw [4, 7] (fun _ iv wr => ∃ i : Nat, iv = .int .i64 i ∧ i ≤ L.length ∧ (L.take i).all mayH = true ∧ Below w.heap.size w wr) (fun _ iv _ => L.length - (intOf iv).toNat)
  case atStart => exact ⟨0, rfl, Nat.zero_le _, by simp, Below.refl _ _⟩
  case round =>
    obtain ⟨i, rfl, hi, hno, hbel⟩ := hrel
    have HN : Hid ((L.take i).all mayH = true) := hno
    have HB : Hid (Below w.heap.size w wr) := hbel
    clear hno hbel
    by_cases hlt : i < L.length
    · have q : (i : Int) < (L.length : Int) := by omega
      obtain ⟨g, o, rfl, c0, c1⟩ : ∃ g o, ad = some ⟨g, o, none⟩ ∧ wr.cell? ⟨g, o + i * 2, none⟩ = some (.string ⟨L[i].1.toArray⟩) ∧ wr.cell? ⟨g, o + i * 2 + 1, none⟩ = some (.string ⟨L[i].2.toArray⟩) := by
        rcases HX.out with e | ⟨g, o, e, hg, hc⟩
        · rw [e] at hlt; cases hlt
        · exact ⟨g, o, e, (HB.out.cell (p := ⟨g, o + i * 2, none⟩) hg).trans (hc i hlt).1, (HB.out.cell (p := ⟨g, o + i * 2 + 1, none⟩) hg).trans (hc i hlt).2⟩
      obtain ⟨hl1, hl2⟩ := hl L[i] (List.getElem_mem hlt)
      have HNX : Hid (mayH L[i] = true → (L.take (i + 1)).all mayH = true) := fun e => may_next hlt HN.out e
      have HNO : Hid (mayH L[i] = false → mayStand L = false) := fun e => may_not hlt e
      have HM : Hid (mayH L[i] = (!(L[i].1 == sCL) && !(L[i].1 == sTE) && !(L[i].1 == sCo) && isTok L[i].1 && (L[i].1.map sm == L[i].1) && isVal L[i].2)) := rfl
      generalize mayH L[i] = mh at *
      have kt := Tryz.isToken_any L[i].1 (by omega)
      have ks := Tryz.smallText_any L[i].1 hl1
      have kv := Tryz.isValue_any L[i].2 (by omega)
      generalize L[i].1 = n at *
      generalize L[i].2 = v at *
      generalize n.map sm = ns at *
      generalize isTok n = bt at *
      generalize isVal v = bv at *
      have HA : Hid (Below w.heap.size w (wr.alloc (.cells #[.string ⟨n.toArray⟩, .string ⟨v.toArray⟩] 57))) := HB.out.alloc HB.out.size _
      have HC0 : Hid ((wr.alloc (.cells #[.string ⟨n.toArray⟩, .string ⟨v.toArray⟩] 57)).cell? ⟨wr.heap.size, 0, none⟩ = some (.string ⟨n.toArray⟩)) := (by show _ = _; rw [cell_of_row _ _ _ _ _ _ (heap_alloc_new wr _)]; rfl)
      clear hl1 hl2
      cases h1 : (n == sCL) with
      | true =>
        have HE : Hid (mayStand L = false) := HNO.out (by rw [HM.out, h1]; rfl)
        have h1' := h1
        unfold sCL at h1'
        clear h1
        go_wp2
        go_ret
        exact ⟨by rw [HE.out]; rfl, HA.out⟩
      | false =>
      have h1' := h1
      unfold sCL at h1'
      cases h2 : (n == sTE) with
      | true =>
        have HE : Hid (mayStand L = false) := HNO.out (by rw [HM.out, h1, h2]; rfl)
        have h2' := h2
        unfold sTE at h2'
        clear h1 h2
        go_wp2
        go_ret
        exact ⟨by rw [HE.out]; rfl, HA.out⟩
      | false =>
      have h2' := h2
      unfold sTE at h2'
      cases h3 : (n == sCo) with
      | true =>
        have HE : Hid (mayStand L = false) := HNO.out (by rw [HM.out, h1, h2, h3]; rfl)
        have h3' := h3
        unfold sCo at h3'
        clear h1 h2 h3
        go_wp2
        go_ret
        exact ⟨by rw [HE.out]; rfl, HA.out⟩
      | false =>
      have h3' := h3
      unfold sCo at h3'
      have HM2 : Hid (mh = (bt && (ns == n) && bv)) := (by show _ = _; rw [HM.out, h1, h2, h3]; rfl)
      clear h1 h2 h3 HM
      have HK0 : (wr.alloc (.cells #[.string ⟨n.toArray⟩, .string ⟨v.toArray⟩] 57)).heap[wr.heap.size]? = some (.cells #[.string ⟨n.toArray⟩, .string ⟨v.toArray⟩] 57) := heap_alloc_new wr _
      go_upto_region 9 with (fail)
      have hA := HA.out
      clear HA HC0
      generalize wr.alloc (.cells #[.string ⟨n.toArray⟩, .string ⟨v.toArray⟩] 57) = W1 at *
      have hlt1 := block_lt HK0
      have HK : Hid (∀ W, Below W1.heap.size W1 W → W.cell? ⟨wr.heap.size, 0, none⟩ = some (.string ⟨n.toArray⟩) ∧ W.cell? ⟨wr.heap.size, 1, none⟩ = some (.string ⟨v.toArray⟩)) := fun W hb => ⟨(hb.cell (p := ⟨wr.heap.size, 0, none⟩) hlt1).trans (cell_of_row _ _ 0 _ _ _ HK0), (hb.cell (p := ⟨wr.heap.size, 1, none⟩) hlt1).trans (cell_of_row _ _ 1 _ _ _ HK0)⟩
      have HA1 : Hid (Below w.heap.size w W1) := hA
      clear hA HK0 hlt1
      generalize wr.heap.size = B at *
      cases bt with
      | false =>
        have HE : Hid (mayStand L = false) := HNO.out (by rw [HM2.out]; rfl)
        refine wp_region_quiet (C := fun W => Below W1.heap.size W1 W) (by kernel_rfl) (by kernel_rfl) ⟨rfl, rfl, rfl, Nat.le_refl _, fun _ _ => rfl⟩ ?_
        dsimp only
        refine Go.Wb.q_valW (v := .pointer (some ⟨B, 0, none⟩)) (by kernel_rfl) (fun W _ => by go_simp) ?_
        try simp only [Act.put, List.setIfInBounds_toArray, List.set_cons_zero, List.set_cons_succ]
        refine Go.Wb.q_valW (v := .string ⟨n.toArray⟩) (by kernel_rfl) (fun W hW => by have c := (HK.out W hW).1; go_simp) ?_
        try simp only [Act.put, List.setIfInBounds_toArray, List.set_cons_zero, List.set_cons_succ]
        refine Go.Wb.q_callW (v := .bool false) (f := 51) (args := #[.string ⟨n.toArray⟩]) (by kernel_rfl) (fun _ _ => by kernel_rfl) (fun W hW => (kt W).mono fun _ _ ⟨h2, h3⟩ => ⟨h2, by rw [h3]; exact hW⟩) ?_
        try simp only [Act.put, List.setIfInBounds_toArray, List.set_cons_zero, List.set_cons_succ]
        refine Go.Wb.q_valW (v := .bool true) (by kernel_rfl) (fun _ _ => by kernel_rfl) ?_
        try simp only [Act.put, List.setIfInBounds_toArray, List.set_cons_zero, List.set_cons_succ]
        refine Go.Wb.q_valW (v := .bool true) (by kernel_rfl) (fun _ _ => by kernel_rfl) ?_
        try simp only [Act.put, List.setIfInBounds_toArray, List.set_cons_zero, List.set_cons_succ]
        refine Go.Wb.q_no (by kernel_rfl) ?_
        try simp only [Act.put, List.setIfInBounds_toArray, List.set_cons_zero, List.set_cons_succ]
        refine Go.Wb.q_no (by kernel_rfl) ?_
        try simp only [Act.put, List.setIfInBounds_toArray, List.set_cons_zero, List.set_cons_succ]
        refine Go.Wb.q_no (by kernel_rfl) ?_
        try simp only [Act.put, List.setIfInBounds_toArray, List.set_cons_zero, List.set_cons_succ]
        refine Go.Wb.q_no (by kernel_rfl) ?_
        try simp only [Act.put, List.setIfInBounds_toArray, List.set_cons_zero, List.set_cons_succ]
        refine Go.Wb.q_no (by kernel_rfl) ?_
        try simp only [Act.put, List.setIfInBounds_toArray, List.set_cons_zero, List.set_cons_succ]
        refine Go.Wb.q_no (by kernel_rfl) ?_
        try simp only [Act.put, List.setIfInBounds_toArray, List.set_cons_zero, List.set_cons_succ]
        refine Go.Wb.q_valW (v := .bool true) (by kernel_rfl) (fun _ _ => by kernel_rfl) ?_
        try simp only [Act.put, List.setIfInBounds_toArray, List.set_cons_zero, List.set_cons_succ]
        refine Go.Wb.q_valW (v := .bool true) (by kernel_rfl) (fun _ _ => by kernel_rfl) ?_
        try simp only [Act.put, List.setIfInBounds_toArray, List.set_cons_zero, List.set_cons_succ]
        refine Go.Wb.q_no (by kernel_rfl) ?_
        try simp only [Act.put, List.setIfInBounds_toArray, List.set_cons_zero, List.set_cons_succ]
        refine Go.Wb.q_no (by kernel_rfl) ?_
        try simp only [Act.put, List.setIfInBounds_toArray, List.set_cons_zero, List.set_cons_succ]
        refine Go.Wb.q_no (by kernel_rfl) ?_
        try simp only [Act.put, List.setIfInBounds_toArray, List.set_cons_zero, List.set_cons_succ]
        refine Go.Wb.q_no (by kernel_rfl) ?_
        try simp only [Act.put, List.setIfInBounds_toArray, List.set_cons_zero, List.set_cons_succ]
        refine Go.Wb.q_valW (v := .bool true) (by kernel_rfl) (fun _ _ => by kernel_rfl) ?_
        try simp only [Act.put, List.setIfInBounds_toArray, List.set_cons_zero, List.set_cons_succ]
        refine wpQuiet_nil ?_
        intro W hWx
        have HW : Hid (Below w.heap.size w W) := HA1.out.trans (hWx.mono HA1.out.size)
        clear hWx HK
        go_wp2
        go_ret
        exact ⟨by rw [HE.out]; rfl, HW.out⟩
      | true =>
      cases h4 : (ns == n) with
      | false =>
        have HE : Hid (mayStand L = false) := HNO.out (by rw [HM2.out, h4]; rfl)
        refine wp_region_quiet (C := fun W => Below W1.heap.size W1 W) (by kernel_rfl) (by kernel_rfl) ⟨rfl, rfl, rfl, Nat.le_refl _, fun _ _ => rfl⟩ ?_
        dsimp only
        refine Go.Wb.q_valW (v := .pointer (some ⟨B, 0, none⟩)) (by kernel_rfl) (fun W _ => by go_simp) ?_
        try simp only [Act.put, List.setIfInBounds_toArray, List.set_cons_zero, List.set_cons_succ]
        refine Go.Wb.q_valW (v := .string ⟨n.toArray⟩) (by kernel_rfl) (fun W hW => by have c := (HK.out W hW).1; go_simp) ?_
        try simp only [Act.put, List.setIfInBounds_toArray, List.set_cons_zero, List.set_cons_succ]
        refine Go.Wb.q_callW (v := .bool true) (f := 51) (args := #[.string ⟨n.toArray⟩]) (by kernel_rfl) (fun _ _ => by kernel_rfl) (fun W hW => (kt W).mono fun _ _ ⟨h2, h3⟩ => ⟨h2, by rw [h3]; exact hW⟩) ?_
        try simp only [Act.put, List.setIfInBounds_toArray, List.set_cons_zero, List.set_cons_succ]
        refine Go.Wb.q_valW (v := .bool false) (by kernel_rfl) (fun _ _ => by kernel_rfl) ?_
        try simp only [Act.put, List.setIfInBounds_toArray, List.set_cons_zero, List.set_cons_succ]
        refine Go.Wb.q_valW (v := .bool false) (by kernel_rfl) (fun _ _ => by kernel_rfl) ?_
        try simp only [Act.put, List.setIfInBounds_toArray, List.set_cons_zero, List.set_cons_succ]
        refine Go.Wb.q_valW (v := .pointer (some ⟨B, 0, none⟩)) (by kernel_rfl) (fun W _ => by go_simp) ?_
        try simp only [Act.put, List.setIfInBounds_toArray, List.set_cons_zero, List.set_cons_succ]
        refine Go.Wb.q_valW (v := .string ⟨n.toArray⟩) (by kernel_rfl) (fun W hW => by have c := (HK.out W hW).1; go_simp) ?_
        try simp only [Act.put, List.setIfInBounds_toArray, List.set_cons_zero, List.set_cons_succ]
        refine Go.Wb.q_callW (v := .string ⟨ns.toArray⟩) (f := 52) (args := #[.string ⟨n.toArray⟩]) (by kernel_rfl) (fun _ _ => by kernel_rfl) (fun W hW => (ks W).mono fun _ _ ⟨h2, h3⟩ => ⟨h2, hW.trans (h3.mono hW.size)⟩) ?_
        try simp only [Act.put, List.setIfInBounds_toArray, List.set_cons_zero, List.set_cons_succ]
        refine Go.Wb.q_valW (v := .pointer (some ⟨B, 0, none⟩)) (by kernel_rfl) (fun W _ => by go_simp) ?_
        try simp only [Act.put, List.setIfInBounds_toArray, List.set_cons_zero, List.set_cons_succ]
        refine Go.Wb.q_valW (v := .string ⟨n.toArray⟩) (by kernel_rfl) (fun W hW => by have c := (HK.out W hW).1; go_simp) ?_
        try simp only [Act.put, List.setIfInBounds_toArray, List.set_cons_zero, List.set_cons_succ]
        refine Go.Wb.q_valW (v := .bool true) (by kernel_rfl) (fun W _ => by go_simp) ?_
        try simp only [Act.put, List.setIfInBounds_toArray, List.set_cons_zero, List.set_cons_succ]
        refine Go.Wb.q_valW (v := .bool true) (by kernel_rfl) (fun _ _ => by kernel_rfl) ?_
        try simp only [Act.put, List.setIfInBounds_toArray, List.set_cons_zero, List.set_cons_succ]
        refine Go.Wb.q_valW (v := .bool true) (by kernel_rfl) (fun _ _ => by kernel_rfl) ?_
        try simp only [Act.put, List.setIfInBounds_toArray, List.set_cons_zero, List.set_cons_succ]
        refine Go.Wb.q_no (by kernel_rfl) ?_
        try simp only [Act.put, List.setIfInBounds_toArray, List.set_cons_zero, List.set_cons_succ]
        refine Go.Wb.q_no (by kernel_rfl) ?_
        try simp only [Act.put, List.setIfInBounds_toArray, List.set_cons_zero, List.set_cons_succ]
        refine Go.Wb.q_no (by kernel_rfl) ?_
        try simp only [Act.put, List.setIfInBounds_toArray, List.set_cons_zero, List.set_cons_succ]
        refine Go.Wb.q_no (by kernel_rfl) ?_
        try simp only [Act.put, List.setIfInBounds_toArray, List.set_cons_zero, List.set_cons_succ]
        refine Go.Wb.q_valW (v := .bool true) (by kernel_rfl) (fun _ _ => by kernel_rfl) ?_
        try simp only [Act.put, List.setIfInBounds_toArray, List.set_cons_zero, List.set_cons_succ]
        refine wpQuiet_nil ?_
        intro W hWx
        have HW : Hid (Below w.heap.size w W) := HA1.out.trans (hWx.mono HA1.out.size)
        clear hWx HK
        go_wp2
        go_ret
        exact ⟨by rw [HE.out]; rfl, HW.out⟩
      | true =>
      cases bv with
      | false =>
        have HE : Hid (mayStand L = false) := HNO.out (by rw [HM2.out, h4]; rfl)
        refine wp_region_quiet (C := fun W => Below W1.heap.size W1 W) (by kernel_rfl) (by kernel_rfl) ⟨rfl, rfl, rfl, Nat.le_refl _, fun _ _ => rfl⟩ ?_
        dsimp only
        refine Go.Wb.q_valW (v := .pointer (some ⟨B, 0, none⟩)) (by kernel_rfl) (fun W _ => by go_simp) ?_
        try simp only [Act.put, List.setIfInBounds_toArray, List.set_cons_zero, List.set_cons_succ]
        refine Go.Wb.q_valW (v := .string ⟨n.toArray⟩) (by kernel_rfl) (fun W hW => by have c := (HK.out W hW).1; go_simp) ?_
        try simp only [Act.put, List.setIfInBounds_toArray, List.set_cons_zero, List.set_cons_succ]
        refine Go.Wb.q_callW (v := .bool true) (f := 51) (args := #[.string ⟨n.toArray⟩]) (by kernel_rfl) (fun _ _ => by kernel_rfl) (fun W hW => (kt W).mono fun _ _ ⟨h2, h3⟩ => ⟨h2, by rw [h3]; exact hW⟩) ?_
        try simp only [Act.put, List.setIfInBounds_toArray, List.set_cons_zero, List.set_cons_succ]
        refine Go.Wb.q_valW (v := .bool false) (by kernel_rfl) (fun _ _ => by kernel_rfl) ?_
        try simp only [Act.put, List.setIfInBounds_toArray, List.set_cons_zero, List.set_cons_succ]
        refine Go.Wb.q_valW (v := .bool false) (by kernel_rfl) (fun _ _ => by kernel_rfl) ?_
        try simp only [Act.put, List.setIfInBounds_toArray, List.set_cons_zero, List.set_cons_succ]
        refine Go.Wb.q_valW (v := .pointer (some ⟨B, 0, none⟩)) (by kernel_rfl) (fun W _ => by go_simp) ?_
        try simp only [Act.put, List.setIfInBounds_toArray, List.set_cons_zero, List.set_cons_succ]
        refine Go.Wb.q_valW (v := .string ⟨n.toArray⟩) (by kernel_rfl) (fun W hW => by have c := (HK.out W hW).1; go_simp) ?_
        try simp only [Act.put, List.setIfInBounds_toArray, List.set_cons_zero, List.set_cons_succ]
        refine Go.Wb.q_callW (v := .string ⟨ns.toArray⟩) (f := 52) (args := #[.string ⟨n.toArray⟩]) (by kernel_rfl) (fun _ _ => by kernel_rfl) (fun W hW => (ks W).mono fun _ _ ⟨h2, h3⟩ => ⟨h2, hW.trans (h3.mono hW.size)⟩) ?_
        try simp only [Act.put, List.setIfInBounds_toArray, List.set_cons_zero, List.set_cons_succ]
        refine Go.Wb.q_valW (v := .pointer (some ⟨B, 0, none⟩)) (by kernel_rfl) (fun W _ => by go_simp) ?_
        try simp only [Act.put, List.setIfInBounds_toArray, List.set_cons_zero, List.set_cons_succ]
        refine Go.Wb.q_valW (v := .string ⟨n.toArray⟩) (by kernel_rfl) (fun W hW => by have c := (HK.out W hW).1; go_simp) ?_
        try simp only [Act.put, List.setIfInBounds_toArray, List.set_cons_zero, List.set_cons_succ]
        refine Go.Wb.q_valW (v := .bool false) (by kernel_rfl) (fun W _ => by go_simp) ?_
        try simp only [Act.put, List.setIfInBounds_toArray, List.set_cons_zero, List.set_cons_succ]
        refine Go.Wb.q_valW (v := .bool false) (by kernel_rfl) (fun _ _ => by kernel_rfl) ?_
        try simp only [Act.put, List.setIfInBounds_toArray, List.set_cons_zero, List.set_cons_succ]
        refine Go.Wb.q_valW (v := .bool false) (by kernel_rfl) (fun _ _ => by kernel_rfl) ?_
        try simp only [Act.put, List.setIfInBounds_toArray, List.set_cons_zero, List.set_cons_succ]
        refine Go.Wb.q_valW (v := .pointer (some ⟨B, 1, none⟩)) (by kernel_rfl) (fun W _ => by go_simp) ?_
        try simp only [Act.put, List.setIfInBounds_toArray, List.set_cons_zero, List.set_cons_succ]
        refine Go.Wb.q_valW (v := .string ⟨v.toArray⟩) (by kernel_rfl) (fun W hW => by have c := (HK.out W hW).2; go_simp) ?_
        try simp only [Act.put, List.setIfInBounds_toArray, List.set_cons_zero, List.set_cons_succ]
        refine Go.Wb.q_callW (v := .bool false) (f := 53) (args := #[.string ⟨v.toArray⟩]) (by kernel_rfl) (fun _ _ => by kernel_rfl) (fun W hW => (kv W).mono fun _ _ ⟨h2, h3⟩ => ⟨h2, hW.trans (h3.mono hW.size)⟩) ?_
        try simp only [Act.put, List.setIfInBounds_toArray, List.set_cons_zero, List.set_cons_succ]
        refine Go.Wb.q_valW (v := .bool true) (by kernel_rfl) (fun _ _ => by kernel_rfl) ?_
        try simp only [Act.put, List.setIfInBounds_toArray, List.set_cons_zero, List.set_cons_succ]
        refine Go.Wb.q_valW (v := .bool true) (by kernel_rfl) (fun _ _ => by kernel_rfl) ?_
        try simp only [Act.put, List.setIfInBounds_toArray, List.set_cons_zero, List.set_cons_succ]
        refine wpQuiet_nil ?_
        intro W hWx
        have HW : Hid (Below w.heap.size w W) := HA1.out.trans (hWx.mono HA1.out.size)
        clear hWx HK
        go_wp2
        go_ret
        exact ⟨by rw [HE.out]; rfl, HW.out⟩
      | true =>
        have HE : Hid ((L.take (i + 1)).all mayH = true) := HNX.out (by rw [HM2.out, h4]; rfl)
        refine wp_region_quiet (C := fun W => Below W1.heap.size W1 W) (by kernel_rfl) (by kernel_rfl) ⟨rfl, rfl, rfl, Nat.le_refl _, fun _ _ => rfl⟩ ?_
        dsimp only
        refine Go.Wb.q_valW (v := .pointer (some ⟨B, 0, none⟩)) (by kernel_rfl) (fun W _ => by go_simp) ?_
        try simp only [Act.put, List.setIfInBounds_toArray, List.set_cons_zero, List.set_cons_succ]
        refine Go.Wb.q_valW (v := .string ⟨n.toArray⟩) (by kernel_rfl) (fun W hW => by have c := (HK.out W hW).1; go_simp) ?_
        try simp only [Act.put, List.setIfInBounds_toArray, List.set_cons_zero, List.set_cons_succ]
        refine Go.Wb.q_callW (v := .bool true) (f := 51) (args := #[.string ⟨n.toArray⟩]) (by kernel_rfl) (fun _ _ => by kernel_rfl) (fun W hW => (kt W).mono fun _ _ ⟨h2, h3⟩ => ⟨h2, by rw [h3]; exact hW⟩) ?_
        try simp only [Act.put, List.setIfInBounds_toArray, List.set_cons_zero, List.set_cons_succ]
        refine Go.Wb.q_valW (v := .bool false) (by kernel_rfl) (fun _ _ => by kernel_rfl) ?_
        try simp only [Act.put, List.setIfInBounds_toArray, List.set_cons_zero, List.set_cons_succ]
        refine Go.Wb.q_valW (v := .bool false) (by kernel_rfl) (fun _ _ => by kernel_rfl) ?_
        try simp only [Act.put, List.setIfInBounds_toArray, List.set_cons_zero, List.set_cons_succ]
        refine Go.Wb.q_valW (v := .pointer (some ⟨B, 0, none⟩)) (by kernel_rfl) (fun W _ => by go_simp) ?_
        try simp only [Act.put, List.setIfInBounds_toArray, List.set_cons_zero, List.set_cons_succ]
        refine Go.Wb.q_valW (v := .string ⟨n.toArray⟩) (by kernel_rfl) (fun W hW => by have c := (HK.out W hW).1; go_simp) ?_
        try simp only [Act.put, List.setIfInBounds_toArray, List.set_cons_zero, List.set_cons_succ]
        refine Go.Wb.q_callW (v := .string ⟨ns.toArray⟩) (f := 52) (args := #[.string ⟨n.toArray⟩]) (by kernel_rfl) (fun _ _ => by kernel_rfl) (fun W hW => (ks W).mono fun _ _ ⟨h2, h3⟩ => ⟨h2, hW.trans (h3.mono hW.size)⟩) ?_
        try simp only [Act.put, List.setIfInBounds_toArray, List.set_cons_zero, List.set_cons_succ]
        refine Go.Wb.q_valW (v := .pointer (some ⟨B, 0, none⟩)) (by kernel_rfl) (fun W _ => by go_simp) ?_
        try simp only [Act.put, List.setIfInBounds_toArray, List.set_cons_zero, List.set_cons_succ]
        refine Go.Wb.q_valW (v := .string ⟨n.toArray⟩) (by kernel_rfl) (fun W hW => by have c := (HK.out W hW).1; go_simp) ?_
        try simp only [Act.put, List.setIfInBounds_toArray, List.set_cons_zero, List.set_cons_succ]
        refine Go.Wb.q_valW (v := .bool false) (by kernel_rfl) (fun W _ => by go_simp) ?_
        try simp only [Act.put, List.setIfInBounds_toArray, List.set_cons_zero, List.set_cons_succ]
        refine Go.Wb.q_valW (v := .bool false) (by kernel_rfl) (fun _ _ => by kernel_rfl) ?_
        try simp only [Act.put, List.setIfInBounds_toArray, List.set_cons_zero, List.set_cons_succ]
        refine Go.Wb.q_valW (v := .bool false) (by kernel_rfl) (fun _ _ => by kernel_rfl) ?_
        try simp only [Act.put, List.setIfInBounds_toArray, List.set_cons_zero, List.set_cons_succ]
        refine Go.Wb.q_valW (v := .pointer (some ⟨B, 1, none⟩)) (by kernel_rfl) (fun W _ => by go_simp) ?_
        try simp only [Act.put, List.setIfInBounds_toArray, List.set_cons_zero, List.set_cons_succ]
        refine Go.Wb.q_valW (v := .string ⟨v.toArray⟩) (by kernel_rfl) (fun W hW => by have c := (HK.out W hW).2; go_simp) ?_
        try simp only [Act.put, List.setIfInBounds_toArray, List.set_cons_zero, List.set_cons_succ]
        refine Go.Wb.q_callW (v := .bool true) (f := 53) (args := #[.string ⟨v.toArray⟩]) (by kernel_rfl) (fun _ _ => by kernel_rfl) (fun W hW => (kv W).mono fun _ _ ⟨h2, h3⟩ => ⟨h2, hW.trans (h3.mono hW.size)⟩) ?_
        try simp only [Act.put, List.setIfInBounds_toArray, List.set_cons_zero, List.set_cons_succ]
        refine Go.Wb.q_valW (v := .bool false) (by kernel_rfl) (fun _ _ => by kernel_rfl) ?_
        try simp only [Act.put, List.setIfInBounds_toArray, List.set_cons_zero, List.set_cons_succ]
        refine Go.Wb.q_valW (v := .bool false) (by kernel_rfl) (fun _ _ => by kernel_rfl) ?_
        try simp only [Act.put, List.setIfInBounds_toArray, List.set_cons_zero, List.set_cons_succ]
        refine wpQuiet_nil ?_
        intro W hWx
        have HW : Hid (Below w.heap.size w W) := HA1.out.trans (hWx.mono HA1.out.size)
        clear hWx HK
        go_wp2
        go_roundw
        case rel => exact ⟨i + 1, by simp, by omega, HE.out, HW.out⟩
        case measure => simp [intOf]; omega
    · have q : ¬ (i : Int) < (L.length : Int) := by omega
      have HE : Hid (mayStand L = true) := (by show mayStand L = true; have := HN.out; rw [List.take_of_length_le (by omega)] at this; exact this)
      go_wp2
      go_ret
      exact ⟨by rw [HE.out]; rfl, HB.out⟩
end Go.Proofs
