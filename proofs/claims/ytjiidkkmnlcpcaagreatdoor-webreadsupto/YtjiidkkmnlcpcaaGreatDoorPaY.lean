/-
  Laid together by packg.py of Yk Yl Ym Yn Yo.
-/
import Derived.Test.YtjiidkkmnlcpcaaGreatDoorPYj
import Derived.Lib.AppendIntMem
import Derived.Laws.AppendOwnNone
import Derived.Lib.AppendZeros
import Derived.Lib.AppendZerosOnto
import Derived.Lib.SliceRun
import Derived.Lib.AppendStr
import Derived.ArgAppend
namespace Go.Wb
open Go.RowKit Go.Proofs
def reason (n : Int) : List UInt8 :=
  if n = 200 then [79, 75] else
  if n = 201 then [67, 114, 101, 97, 116, 101, 100] else
  if n = 204 then [78, 111, 32, 67, 111, 110, 116, 101, 110, 116] else
  if n = 304 then [78, 111, 116, 32, 77, 111, 100, 105, 102, 105, 101, 100] else
  if n = 400 then [66, 97, 100, 32, 82, 101, 113, 117, 101, 115, 116] else
  if n = 401 then [85, 110, 97, 117, 116, 104, 111, 114, 105, 122, 101, 100] else
  if n = 403 then [70, 111, 114, 98, 105, 100, 100, 101, 110] else
  if n = 404 then [78, 111, 116, 32, 70, 111, 117, 110, 100] else
  if n = 405 then [77, 101, 116, 104, 111, 100, 32, 78, 111, 116, 32, 65, 108, 108, 111, 119, 101, 100] else
  if n = 408 then [82, 101, 113, 117, 101, 115, 116, 32, 84, 105, 109, 101, 111, 117, 116] else
  if n = 409 then [67, 111, 110, 102, 108, 105, 99, 116] else
  if n = 410 then [71, 111, 110, 101] else
  if n = 411 then [76, 101, 110, 103, 116, 104, 32, 82, 101, 113, 117, 105, 114, 101, 100] else
  if n = 413 then [67, 111, 110, 116, 101, 110, 116, 32, 84, 111, 111, 32, 76, 97, 114, 103, 101] else
  if n = 414 then [85, 82, 73, 32, 84, 111, 111, 32, 76, 111, 110, 103] else
  if n = 415 then [85, 110, 115, 117, 112, 112, 111, 114, 116, 101, 100, 32, 77, 101, 100, 105, 97, 32, 84, 121, 112, 101] else
  if n = 422 then [85, 110, 112, 114, 111, 99, 101, 115, 115, 97, 98, 108, 101, 32, 67, 111, 110, 116, 101, 110, 116] else
  if n = 429 then [84, 111, 111, 32, 77, 97, 110, 121, 32, 82, 101, 113, 117, 101, 115, 116, 115] else
  if n = 431 then [82, 101, 113, 117, 101, 115, 116, 32, 72, 101, 97, 100, 101, 114, 32, 70, 105, 101, 108, 100, 115, 32, 84, 111, 111, 32, 76, 97, 114, 103, 101] else
  if n = 500 then [73, 110, 116, 101, 114, 110, 97, 108, 32, 83, 101, 114, 118, 101, 114, 32, 69, 114, 114, 111, 114] else
  if n = 501 then [78, 111, 116, 32, 73, 109, 112, 108, 101, 109, 101, 110, 116, 101, 100] else
  if n = 503 then [83, 101, 114, 118, 105, 99, 101, 32, 85, 110, 97, 118, 97, 105, 108, 97, 98, 108, 101] else
  if n = 505 then [72, 84, 84, 80, 32, 86, 101, 114, 115, 105, 111, 110, 32, 78, 111, 116, 32, 83, 117, 112, 112, 111, 114, 116, 101, 100] else
  if n = 507 then [73, 110, 115, 117, 102, 102, 105, 99, 105, 101, 110, 116, 32, 83, 116, 111, 114, 97, 103, 101] else
  [79, 116, 104, 101, 114]
def headSize (l : List UInt8) (L : List (List UInt8 × List UInt8)) : Nat := l.length + 4 + (L.map fun h => h.1.length + h.2.length + 4).sum
theorem sum_next {L : List (List UInt8 × List UInt8)} {f : List UInt8 × List UInt8 → Nat} {i : Nat} (hi : i < L.length) : ((L.take (i + 1)).map f).sum = ((L.take i).map f).sum + f L[i] := by
  rw [List.take_add_one, List.getElem?_eq_getElem hi, List.map_append, List.sum_append]
  simp
theorem sum_bound {L : List (List UInt8 × List UInt8)} {f : List UInt8 × List UInt8 → Nat} {m : Nat} (h : ∀ x ∈ L, f x ≤ m) : (L.map f).sum ≤ L.length * m := by
  induction L with
  | nil => simp
  | cons a l ih =>
    have h1 := h a (by simp)
    have h2 := ih fun x hx => h x (List.mem_cons_of_mem _ hx)
    rw [List.map_cons, List.sum_cons, List.length_cons, Nat.succ_mul]
    omega
end Go.Wb
namespace Go.Proofs
open Go.RowKit Go.Wi Go.Wb
set_option maxRecDepth 20000 in
set_option maxHeartbeats 2000000 in
theorem Tryz.reason_any (n : Int) (w : World) : Calls Tryz.prog 39 #[.int .i64 n] w fun e w' => e = .returned (.string ⟨(reason n).toArray⟩) ∧ w' = w := by
  unfold reason
  by_cases h200 : n = 200
  · subst h200
    go_enter Tryz.func39, Tryz.ntmps39
    go_wp2
    go_ret
    exact ⟨rfl, rfl⟩
  rw [if_neg h200]
  have b200 : (n == 200) = false := by simpa using h200
  clear h200
  by_cases h201 : n = 201
  · subst h201
    go_enter Tryz.func39, Tryz.ntmps39
    go_wp2
    go_ret
    exact ⟨rfl, rfl⟩
  rw [if_neg h201]
  have b201 : (n == 201) = false := by simpa using h201
  clear h201
  by_cases h204 : n = 204
  · subst h204
    go_enter Tryz.func39, Tryz.ntmps39
    go_wp2
    go_ret
    exact ⟨rfl, rfl⟩
  rw [if_neg h204]
  have b204 : (n == 204) = false := by simpa using h204
  clear h204
  by_cases h304 : n = 304
  · subst h304
    go_enter Tryz.func39, Tryz.ntmps39
    go_wp2
    go_ret
    exact ⟨rfl, rfl⟩
  rw [if_neg h304]
  have b304 : (n == 304) = false := by simpa using h304
  clear h304
  by_cases h400 : n = 400
  · subst h400
    go_enter Tryz.func39, Tryz.ntmps39
    go_wp2
    go_ret
    exact ⟨rfl, rfl⟩
  rw [if_neg h400]
  have b400 : (n == 400) = false := by simpa using h400
  clear h400
  by_cases h401 : n = 401
  · subst h401
    go_enter Tryz.func39, Tryz.ntmps39
    go_wp2
    go_ret
    exact ⟨rfl, rfl⟩
  rw [if_neg h401]
  have b401 : (n == 401) = false := by simpa using h401
  clear h401
  by_cases h403 : n = 403
  · subst h403
    go_enter Tryz.func39, Tryz.ntmps39
    go_wp2
    go_ret
    exact ⟨rfl, rfl⟩
  rw [if_neg h403]
  have b403 : (n == 403) = false := by simpa using h403
  clear h403
  by_cases h404 : n = 404
  · subst h404
    go_enter Tryz.func39, Tryz.ntmps39
    go_wp2
    go_ret
    exact ⟨rfl, rfl⟩
  rw [if_neg h404]
  have b404 : (n == 404) = false := by simpa using h404
  clear h404
  by_cases h405 : n = 405
  · subst h405
    go_enter Tryz.func39, Tryz.ntmps39
    go_wp2
    go_ret
    exact ⟨rfl, rfl⟩
  rw [if_neg h405]
  have b405 : (n == 405) = false := by simpa using h405
  clear h405
  by_cases h408 : n = 408
  · subst h408
    go_enter Tryz.func39, Tryz.ntmps39
    go_wp2
    go_ret
    exact ⟨rfl, rfl⟩
  rw [if_neg h408]
  have b408 : (n == 408) = false := by simpa using h408
  clear h408
  by_cases h409 : n = 409
  · subst h409
    go_enter Tryz.func39, Tryz.ntmps39
    go_wp2
    go_ret
    exact ⟨rfl, rfl⟩
  rw [if_neg h409]
  have b409 : (n == 409) = false := by simpa using h409
  clear h409
  by_cases h410 : n = 410
  · subst h410
    go_enter Tryz.func39, Tryz.ntmps39
    go_wp2
    go_ret
    exact ⟨rfl, rfl⟩
  rw [if_neg h410]
  have b410 : (n == 410) = false := by simpa using h410
  clear h410
  by_cases h411 : n = 411
  · subst h411
    go_enter Tryz.func39, Tryz.ntmps39
    go_wp2
    go_ret
    exact ⟨rfl, rfl⟩
  rw [if_neg h411]
  have b411 : (n == 411) = false := by simpa using h411
  clear h411
  by_cases h413 : n = 413
  · subst h413
    go_enter Tryz.func39, Tryz.ntmps39
    go_wp2
    go_ret
    exact ⟨rfl, rfl⟩
  rw [if_neg h413]
  have b413 : (n == 413) = false := by simpa using h413
  clear h413
  by_cases h414 : n = 414
  · subst h414
    go_enter Tryz.func39, Tryz.ntmps39
    go_wp2
    go_ret
    exact ⟨rfl, rfl⟩
  rw [if_neg h414]
  have b414 : (n == 414) = false := by simpa using h414
  clear h414
  by_cases h415 : n = 415
  · subst h415
    go_enter Tryz.func39, Tryz.ntmps39
    go_wp2
    go_ret
    exact ⟨rfl, rfl⟩
  rw [if_neg h415]
  have b415 : (n == 415) = false := by simpa using h415
  clear h415
  by_cases h422 : n = 422
  · subst h422
    go_enter Tryz.func39, Tryz.ntmps39
    go_wp2
    go_ret
    exact ⟨rfl, rfl⟩
  rw [if_neg h422]
  have b422 : (n == 422) = false := by simpa using h422
  clear h422
  by_cases h429 : n = 429
  · subst h429
    go_enter Tryz.func39, Tryz.ntmps39
    go_wp2
    go_ret
    exact ⟨rfl, rfl⟩
  rw [if_neg h429]
  have b429 : (n == 429) = false := by simpa using h429
  clear h429
  by_cases h431 : n = 431
  · subst h431
    go_enter Tryz.func39, Tryz.ntmps39
    go_wp2
    go_ret
    exact ⟨rfl, rfl⟩
  rw [if_neg h431]
  have b431 : (n == 431) = false := by simpa using h431
  clear h431
  by_cases h500 : n = 500
  · subst h500
    go_enter Tryz.func39, Tryz.ntmps39
    go_wp2
    go_ret
    exact ⟨rfl, rfl⟩
  rw [if_neg h500]
  have b500 : (n == 500) = false := by simpa using h500
  clear h500
  by_cases h501 : n = 501
  · subst h501
    go_enter Tryz.func39, Tryz.ntmps39
    go_wp2
    go_ret
    exact ⟨rfl, rfl⟩
  rw [if_neg h501]
  have b501 : (n == 501) = false := by simpa using h501
  clear h501
  by_cases h503 : n = 503
  · subst h503
    go_enter Tryz.func39, Tryz.ntmps39
    go_wp2
    go_ret
    exact ⟨rfl, rfl⟩
  rw [if_neg h503]
  have b503 : (n == 503) = false := by simpa using h503
  clear h503
  by_cases h505 : n = 505
  · subst h505
    go_enter Tryz.func39, Tryz.ntmps39
    go_wp2
    go_ret
    exact ⟨rfl, rfl⟩
  rw [if_neg h505]
  have b505 : (n == 505) = false := by simpa using h505
  clear h505
  by_cases h507 : n = 507
  · subst h507
    go_enter Tryz.func39, Tryz.ntmps39
    go_wp2
    go_ret
    exact ⟨rfl, rfl⟩
  rw [if_neg h507]
  have b507 : (n == 507) = false := by simpa using h507
  clear h507
  go_enter Tryz.func39, Tryz.ntmps39
  go_wp2
  go_ret
  exact ⟨rfl, rfl⟩
end Go.Proofs
namespace Go.Proofs
open Go.RowKit Go.Wi Go.Wb
set_option maxRecDepth 20000 in
set_option maxHeartbeats 1000000 in
theorem Tryz.headSize_any {w : World} {V : Value} {L : List (List UInt8 × List UInt8)} (h : Hs w V L) (l : List UInt8) (hll : l.length ≤ 140737488355328) (hL : L.length ≤ 32) (hl : ∀ x ∈ L, x.1.length ≤ 140737488355328 ∧ x.2.length ≤ 140737488355328) :
    Calls Tryz.prog 55 #[.string ⟨l.toArray⟩, V] w fun e w' => e = .returned (.int .i64 (headSize l L : Nat)) ∧ Below w.heap.size w w' := by
  have hsz := text_size l
  obtain ⟨ad, cap, rfl, hx⟩ := h.ex
  clear h
  have HX : Hid (L = [] ∨ ∃ g o, ad = some ⟨g, o, none⟩ ∧ g < w.heap.size ∧ ∀ j (hj : j < L.length), w.cell? ⟨g, o + j * 2, none⟩ = some (.string ⟨L[j].1.toArray⟩) ∧ w.cell? ⟨g, o + j * 2 + 1, none⟩ = some (.string ⟨L[j].2.toArray⟩)) := hx
  clear hx
  have hsb : ∀ i, ((L.take i).map fun h => h.1.length + h.2.length + 4).sum ≤ 32 * 281474976710660 := fun i => by
    have h1 := sum_bound (L := L.take i) (f := fun h => h.1.length + h.2.length + 4) (m := 281474976710660) fun x hx => by
      have := hl x (List.mem_of_mem_take hx)
      omega
    have h2 : (L.take i).length ≤ 32 := by rw [List.length_take]; omega
    exact Nat.le_trans h1 (Nat.mul_le_mul_right _ h2)
  have HSB : Hid _ := hsb
  clear hsb
  go_enter Tryz.func55, Tryz.ntmps55
  go_wp2
  go_loopw [5, 7, 13] (fun nv _ iv wr => ∃ i : Nat, iv = .int .i64 i ∧ i ≤ L.length ∧ nv = .int .i64 ((l.length + 4 + ((L.take i).map fun h => h.1.length + h.2.length + 4).sum : Nat) : Int) ∧ Below w.heap.size w wr) (fun _ _ iv _ => L.length - (intOf iv).toNat)
  case atStart => exact ⟨0, rfl, Nat.zero_le _, by simp, Below.refl _ _⟩
  case round =>
    obtain ⟨i, rfl, hi, rfl, hbel⟩ := hrel
    have HB : Hid (Below w.heap.size w wr) := hbel
    clear hbel
    by_cases hlt : i < L.length
    · have q : (i : Int) < (L.length : Int) := by omega
      obtain ⟨g, o, rfl, c0, c1⟩ : ∃ g o, ad = some ⟨g, o, none⟩ ∧ wr.cell? ⟨g, o + i * 2, none⟩ = some (.string ⟨L[i].1.toArray⟩) ∧ wr.cell? ⟨g, o + i * 2 + 1, none⟩ = some (.string ⟨L[i].2.toArray⟩) := by
        rcases HX.out with e | ⟨g, o, e, hg, hc⟩
        · rw [e] at hlt; cases hlt
        · exact ⟨g, o, e, (HB.out.cell (p := ⟨g, o + i * 2, none⟩) hg).trans (hc i hlt).1, (HB.out.cell (p := ⟨g, o + i * 2 + 1, none⟩) hg).trans (hc i hlt).2⟩
      obtain ⟨hl1, hl2⟩ := hl L[i] (List.getElem_mem hlt)
      have hs0 := HSB.out i
      have HN := sum_next (f := fun h => h.1.length + h.2.length + 4) hlt
      have HNN : Hid _ := HN
      clear HN
      have hz1 := text_size L[i].1
      have hz2 := text_size L[i].2
      generalize ((L.take i).map fun h => h.1.length + h.2.length + 4).sum = s0 at *
      generalize L[i].1 = n at *
      generalize L[i].2 = v at *
      have HA : Hid (Below w.heap.size w (wr.alloc (.cells #[.string ⟨n.toArray⟩, .string ⟨v.toArray⟩] 57))) := HB.out.alloc HB.out.size _
      go_wp2
      go_roundw
      case rel => exact ⟨i + 1, by simp, by omega, by rw [HNN.out]; congr 1; omega, HA.out⟩
      case measure => simp [intOf]; omega
    · have q : ¬ (i : Int) < (L.length : Int) := by omega
      have HE : Hid (headSize l L = l.length + 4 + ((L.take i).map fun h => h.1.length + h.2.length + 4).sum) := (by show _ = _; rw [List.take_of_length_le (by omega)]; rfl)
      generalize ((L.take i).map fun h => h.1.length + h.2.length + 4).sum = s0 at *
      go_wp2
      go_ret
      exact ⟨by rw [HE.out]; simp, HB.out⟩
set_option maxRecDepth 20000 in
set_option maxHeartbeats 400000 in
theorem Tryz.lastOf_any (b : Bool) (w : World) : Calls Tryz.prog 42 #[.bool b] w fun e w' => ∃ V, e = .returned V ∧ Hs w' V (if b then [(sCo, wClose)] else []) ∧ Below w.heap.size w w' := by
  cases b with
  | false =>
    go_enter Tryz.func42, Tryz.ntmps42
    go_wp2
    go_ret
    exact ⟨_, rfl, ⟨⟨none, 0, rfl, .inl rfl⟩, .inl rfl⟩, Below.refl _ _⟩
  | true =>
    go_enter Tryz.func42, Tryz.ntmps42
    go_wp2
    go_ret
    refine ⟨_, rfl, ⟨⟨_, _, rfl, .inr ⟨_, 0, rfl, ?_, ?_⟩⟩, .inr ⟨_, _, _, rfl⟩⟩, ?_⟩
    · simp
    · intro j hj
      obtain rfl : j = 0 := by simp at hj; omega
      exact ⟨by rw [cell_of_row _ _ _ _ _ _ (heap_alloc_new w _)]; rfl, by rw [cell_of_row _ _ _ _ _ _ (heap_alloc_new w _)]; rfl⟩
    · exact (Below.refl _ w).alloc (Nat.le_refl _) _
set_option maxRecDepth 20000 in
set_option maxHeartbeats 400000 in
theorem Tryz.lengthOf_any {w : World} (V : Value) (n : Nat) (t : List UInt8) (hV : ∃ ad cap, V = .slice ad n cap) (_hn : n ≤ 9223372036854775807) (hi : ∀ W, Below w.heap.size w W → Calls Tryz.prog 38 #[.int .i64 n] W fun e w' => e = .returned (.string ⟨t.toArray⟩) ∧ Below W.heap.size W w') : Calls Tryz.prog 37 #[V] w fun e w' => ∃ V, e = .returned V ∧ Hs w' V [(sCL, t)] ∧ Below w.heap.size w w' := by
  obtain ⟨ad, cap, rfl⟩ := hV
  have k0 := hi w (Below.refl _ _)
  go_enter Tryz.func37, Tryz.ntmps37
  go_wp2_with (first | (go_at_call 38; refine (k0).mono ?_; rintro e w1 ⟨rfl, hb1⟩) | fail)
  go_ret
  refine ⟨_, rfl, ⟨⟨_, _, rfl, .inr ⟨_, 0, rfl, ?_, ?_⟩⟩, .inr ⟨_, _, _, rfl⟩⟩, ?_⟩
  · simp
  · intro j hj
    obtain rfl : j = 0 := by simp at hj; omega
    exact ⟨by rw [cell_of_row _ _ _ _ _ _ (heap_alloc_new w1 _)]; rfl, by rw [cell_of_row _ _ _ _ _ _ (heap_alloc_new w1 _)]; rfl⟩
  · exact hb1.alloc hb1.size _
end Go.Proofs
namespace Go.Wb
open Go.RowKit Go.Proofs
theorem add_at (g k : Nat) : (⟨g, 0, none⟩ : Addr).add k = ⟨g, k, none⟩ := by
  unfold Addr.add
  split
  · rename_i e; subst e; rfl
  · simp
theorem hdCells_one {l : List (List UInt8 × List UInt8)} : ∀ u ∈ hdCells l, u.oneCell' = true := by
  intro u hu
  unfold hdCells at hu
  obtain ⟨h, _, hu⟩ := List.mem_flatMap.1 hu
  simp at hu
  rcases hu with rfl | rfl <;> rfl
theorem hdCells_at {l : List (List UInt8 × List UInt8)} {j : Nat} {u : Value} (h : (hdCells l)[j]? = some u) : ∃ i, ∃ hi : i < l.length, (j = i * 2 ∧ u = .string ⟨l[i].1.toArray⟩) ∨ (j = i * 2 + 1 ∧ u = .string ⟨l[i].2.toArray⟩) := by
  have hj : j < (hdCells l).length := by
    rcases Nat.lt_or_ge j (hdCells l).length with e | e
    · exact e
    · rw [List.getElem?_eq_none e] at h; cases h
  rw [hdCells_len] at hj
  have hi : j / 2 < l.length := by omega
  obtain ⟨e1, e2⟩ := hd_cell hi
  rcases Nat.mod_two_eq_zero_or_one j with e | e
  · have ej : j = j / 2 * 2 := by omega
    rw [← ej, h] at e1
    exact ⟨j / 2, hi, .inl ⟨ej, Option.some.inj e1⟩⟩
  · have ej : j = j / 2 * 2 + 1 := by omega
    rw [← ej, h] at e2
    exact ⟨j / 2, hi, .inr ⟨ej, Option.some.inj e2⟩⟩
theorem Hs.ofRow {w : World} {V : Value} {B n : Nat} {T : TypeId} {L : List (List UInt8 × List UInt8)} (h : w.ownsRow B T 2 V n (hdCells L)) : Hs w V L := by
  have hl := h.1
  rw [hdCells_len] at hl
  obtain rfl : n = L.length := by omega
  rcases h.2 with ⟨rfl, h0⟩ | ⟨g, cap, cur, rfl, hB, hg, h1, h2, h3, h4⟩
  · exact ⟨⟨none, 0, by rw [h0], .inl (List.eq_nil_of_length_eq_zero h0)⟩, .inl rfl⟩
  · refine ⟨⟨some ⟨g, 0, none⟩, cap, rfl, .inr ⟨g, 0, rfl, Go.Wi.block_lt hg, fun j hj => ?_⟩⟩, .inr ⟨_, _, _, rfl⟩⟩
    obtain ⟨e1, e2⟩ := hd_cell hj
    rw [Nat.zero_add]
    refine ⟨?_, ?_⟩
    · rw [cell_of_row _ _ _ _ _ _ hg, ← e1, ← h4, List.getElem?_take, if_pos (by omega)]; simp
    · rw [cell_of_row _ _ _ _ _ _ hg, ← e2, ← h4, List.getElem?_take, if_pos (by omega)]; simp
end Go.Wb
namespace Go.Proofs
open Go.RowKit Go.Wi Go.Wb
set_option maxRecDepth 20000 in
/-- 'append' of headers. -/
theorem Tryz.appHs {ops : Array Oper} {rest : List Oper} {o : Oper} {a : Act} {Q : Exit → Act → World → Prop} (hgd : o.guard = none) (s y : Operand)
    (ho : o.op = .call { callee := .builtin .append, args := #[s, y], argTypes := #[25, 25] })
    {w : World} {B : Nat} {V Y : Value} {n : Nat} {L0 L1 : List (List UInt8 × List UInt8)} (hrow : w.ownsRow B 57 2 V n (hdCells L0)) (hB : B ≤ w.heap.size) (hs : a.eval s = V) (hY : Hs w Y L1) (hy : a.eval y = Y) (hlen : n + L1.length ≤ 4398046511104)
    (hK : ∀ v' w', w'.ownsRow B 57 2 v' (n + L1.length) (hdCells (L0 ++ L1)) → Below B w w' → wpList Tryz.prog ops Q rest (a.put o.dst v') w') : wpList Tryz.prog ops Q (o :: rest) a w := by
  obtain ⟨i0, hi0, hz0, hz1, hz2⟩ := info_parts Tryz.infoPair
  rcases hY.nz with rfl | ⟨ad, m, c, rfl⟩
  · obtain ⟨ad, cap, e, h⟩ := hY.ex
    injection e with e1 e2 e3
    have e0 : L1 = [] := List.eq_nil_of_length_eq_zero e2.symm
    subst e0
    refine wpList_append_own_none hgd s y _ ho B 57 i0 2 Tryz.underlying25 hi0 V n _ hs hrow hy (hK V w ?_ (Below.refl _ _))
    rw [List.append_nil]
    exact hrow
  · obtain ⟨ad', cap, e, h⟩ := hY.ex
    injection e with e1 e2 e3
    subst e1 e2
    refine wpList_append_own _ hgd s y 25 ho B 57 i0 _ 2 32 Tryz.underlying25 hi0 hz0 hz1 hz2 rfl (by omega) V n _ hs hrow ad L1.length c (hdCells L1) hy (hdCells_len L1) ?_ hdCells_one (by unfold maxLen; omega) (by omega) hB ?_
    · intro j u hu
      obtain ⟨i, hi, hj⟩ := hdCells_at hu
      rcases h with rfl | ⟨g, o, eg, hg, hcell⟩
      · cases hi
      · injection eg with eg
        subst eg
        rcases hj with ⟨rfl, rfl⟩ | ⟨rfl, rfl⟩
        · rw [Addr.add_mid]; exact (hcell i hi).1
        · rw [Addr.add_mid, ← Nat.add_assoc]; exact (hcell i hi).2
    · intro v' w' h1 h2 h3
      rw [← hdCells_app] at h1
      exact hK v' w' h1 ((Below.refl B w).grown h2 (by omega) fun k e => (hrow.lt k e).1)
set_option maxRecDepth 20000 in
set_option maxHeartbeats 400000 in
theorem Tryz.growNil (n : Nat) (hn : n ≤ 4398046511104) (w : World) : Calls Tryz.prog 56 #[.slice none 0 0, .int .i64 n] w fun e w' => ∃ V, e = .returned V ∧ w'.ownsRow w.heap.size 57 2 V 0 (hdCells []) ∧ Below w.heap.size w w' := by
  by_cases h0 : n = 0
  · subst h0
    go_enter Tryz.func56, Tryz.ntmps56
    go_wp2
    go_ret
    exact ⟨_, rfl, World.ownsRow_nil _ _ _ _, Below.refl _ _⟩
  · obtain ⟨i0, hi0, hz0, hz1, hz2⟩ := info_parts Tryz.infoPair
    have h1 : ¬ ((n : Int) < 0) := by omega
    have h4 : (n : Int) > 0 := by omega
    have hrz : ∀ ty, ∃ V w', (Builtin.append_ #[25, 3] ty #[.slice none 0 0, .int .i64 (n : Int)]).run Tryz.prog w = .ok V w' ∧ ∃ g cap, V = .slice (some ⟨g, 0, none⟩) n cap ∧ n ≤ cap ∧ cap ≤ 9223372036854775807 ∧ w'.ownsRow w.heap.size 57 2 (.slice (some ⟨g, 0, none⟩) 0 cap) 0 (hdCells []) ∧ Below w.heap.size w w' := fun ty => by
      have hold : (Builtin.firstCells i0.size 0 (.slice none 0 0)).run Tryz.prog w.drew = .ok ([] : List Value).toArray w.drew := run_firstCells_none w.drew i0.size 0 0 0
      have h := Lib.run_append_grow_zeros (P := Tryz.prog) w 25 3 ty 57 i0 _ .i64 .i64 Tryz.underlying25 Tryz.underlying3 hi0 hz0 none 0 0 [] hold n (by omega) (by omega) (by omega) (by omega) (by rw [hz2]; omega) (growslice_fits (by omega) (by rw [hz2]; omega))
      rw [Nat.zero_add] at h
      refine ⟨_, _, h, _, _, rfl, grownCap_ge _ _ _ _, ?_, ?_, ?_⟩
      · have := grownCap_le_maxLen w n 0 57 (by unfold maxLen; omega)
        unfold maxLen at this
        omega
      · refine World.ownsRow_made w.drew _ _ (Nat.le_refl _) (grownCap_le_maxLen w n 0 57 (by unfold maxLen; omega)) ?_
        have hge := grownCap_ge w n 0 57
        rw [Array.size_append, Array.size_append, size_zeroCells, size_zeroCells]
        show 0 + n * 2 + _ * 2 = _
        omega
      · exact ((Below.refl _ w).drew).alloc (Nat.le_refl _) _
    go_enter Tryz.func56, Tryz.ntmps56
    go_wp2_with (at_builtin; obtain ⟨V, w1, hr, g, cap, rfl, hc1, hc2, hrow, hb⟩ := hrz _; refine Lib.wpList_append_run _ rfl _ _ _ _ rfl _ _ rfl rfl _ _ hr ?_)
    all_goals
      go_ret
      exact ⟨_, rfl, hrow, hb⟩
end Go.Proofs
namespace Go.Wb
open Go.RowKit Go.Proofs
abbrev Hp := Value × List (List UInt8 × List UInt8)
def tot (P : List Hp) : Nat := (P.map fun p => p.2.length).sum
def cat (P : List Hp) : List (List UInt8 × List UInt8) := P.flatMap fun p => p.2
theorem tot_next {P : List Hp} {i : Nat} (hi : i < P.length) : tot (P.take (i + 1)) = tot (P.take i) + P[i].2.length := by
  unfold tot
  rw [List.take_add_one, List.getElem?_eq_getElem hi, List.map_append, List.sum_append]
  simp
theorem cat_next {P : List Hp} {i : Nat} (hi : i < P.length) : cat (P.take (i + 1)) = cat (P.take i) ++ P[i].2 := by
  unfold cat
  rw [List.take_add_one, List.getElem?_eq_getElem hi, List.flatMap_append]
  simp
theorem tot_take (P : List Hp) (i : Nat) : tot (P.take i) ≤ tot P := by
  induction P generalizing i with
  | nil => simp
  | cons a l ih =>
    cases i with
    | zero => exact Nat.zero_le _
    | succ i =>
      have f : tot (a :: l) = a.2.length + tot l := rfl
      have g : tot ((a :: l).take (i + 1)) = a.2.length + tot (l.take i) := rfl
      have := ih i
      omega
end Go.Wb
namespace Go.Proofs
open Go.RowKit Go.Wi Go.Wb
set_option maxRecDepth 20000 in
set_option maxHeartbeats 1000000 in
theorem Tryz.concat_any {w : World} {g c : Nat} (hg : g < w.heap.size) (P : List Hp) (hP : P.length ≤ 1000) (hc : ∀ j (hj : j < P.length), w.cell? ⟨g, j, none⟩ = some P[j].1) (hH : ∀ p ∈ P, Hs w p.1 p.2) (ht : tot P ≤ 4398046511104) :
    Calls Tryz.prog 41 #[.slice (some ⟨g, 0, none⟩) P.length c] w fun e w' => ∃ V, e = .returned V ∧ w'.ownsRow w.heap.size 57 2 V (tot P) (hdCells (cat P)) ∧ Below w.heap.size w w' := by
  have HC : Hid _ := hc
  have HH : Hid _ := hH
  clear hc hH
  go_enter Tryz.func41, Tryz.ntmps41
  go_wp2
  go_loopw [3, 5, 11] (fun nv _ iv wr => ∃ i : Nat, iv = .int .i64 i ∧ i ≤ P.length ∧ nv = .int .i64 (tot (P.take i) : Nat) ∧ wr = w) (fun _ _ iv _ => P.length - (intOf iv).toNat)
  case atStart => exact ⟨0, rfl, Nat.zero_le _, rfl, rfl⟩
  case round =>
    obtain ⟨i, rfl, hi, rfl, hw⟩ := hrel
    have hw' := hw.symm
    subst hw'
    by_cases hlt : i < P.length
    · have q : (i : Int) < (P.length : Int) := by omega
      have c0 := HC.out i hlt
      obtain ⟨ad, cap, e0, e1⟩ := (HH.out P[i] (List.getElem_mem hlt)).ex
      rw [e0] at c0
      clear e0 e1
      have HN : Hid (tot (P.take (i + 1)) = tot (P.take i) + P[i].2.length) := tot_next hlt
      have hb : tot (P.take i) + P[i].2.length ≤ 4398046511104 := by rw [← HN.out]; exact Nat.le_trans (tot_take P _) ht
      generalize tot (P.take i) = t0 at *
      generalize P[i].2.length = n at *
      have q1 : ¬ ((t0 : Int) + (n : Int) < 0) := by omega
      go_wp2
      go_roundw
      case rel => exact ⟨i + 1, by simp, by omega, by rw [HN.out]; simp, trivial⟩
      case measure => simp [intOf]; omega
    · have q : ¬ (i : Int) < (P.length : Int) := by omega
      have e : P.take i = P := List.take_of_length_le (by omega)
      rw [e]
      clear e
      have kg := Tryz.growNil (tot P) ht w
      go_wp2_with (first | (go_at_call 56; refine kg.mono ?_; clear kg; rintro e w1 ⟨V0, rfl, hr0, hb0⟩) | fail)
      have H0 : Hid (w1.ownsRow w.heap.size 57 2 V0 0 (hdCells [])) := hr0
      have HB0 : Hid (Below w.heap.size w w1) := hb0
      clear hr0 hb0
      go_loopw [6, 8, 27] (fun V _ iv wr => ∃ i : Nat, iv = .int .i64 i ∧ i ≤ P.length ∧ wr.ownsRow w.heap.size 57 2 V (tot (P.take i)) (hdCells (cat (P.take i))) ∧ Below w.heap.size w wr) (fun _ _ iv _ => P.length - (intOf iv).toNat)
      case atStart => exact ⟨0, rfl, Nat.zero_le _, H0.out, HB0.out⟩
      case round =>
        obtain ⟨i, rfl, hi, hrow, hbel⟩ := hrel
        have HR : Hid _ := hrow
        have HB : Hid (Below w.heap.size w wr) := hbel
        clear hrow hbel
        by_cases hlt : i < P.length
        · have q : (i : Int) < (P.length : Int) := by omega
          have c0 : wr.cell? ⟨g, i, none⟩ = some P[i].1 := (HB.out.cell (p := ⟨g, i, none⟩) hg).trans (HC.out i hlt)
          have hY := (HH.out P[i] (List.getElem_mem hlt)).below HB.out
          have HN : Hid (tot (P.take (i + 1)) = tot (P.take i) + P[i].2.length) := tot_next hlt
          have HM : Hid (cat (P.take (i + 1)) = cat (P.take i) ++ P[i].2) := cat_next hlt
          have hb : tot (P.take i) + P[i].2.length ≤ 4398046511104 := by rw [← HN.out]; exact Nat.le_trans (tot_take P _) ht
          generalize P[i].1 = Y at *
          have HY : Hid (Hs wr Y P[i].2) := hY
          have HL : Hid (tot (P.take i) + P[i].2.length ≤ 4398046511104) := hb
          clear hY hb
          go_wp2_with (first | (at_builtin; refine Tryz.appHs rfl _ _ rfl HR.out HB.out.size rfl HY.out rfl HL.out ?_; intro v1 w2 hr2 hb2) | fail)
          go_roundw
          case rel => exact ⟨i + 1, by simp, by omega, by rw [HN.out, HM.out]; exact hr2, HB.out.trans hb2⟩
          case measure => simp [intOf]; omega
        · have q : ¬ (i : Int) < (P.length : Int) := by omega
          have e : P.take i = P := List.take_of_length_le (by omega)
          have H2 := HR.out
          rw [e] at H2
          clear e HR
          go_wp2
          go_ret
          exact ⟨_, rfl, H2, HB.out⟩
end Go.Proofs
namespace Go.Wb
open Go.RowKit Go.Proofs Go.Wi
/-- A row of bytes of one's own, above a floor. -/
def Og (w : World) (B : Nat) (V : Value) (l : List UInt8) : Prop :=
  ∃ g cap, V = .slice (some ⟨g, 0, none⟩) l.length cap ∧ B ≤ g ∧ g < w.heap.size ∧ l.length ≤ cap ∧ (∀ j u, (Lib.byteCells l)[j]? = some u → w.cell? ⟨g, j, none⟩ = some u) ∧ ∀ j, j < cap → (w.cell? ⟨g, j, none⟩).isSome = true ∧ w.frozen? ⟨g, j, none⟩ = false
theorem Og.lt {w : World} {B : Nat} {V : Value} {l : List UInt8} (h : Og w B V l) : ∀ k, V.ownBlock = some k → B ≤ k ∧ k < w.heap.size := by
  obtain ⟨g, cap, rfl, h1, h2, _⟩ := h
  intro k e; cases e; exact ⟨h1, h2⟩
theorem Og.keep {w w' : World} {B : Nat} {V : Value} {l : List UInt8} (h : Og w B V l) (hk : ∀ k, V.ownBlock = some k → w'.heap[k]? = w.heap[k]?) : Og w' B V l := by
  obtain ⟨g, cap, rfl, h1, h2, h3, h4, h5⟩ := h
  have e := hk g rfl
  have e2 : g < w'.heap.size := by
    rw [Array.getElem?_eq_getElem h2] at e
    exact block_lt e
  exact ⟨g, cap, rfl, h1, e2, h3, fun j u hu => (World.cell?_of_block (a := ⟨g, j, none⟩) e).trans (h4 j u hu), fun j hj => ⟨by rw [World.cell?_of_block (a := ⟨g, j, none⟩) e]; exact (h5 j hj).1, (World.frozen?_of_block (a := ⟨g, j, none⟩) e).trans (h5 j hj).2⟩⟩
theorem Og.below {w w' : World} {B C : Nat} {V : Value} {l : List UInt8} (h : Og w B V l) (g : Below C w w') (hC : w.heap.size ≤ C) : Og w' B V l := h.keep fun k e => g.block k (Nat.lt_of_lt_of_le (h.lt k e).2 hC)
theorem Og.bs {w : World} {B : Nat} {V : Value} {l : List UInt8} (h : Og w B V l) : Bs w V l := by
  obtain ⟨g, cap, rfl, h1, h2, h3, h4, h5⟩ := h
  exact ⟨some ⟨g, 0, none⟩, cap, rfl, h3, (fun e => by cases e), .inr ⟨g, 0, rfl, h2, fun j u hu => by rw [Nat.zero_add]; exact h4 j u hu⟩⟩
theorem Og.made {w : World} {B cap : Nat} {e : TypeId} {l : List UInt8} (hB : B ≤ w.heap.size) (cur : Array Value) (hs : cur.size = cap) (hl : l.length ≤ cap) (hc : ∀ (j : Nat) (u : Value), (Lib.byteCells l)[j]? = some u → cur[j]? = some u) : Og (w.alloc (.cells cur e)) B (.slice (some ⟨w.heap.size, 0, none⟩) l.length cap) l := by
  have hn : (w.alloc (.cells cur e)).heap[w.heap.size]? = some (.cells cur e (0, 0)) := heap_alloc_new w _
  refine ⟨w.heap.size, cap, rfl, hB, by simp, hl, fun j u hu => ?_, fun j hj => ⟨?_, frozen_of_row _ _ _ _ _ hn⟩⟩
  · rw [cell_of_row _ _ _ _ _ _ hn]; exact hc j u hu
  · rw [cell_of_row _ _ _ _ _ _ hn, Array.getElem?_eq_getElem (by omega)]; rfl
theorem Og.start (w : World) (e : TypeId) (t : ByteArray) {B : Nat} (hB : B ≤ w.heap.size) : Og (Lib.bytesWorld w e t) B (.slice (some ⟨w.heap.size, 0, none⟩) t.size (grownCap w t.size 0 e)) t.data.toList := by
  have hn := Lib.bytesWorld_at_new w e t
  have hs : (Lib.bytesCells w e t).size = grownCap w t.size 0 e := by
    have := grownCap_ge w t.size 0 e
    simp only [Lib.bytesCells, Array.size_append, Array.size_map, Array.size_replicate]
    show t.size + _ = _
    omega
  refine ⟨w.heap.size, _, rfl, hB, by rw [Lib.bytesWorld_size]; omega, grownCap_ge w t.size 0 e, fun j u hu => ?_, fun j hj => ⟨?_, ?_⟩⟩
  · have hj : j < t.size := by
      have := (List.getElem?_eq_some_iff.1 hu).1
      rw [byteCells_len] at this
      exact this
    have hj2 : j < t.data.toList.length := hj
    rw [Lib.bytesWorld_cell w e t j hj, ← hu]
    simp [Lib.byteCells, List.getElem?_eq_getElem hj2]
  · rw [cell_of_row _ _ _ _ _ _ hn, Array.getElem?_eq_getElem (by omega)]; rfl
  · simp [World.frozen?, hn]
    omega
theorem setCells_wo (g : Nat) : ∀ (vs : List Value) (o : Nat) (w : World), Wo (fun k => k = g) w (w.setCells g o vs)
  | [], _, w => Wo.refl _ w
  | v :: r, o, w => ((Wo.refl (fun k => k = g) w).setCell g o v (.inl rfl)).trans (setCells_wo g r (o + 1) _)
theorem Og.put {w : World} {B g cap : Nat} {l : List UInt8} (xs : List UInt8) (h1 : B ≤ g) (h2 : g < w.heap.size) (hr : l.length + xs.length ≤ cap) (h4 : ∀ j u, (Lib.byteCells l)[j]? = some u → w.cell? ⟨g, j, none⟩ = some u) (h5 : ∀ j, j < cap → (w.cell? ⟨g, j, none⟩).isSome = true ∧ w.frozen? ⟨g, j, none⟩ = false) :
    Og (w.setCells g l.length (Lib.byteCells xs)) B (.slice (some ⟨g, 0, none⟩) (l ++ xs).length cap) (l ++ xs) := by
  have hwo := setCells_wo g (Lib.byteCells xs) l.length w
  have hbl : (Lib.byteCells xs).length = xs.length := byteCells_len xs
  refine ⟨g, cap, rfl, h1, Nat.lt_of_lt_of_le h2 hwo.size, by rw [List.length_append]; exact hr, fun j u hu => ?_, fun j hj => ⟨World.isSome_setCells g _ _ w _ (h5 j hj).1, by rw [World.frozen?_setCells]; exact (h5 j hj).2⟩⟩
  rw [byteCells_app] at hu
  have hb1 := byteCells_len l
  by_cases hj : j < l.length
  · rw [World.cell?_setCells_out g _ _ w _ fun _ _ => .inl hj]
    rw [List.getElem?_append_left (by omega)] at hu
    exact h4 j u hu
  · rw [List.getElem?_append_right (by omega), byteCells_len] at hu
    obtain ⟨hj2, e⟩ := List.getElem?_eq_some_iff.1 hu
    have := World.cell?_setCells_in g (Lib.byteCells xs) l.length w (fun i hi => (h5 _ (by omega)).1) (j - l.length) hj2
    rw [show l.length + (j - l.length) = j by omega, e] at this
    exact this
theorem byte_str (t : List UInt8) : Lib.strCells ⟨t.toArray⟩ = Lib.byteCells t := by simp [Lib.strCells, Lib.byteCells]
end Go.Wb
namespace Go.Proofs
open Go.RowKit Go.Wi Go.Wb
set_option maxRecDepth 20000 in
/-- 'append' of a text. -/
theorem Tryz.app_text (ty : TypeId) {w : World} {B : Nat} {V : Value} {l : List UInt8} (h : Og w B V l) (hB : B ≤ w.heap.size) (t : List UInt8) (hlen : l.length + t.length ≤ 140737488355328) :
    ∃ V' w1, (Builtin.append_ #[23, 9] ty #[V, .string ⟨t.toArray⟩]).run Tryz.prog w = .ok V' w1 ∧ Og w1 B V' (l ++ t) ∧ Below B w w1 := by
  obtain ⟨i0, hi0, hz0, hz1, hz2⟩ := info_parts Tryz.info_u8
  have hsz := text_size t
  have hla : (l ++ t).length = l.length + t.length := List.length_append
  obtain ⟨g, cap, rfl, h1, h2, h3, h4, h5⟩ := h
  by_cases hr : l.length + t.length ≤ cap
  · have hbl : (Lib.strCells ⟨t.toArray⟩).length = t.length := by rw [Lib.strCells_length, hsz]
    have hst := run_storeCells_cells (P := Tryz.prog) g l.length (Lib.strCells ⟨t.toArray⟩) 0 w (fun j hj => (h5 _ (by omega)).1) (fun j hj => (h5 _ (by omega)).2) (Lib.strCells_oneCell _)
    have hf := Lib.run_firstCells_string (P := Tryz.prog) w 1 ⟨t.toArray⟩
    rw [hsz] at hf
    simp only [Nat.add_zero] at hst
    have hrun : (Builtin.append_ #[23, 9] ty #[.slice (some ⟨g, 0, none⟩) l.length cap, .string ⟨t.toArray⟩]).run Tryz.prog w = .ok (.slice (some ⟨g, 0, none⟩) (l.length + t.length) cap) (w.setCells g l.length (Lib.strCells ⟨t.toArray⟩)) := by
      simp [Builtin.append_, run_underlying Tryz.underlying23, run_underlying Tryz.underlying9, sizeOf, typeInfo, hi0, hz1, Builtin.lenOf, hsz, hr, hf, Addr.add_lit, hst]
    refine ⟨_, _, hrun, ?_, ?_⟩
    · rw [byte_str, ← hla]
      exact Og.put t h1 h2 hr h4 h5
    · have hwo := setCells_wo g (Lib.strCells ⟨t.toArray⟩) l.length w
      exact Wo.toBelow (Below.refl B w) hwo (fun k e => by rw [e]; exact h1) hB
  · have hg := Lib.run_append_grow_string (P := Tryz.prog) w 23 9 ty 5 i0 _ Tryz.underlying23 Tryz.underlying9 hi0 hz0 ⟨g, 0, none⟩ l.length cap (Lib.byteCells l) (by rw [byteCells_len, hz1, Nat.mul_one]) (fun j u hu => by rw [add_at]; exact h4 j u hu) ⟨t.toArray⟩ (by rw [hsz]; omega) (by rw [hsz]; omega) (growslice_fits (by rw [hsz]; omega) (by rw [hsz, hz2]; omega))
    refine ⟨_, _, hg, ?_, ((Below.refl _ w).drew).alloc hB _⟩
    rw [hsz, byte_str, ← hla]
    have hge := grownCap_ge w (l ++ t).length cap 5
    refine Og.made (w := w.drew) hB _ ?_ hge ?_
    · rw [Array.size_append, Array.size_append, size_zeroCells]
      show (Lib.byteCells l).length + (Lib.byteCells t).length + _ * 1 = _
      rw [byteCells_len, byteCells_len]
      omega
    · intro j u hu
      have hj := (List.getElem?_eq_some_iff.1 hu).1
      rw [byteCells_app] at hu hj
      rw [Array.getElem?_append_left (by simpa using hj), ← hu]
      simp
set_option maxRecDepth 20000 in
/-- 'append' of bytes. -/
theorem Tryz.app_bytes (ty : TypeId) {w : World} {B : Nat} {V Y : Value} {l t : List UInt8} (h : Og w B V l) (hB : B ≤ w.heap.size) (hY : Bs w Y t) (hlen : l.length + t.length ≤ 140737488355328) :
    ∃ V' w1, (Builtin.append_ #[23, 23] ty #[V, Y]).run Tryz.prog w = .ok V' w1 ∧ Og w1 B V' (l ++ t) ∧ Below B w w1 := by
  obtain ⟨i0, hi0, hz0, hz1, hz2⟩ := info_parts Tryz.info_u8
  have hla : (l ++ t).length = l.length + t.length := List.length_append
  obtain ⟨ad, c, rfl, hc, hn, hx⟩ := hY.ex
  clear hY
  obtain ⟨g, cap, rfl, h1, h2, h3, h4, h5⟩ := h
  cases ad with
  | none =>
    have hc0 := hn rfl
    have ht : t = [] := List.eq_nil_of_length_eq_zero (by omega)
    subst ht hc0
    refine ⟨.slice (some ⟨g, 0, none⟩) l.length cap, w, ?_, ?_, Below.refl _ _⟩
    · simp [Builtin.append_, run_underlying Tryz.underlying23, sizeOf, typeInfo, hi0, Builtin.lenOf, Builtin.firstCells, h3, storeCells]
    · rw [List.append_nil]
      exact ⟨g, cap, rfl, h1, h2, h3, h4, h5⟩
  | some a =>
    have hnews : ∀ (j : Nat) u, (Lib.byteCells t)[j]? = some u → w.cell? (a.add j) = some u := by
      intro j u hu
      rcases hx with rfl | ⟨g2, o2, e, hg2, hcell⟩
      · simp [Lib.byteCells] at hu
      · injection e with e
        subst e
        rw [Addr.add_mid]
        exact hcell j u hu
    have hone : ∀ u ∈ Lib.byteCells t, u.oneCell' = true := fun u hu => by
      simp only [Lib.byteCells, List.mem_map] at hu
      obtain ⟨b, _, rfl⟩ := hu
      rfl
    have hbl := byteCells_len t
    by_cases hr : l.length + t.length ≤ cap
    · have hsp : ∀ j, j < (Lib.byteCells t).length → (w.cell? ⟨g, 0 + l.length * i0.size + j, none⟩).isSome = true ∧ w.frozen? ⟨g, 0 + l.length * i0.size + j, none⟩ = false := fun j hj => by
        rw [hz1]
        exact h5 _ (by omega)
      have hrun := run_append_room_cells (P := Tryz.prog) w 23 ty 5 i0 Tryz.underlying23 hi0 g 0 l.length cap a t.length c (Lib.byteCells t) (by rw [hz1, byteCells_len]; omega) hnews hone hr (fun j hj => (hsp j hj).1) (fun j hj => (hsp j hj).2)
      rw [hz1, Nat.zero_add, Nat.mul_one] at hrun
      refine ⟨_, _, hrun, ?_, Wo.toBelow (Below.refl B w) (setCells_wo g (Lib.byteCells t) l.length w) (fun k e => by rw [e]; exact h1) hB⟩
      rw [← hla]
      exact Og.put t h1 h2 hr h4 h5
    · obtain ⟨v', w', hrun, r1, r2⟩ := run_append_arg_grows (P := Tryz.prog) w 23 ty 5 i0 _ 1 1 Tryz.underlying23 hi0 hz0 hz1 hz2 rfl (by omega) ⟨g, 0, none⟩ l.length cap (Lib.byteCells l) (by rw [byteCells_len]; omega) (fun j u hj => by rw [Addr.add_mid, Nat.zero_add]; exact h4 j u hj) a t.length c (Lib.byteCells t) (by rw [byteCells_len]; omega) hnews (by omega) (by unfold maxLen; omega) (by omega)
      refine ⟨v', w', hrun, ?_, Wo.toBelow (own := fun _ => False) (Below.refl B w) ((Wo.refl _ w).grown r2 fun k e => by cases e) (fun k e => by cases e) hB⟩
      rw [← byteCells_app] at r1
      have hl2 := r1.1
      rcases r1.2 with ⟨_, e0⟩ | ⟨g3, cap3, cur, rfl, hB3, hg3, h6, h7, h8, h9⟩
      · omega
      · rw [← hla] at *
        refine ⟨g3, cap3, rfl, Nat.le_trans hB hB3, block_lt hg3, h6, fun j u hu => ?_, fun j hj => ⟨?_, frozen_of_row _ _ _ _ _ hg3⟩⟩
        · rw [cell_of_row _ _ _ _ _ _ hg3]
          rw [← h9, List.getElem?_take] at hu
          split at hu
          · rw [← Array.getElem?_toList]; exact hu
          · cases hu
        · rw [cell_of_row _ _ _ _ _ _ hg3, Array.getElem?_eq_getElem (by omega)]; rfl
theorem Tryz.wl_text {ops : Array Oper} {rest : List Oper} {o : Oper} {a : Act} {Q : Exit → Act → World → Prop} (hgd : o.guard = none) (s y : Operand) (ho : o.op = .call { callee := .builtin .append, args := #[s, y], argTypes := #[23, 9] })
    {w : World} {B : Nat} {V : Value} {l : List UInt8} (h : Og w B V l) (hB : B ≤ w.heap.size) (hs : a.eval s = V) (t : List UInt8) (hy : a.eval y = .string ⟨t.toArray⟩) (hlen : l.length + t.length ≤ 140737488355328)
    (hK : ∀ V' w1, Og w1 B V' (l ++ t) → Below B w w1 → wpList Tryz.prog ops Q rest (a.put o.dst V') w1) : wpList Tryz.prog ops Q (o :: rest) a w := by
  obtain ⟨V', w1, hr, h1, h2⟩ := Tryz.app_text o.type h hB t hlen
  exact Lib.wpList_append_run w hgd s y _ _ ho _ _ hs hy _ _ hr (hK V' w1 h1 h2)
theorem Tryz.wl_bytes {ops : Array Oper} {rest : List Oper} {o : Oper} {a : Act} {Q : Exit → Act → World → Prop} (hgd : o.guard = none) (s y : Operand) (ho : o.op = .call { callee := .builtin .append, args := #[s, y], argTypes := #[23, 23] })
    {w : World} {B : Nat} {V Y : Value} {l t : List UInt8} (h : Og w B V l) (hB : B ≤ w.heap.size) (hs : a.eval s = V) (hY : Bs w Y t) (hy : a.eval y = Y) (hlen : l.length + t.length ≤ 140737488355328)
    (hK : ∀ V' w1, Og w1 B V' (l ++ t) → Below B w w1 → wpList Tryz.prog ops Q rest (a.put o.dst V') w1) : wpList Tryz.prog ops Q (o :: rest) a w := by
  obtain ⟨V', w1, hr, h1, h2⟩ := Tryz.app_bytes o.type h hB hY hlen
  exact Lib.wpList_append_run w hgd s y _ _ ho _ _ hs hy _ _ hr (hK V' w1 h1 h2)
end Go.Proofs
