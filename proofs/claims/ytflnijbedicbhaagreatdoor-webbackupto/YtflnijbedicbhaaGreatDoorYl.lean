/-
  lastOf, lengthOf, headSize.
-/
import Derived.Test.YtflnijbedicbhaaGreatDoorYk
namespace Go.Proofs
open Go.RowKit Go.Wi Go.Wb
set_option maxRecDepth 20000 in
set_option maxHeartbeats 1000000 in
theorem Tryz.headSize_any {w : World} {V : Value} {L : List (List UInt8 × List UInt8)} (h : Hs w V L) (l : List UInt8) (hll : l.length ≤ 140737488355328) (hL : L.length ≤ 32) (hl : ∀ x ∈ L, x.1.length ≤ 140737488355328 ∧ x.2.length ≤ 140737488355328) :
    Calls Tryz.prog 47 #[.string ⟨l.toArray⟩, V] w fun e w' => e = .returned (.int .i64 (headSize l L : Nat)) ∧ Below w.heap.size w w' := by
  have hsz := text_size l
  obtain ⟨ad, cap, rfl, hx⟩ := h.ex
  clear h
  have HX : Hid (L = [] ∨ ∃ g o, ad = some ⟨g, o, none⟩ ∧ g < w.heap.size ∧ ∀ j (hj : j < L.length), w.cell? ⟨g, o + j * 2, none⟩ = some (.string ⟨L[j].1.toArray⟩) ∧ w.cell? ⟨g, o + j * 2 + 1, none⟩ = some (.string ⟨L[j].2.toArray⟩)) := hx
  clear hx
  have hsb : ∀ i, ((L.take i).map fun h => h.1.length + h.2.length + 4).sum ≤ 32 * 281474976710660 := fun i => by
    have h1 := sum_bound (L := L.take i) (f := fun h => h.1.length + h.2.length + 4) (m := 281474976710660) fun x hx => by
      have := hl x (List.mem_of_mem_take hx)
      omega
    have h2 : (L.take i).length ≤ 32 := by rw [List.length_take]; omega
    exact Nat.le_trans h1 (Nat.mul_le_mul_right _ h2)
  have HSB : Hid _ := hsb
  clear hsb
  go_enter Tryz.func47, Tryz.ntmps47
  go_wp2
  go_loopw [5, 7, 13] (fun nv _ iv wr => ∃ i : Nat, iv = .int .i64 i ∧ i ≤ L.length ∧ nv = .int .i64 ((l.length + 4 + ((L.take i).map fun h => h.1.length + h.2.length + 4).sum : Nat) : Int) ∧ Below w.heap.size w wr) (fun _ _ iv _ => L.length - (intOf iv).toNat)
  case atStart => exact ⟨0, rfl, Nat.zero_le _, by simp, Below.refl _ _⟩
  case round =>
    obtain ⟨i, rfl, hi, rfl, hbel⟩ := hrel
    have HB : Hid (Below w.heap.size w wr) := hbel
    clear hbel
    by_cases hlt : i < L.length
    · have q : (i : Int) < (L.length : Int) := by omega
      obtain ⟨g, o, rfl, c0, c1⟩ : ∃ g o, ad = some ⟨g, o, none⟩ ∧ wr.cell? ⟨g, o + i * 2, none⟩ = some (.string ⟨L[i].1.toArray⟩) ∧ wr.cell? ⟨g, o + i * 2 + 1, none⟩ = some (.string ⟨L[i].2.toArray⟩) := by
        rcases HX.out with e | ⟨g, o, e, hg, hc⟩
        · rw [e] at hlt; cases hlt
        · exact ⟨g, o, e, (HB.out.cell (p := ⟨g, o + i * 2, none⟩) hg).trans (hc i hlt).1, (HB.out.cell (p := ⟨g, o + i * 2 + 1, none⟩) hg).trans (hc i hlt).2⟩
      obtain ⟨hl1, hl2⟩ := hl L[i] (List.getElem_mem hlt)
      have hs0 := HSB.out i
      have HN := sum_next (f := fun h => h.1.length + h.2.length + 4) hlt
      have HNN : Hid _ := HN
      clear HN
      have hz1 := text_size L[i].1
      have hz2 := text_size L[i].2
      generalize ((L.take i).map fun h => h.1.length + h.2.length + 4).sum = s0 at *
      generalize L[i].1 = n at *
      generalize L[i].2 = v at *
      have HA : Hid (Below w.heap.size w (wr.alloc (.cells #[.string ⟨n.toArray⟩, .string ⟨v.toArray⟩] 61))) := HB.out.alloc HB.out.size _
      go_wp2
      go_roundw
      case rel => exact ⟨i + 1, by simp, by omega, by rw [HNN.out]; congr 1; omega, HA.out⟩
      case measure => simp [intOf]; omega
    · have q : ¬ (i : Int) < (L.length : Int) := by omega
      have HE : Hid (headSize l L = l.length + 4 + ((L.take i).map fun h => h.1.length + h.2.length + 4).sum) := (by show _ = _; rw [List.take_of_length_le (by omega)]; rfl)
      generalize ((L.take i).map fun h => h.1.length + h.2.length + 4).sum = s0 at *
      go_wp2
      go_ret
      exact ⟨by rw [HE.out]; simp, HB.out⟩
set_option maxRecDepth 20000 in
set_option maxHeartbeats 400000 in
theorem Tryz.lastOf_any (b : Bool) (w : World) : Calls Tryz.prog 30 #[.bool b] w fun e w' => ∃ V, e = .returned V ∧ Hs w' V (if b then [(sCo, wClose)] else []) ∧ Below w.heap.size w w' := by
  cases b with
  | false =>
    go_enter Tryz.func30, Tryz.ntmps30
    go_wp2
    go_ret
    exact ⟨_, rfl, ⟨⟨none, 0, rfl, .inl rfl⟩, .inl rfl⟩, Below.refl _ _⟩
  | true =>
    go_enter Tryz.func30, Tryz.ntmps30
    go_wp2
    go_ret
    refine ⟨_, rfl, ⟨⟨_, _, rfl, .inr ⟨_, 0, rfl, ?_, ?_⟩⟩, .inr ⟨_, _, _, rfl⟩⟩, ?_⟩
    · simp
    · intro j hj
      obtain rfl : j = 0 := by simp at hj; omega
      exact ⟨by rw [cell_of_row _ _ _ _ _ _ (heap_alloc_new w _)]; rfl, by rw [cell_of_row _ _ _ _ _ _ (heap_alloc_new w _)]; rfl⟩
    · exact (Below.refl _ w).alloc (Nat.le_refl _) _
set_option maxRecDepth 20000 in
set_option maxHeartbeats 400000 in
theorem Tryz.lengthOf_any {w : World} (V : Value) (n : Nat) (t : List UInt8) (hV : ∃ ad cap, V = .slice ad n cap) (_hn : n ≤ 9223372036854775807) (hi : ∀ W, Below w.heap.size w W → Calls Tryz.prog 26 #[.int .i64 n] W fun e w' => e = .returned (.string ⟨t.toArray⟩) ∧ Below W.heap.size W w') : Calls Tryz.prog 25 #[V] w fun e w' => ∃ V, e = .returned V ∧ Hs w' V [(sCL, t)] ∧ Below w.heap.size w w' := by
  obtain ⟨ad, cap, rfl⟩ := hV
  have k0 := hi w (Below.refl _ _)
  go_enter Tryz.func25, Tryz.ntmps25
  go_wp2_with (first | (go_at_call 26; refine (k0).mono ?_; rintro e w1 ⟨rfl, hb1⟩) | fail)
  go_ret
  refine ⟨_, rfl, ⟨⟨_, _, rfl, .inr ⟨_, 0, rfl, ?_, ?_⟩⟩, .inr ⟨_, _, _, rfl⟩⟩, ?_⟩
  · simp
  · intro j hj
    obtain rfl : j = 0 := by simp at hj; omega
    exact ⟨by rw [cell_of_row _ _ _ _ _ _ (heap_alloc_new w1 _)]; rfl, by rw [cell_of_row _ _ _ _ _ _ (heap_alloc_new w1 _)]; rfl⟩
  · exact hb1.alloc hb1.size _
end Go.Proofs
