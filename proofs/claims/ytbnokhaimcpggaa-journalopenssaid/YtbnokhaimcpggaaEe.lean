/-
  recordAt.
-/
import Derived.Test.YtbnokhaimcpggaaEd
namespace Go.Proofs
open Go.RowKit Go.Dk
theorem Dk.belowN (w : World) (n : Nat) : Below w.heap.size w (w.drewN n) :=
  have h := Below.refl w.heap.size w
  ⟨h.os, h.tape, h.output, h.size, h.block⟩
/-- A row of bytes at the beginning of a block. -/
structure Dk.Row (w : World) (g : Nat) (row : List UInt8) : Prop where
  lt : g < w.heap.size
  cells : ∀ (j : Nat) (u : Value), (Lib.byteCells row)[j]? = some u → w.cell? ⟨g, j, none⟩ = some u
theorem Dk.Row.below {w w' : World} {g : Nat} {row : List UInt8} (h : Dk.Row w g row) (hb : Below w.heap.size w w') : Dk.Row w' g row :=
  ⟨Nat.lt_of_lt_of_le h.lt hb.size, fun j u hj => Dk.cellB hb h.lt (h.cells j u hj)⟩
theorem Dk.Row.sub {w : World} {g : Nat} {row : List UInt8} (h : Dk.Row w g row) (a m cap : Nat) (ha : a + m ≤ row.length) : Dk.Src w (.slice (some ⟨g, a, none⟩) m cap) ((row.drop a).take m) := by
  have hl : ((row.drop a).take m).length = m := by rw [List.length_take, List.length_drop]; omega
  refine ⟨some ⟨g, a, none⟩, cap, by rw [hl], .inr ⟨g, a, rfl, h.lt, fun j u hj => h.cells (a + j) u ?_⟩⟩
  simp only [Lib.byteCells, List.map_take, List.map_drop, List.getElem?_take, List.getElem?_drop] at hj ⊢
  split at hj
  · exact hj
  · cases hj
def Dk.recV (g p : Nat) : Option (List UInt8) → Value
  | none => .tuple #[.slice none 0 0, .bool false]
  | some d => .tuple #[.slice (some ⟨g, p + 7, none⟩) d.length d.length, .bool true]
set_option maxRecDepth 5000 in
set_option maxHeartbeats 2000000 in
theorem Try.recordAt_any {w : World} {g : Nat} {row : List UInt8} (h : Dk.Row w g row) (hr : row.length < 1000000) (p : Nat) (hp : p ≤ row.length) :
    Calls Try.prog 79 #[.slice (some ⟨g, 0, none⟩) row.length row.length, .int .i64 p] w fun e w' => e = .returned (Dk.recV g p (recAt row p)) ∧ Below w.heap.size w w' := by
  have hb0 := Below.refl w.heap.size w
  by_cases hA : row.length ≤ p + 7
  · have e : recAt row p = none := by unfold recAt; rw [if_pos (.inl hA)]
    rw [e]
    have q0 : ((row.length : Nat) : Int) ≤ (p : Int) + 7 := by omega
    clear h e
    go_enter Try.func79, Try.ntmps79
    go_wp2
    go_ret2
    exact ⟨rfl, hb0⟩
  · have q0 : ¬ ((row.length : Nat) : Int) ≤ (p : Int) + 7 := by omega
    have cf : w.cell? ⟨g, p, none⟩ = some (.int .u8 (row[p].toNat : Nat)) := h.cells p _ (Dk.byteCell (by omega))
    by_cases hF : row[p] = 1
    · rw [hF] at cf
      have cf1 : w.cell? ⟨g, p, none⟩ = some (.int .u8 1) := cf
      have hs2 := h.sub (p + 1) 2 (row.length - (p + 1)) (by omega)
      have hn2 := Try.number_any hs2 (by rw [List.length_take]; omega)
      obtain ⟨N, hN⟩ : ∃ N, N = num ((row.drop (p + 1)).take 2) := ⟨_, rfl⟩
      rw [← hN] at hn2
      have hNl : N < 65536 := by
        have := num_lt ((row.drop (p + 1)).take 2)
        rw [← hN, List.length_take, List.length_drop, Nat.min_eq_left (by omega)] at this
        exact this
      by_cases hB : N = 0 ∨ 6000 < N ∨ row.length < p + 7 + N
      · have e : recAt row p = none := by
          unfold recAt
          rw [if_neg (by simp [hF, List.getElem?_eq_getElem (show p < row.length by omega)]; omega), ← hN, if_pos hB]
        rw [e]
        clear h e hs2 hN cf
        rcases hB with rfl | hB | hB
        · go_enter Try.func79, Try.ntmps79
          go_wp2_with (go_at_call 91; refine hn2.mono ?_; clear hn2; rintro e w2 ⟨rfl, rfl⟩)
          go_ret2
          exact ⟨rfl, hb0⟩
        · have q1 : (6000 : Int) < (p : Int) + 7 + N - ((p : Int) + 7) := by omega
          have q2 : ¬ (p : Int) + 7 + N = (p : Int) + 7 := by omega
          go_enter Try.func79, Try.ntmps79
          go_wp2_with (go_at_call 91; refine hn2.mono ?_; clear hn2; rintro e w2 ⟨rfl, rfl⟩)
          go_ret2
          exact ⟨rfl, hb0⟩
        · by_cases hB1 : N = 0
          · subst hB1
            omega
          · by_cases hB2 : 6000 < N
            case' pos => have q1 : (6000 : Int) < (p : Int) + 7 + N - ((p : Int) + 7) := by omega
            case' neg => have q1 : ¬ (6000 : Int) < (p : Int) + 7 + N - ((p : Int) + 7) := by omega
            all_goals
              have q2 : ¬ (p : Int) + 7 + N = (p : Int) + 7 := by omega
              have q3 : ((row.length : Nat) : Int) < (p : Int) + 7 + N := by omega
              go_enter Try.func79, Try.ntmps79
              go_wp2_with (go_at_call 91; refine hn2.mono ?_; clear hn2; rintro e w2 ⟨rfl, rfl⟩)
              go_ret2
              exact ⟨rfl, hb0⟩
      · simp only [not_or, Nat.not_lt] at hB
        obtain ⟨hB1, hB2, hB3⟩ := hB
        have hsd := fun (W : World) (hW : Below w.heap.size w W) => Try.sum_any ((h.below hW).sub (p + 7) N N (by omega)) (by rw [List.length_take, List.length_drop]; omega)
        have hs4 := fun (W : World) (hW : Below w.heap.size w W) => Try.number_any ((h.below hW).sub (p + 3) 4 (row.length - (p + 3)) (by omega)) (by rw [List.length_take]; omega)
        have hdl : ((row.drop (p + 7)).take N).length = N := by rw [List.length_take, List.length_drop]; omega
        have hrec : recAt row p = if fnv ((row.drop (p + 7)).take N) ≠ num ((row.drop (p + 3)).take 4) then none else some ((row.drop (p + 7)).take N) := by
          unfold recAt
          rw [if_neg (by simp [hF, List.getElem?_eq_getElem (show p < row.length by omega)]; omega), ← hN, if_neg (by omega)]
        rw [hrec]
        obtain ⟨F, hFF⟩ : ∃ F, F = fnv ((row.drop (p + 7)).take N) := ⟨_, rfl⟩
        obtain ⟨M, hM⟩ : ∃ M, M = num ((row.drop (p + 3)).take 4) := ⟨_, rfl⟩
        rw [← hFF] at hsd ⊢
        rw [← hM] at hs4 ⊢
        have q1 : ¬ (6000 : Int) < (p : Int) + 7 + N - ((p : Int) + 7) := by omega
        have q2 : ¬ (p : Int) + 7 + N = (p : Int) + 7 := by omega
        have q3 : ¬ ((row.length : Nat) : Int) < (p : Int) + 7 + N := by omega
        have q4 : ((p : Int) + 7 + N == (p : Int) + 7) = false := by simp; omega
        have q5 : decide ((6000 : Int) < (p : Int) + 7 + N - ((p : Int) + 7)) = false := by simp; omega
        have q6 : decide (((row.length : Nat) : Int) < (p : Int) + 7 + N) = false := by simp; omega
        have HD : Hid (((row.drop (p + 7)).take N).length = N) := hdl
        clear h hs2 hN cf hFF hM hrec hdl q1 q2 q3
        by_cases hFM : F = M
        case' pos =>
          rw [if_neg (by simpa using hFM)]
          have qF : ((F : Int) == (M : Int)) = true := by simp; omega
        case' neg =>
          rw [if_pos hFM]
          have qF : ((F : Int) == (M : Int)) = false := by simp; omega
        all_goals
          go_enter Try.func79, Try.ntmps79
          go_wp2_with (go_at_call 91; refine hn2.mono ?_; clear hn2; rintro e w2 ⟨rfl, rfl⟩)
          all_goals try (exfalso; omega)
          go_wp2
          go_quiet ((first
            | (go_at_call 74; exact Calls.quiet_of_same (hsd _ (Dk.belowN w2 _)))
            | (go_at_call 91; exact Calls.quiet_of_same (hs4 _ (Dk.belowN w2 _)))))
        all_goals
          clear hsd hs4
          go_wp2
        all_goals
          go_ret2
          refine ⟨?_, Dk.belowN w2 nq⟩
          first
          | exact rfl
          | (simp only [Dk.recV]; rw [HD.out, Nat.add_sub_cancel_left]; rfl)
    · have cf1 : ¬ ((row[p].toNat : Nat) : Int) = 1 := fun e => hF (UInt8.toNat_inj.1 (by have : (1 : UInt8).toNat = 1 := rfl; omega))
      have e : recAt row p = none := by
        unfold recAt
        rw [if_pos (.inr (by rw [List.getElem?_eq_getElem (by omega)]; simpa using hF))]
      rw [e]
      generalize row[p].toNat = c at *
      clear h e hF
      go_enter Try.func79, Try.ntmps79
      go_wp2
      go_ret2
      exact ⟨rfl, hb0⟩
end Go.Proofs
