/-
  slices.Concat.
-/
import Derived.Test.YtflnijbedicbhaaGreatDoorYm
namespace Go.Wb
open Go.RowKit Go.Proofs
abbrev Hp := Value × List (List UInt8 × List UInt8)
def tot (P : List Hp) : Nat := (P.map fun p => p.2.length).sum
def cat (P : List Hp) : List (List UInt8 × List UInt8) := P.flatMap fun p => p.2
theorem tot_next {P : List Hp} {i : Nat} (hi : i < P.length) : tot (P.take (i + 1)) = tot (P.take i) + P[i].2.length := by
  unfold tot
  rw [List.take_add_one, List.getElem?_eq_getElem hi, List.map_append, List.sum_append]
  simp
theorem cat_next {P : List Hp} {i : Nat} (hi : i < P.length) : cat (P.take (i + 1)) = cat (P.take i) ++ P[i].2 := by
  unfold cat
  rw [List.take_add_one, List.getElem?_eq_getElem hi, List.flatMap_append]
  simp
theorem cat_len (P : List Hp) : (cat P).length = tot P := by
  induction P with
  | nil => rfl
  | cons a l ih =>
    have e : cat (a :: l) = a.2 ++ cat l := rfl
    have f : tot (a :: l) = a.2.length + tot l := rfl
    rw [e, f, List.length_append, ih]
theorem tot_take (P : List Hp) (i : Nat) : tot (P.take i) ≤ tot P := by
  induction P generalizing i with
  | nil => simp
  | cons a l ih =>
    cases i with
    | zero => exact Nat.zero_le _
    | succ i =>
      have f : tot (a :: l) = a.2.length + tot l := rfl
      have g : tot ((a :: l).take (i + 1)) = a.2.length + tot (l.take i) := rfl
      have := ih i
      omega
end Go.Wb
namespace Go.Proofs
open Go.RowKit Go.Wi Go.Wb
set_option maxRecDepth 20000 in
set_option maxHeartbeats 1000000 in
theorem Tryz.concat_any {w : World} {g c : Nat} (hg : g < w.heap.size) (P : List Hp) (hP : P.length ≤ 1000) (hc : ∀ j (hj : j < P.length), w.cell? ⟨g, j, none⟩ = some P[j].1) (hH : ∀ p ∈ P, Hs w p.1 p.2) (ht : tot P ≤ 4398046511104) :
    Calls Tryz.prog 29 #[.slice (some ⟨g, 0, none⟩) P.length c] w fun e w' => ∃ V, e = .returned V ∧ w'.ownsRow w.heap.size 61 2 V (tot P) (hdCells (cat P)) ∧ Below w.heap.size w w' := by
  have HC : Hid _ := hc
  have HH : Hid _ := hH
  clear hc hH
  go_enter Tryz.func29, Tryz.ntmps29
  go_wp2
  go_loopw [3, 5, 11] (fun nv _ iv wr => ∃ i : Nat, iv = .int .i64 i ∧ i ≤ P.length ∧ nv = .int .i64 (tot (P.take i) : Nat) ∧ wr = w) (fun _ _ iv _ => P.length - (intOf iv).toNat)
  case atStart => exact ⟨0, rfl, Nat.zero_le _, rfl, rfl⟩
  case round =>
    obtain ⟨i, rfl, hi, rfl, hw⟩ := hrel
    have hw' := hw.symm
    subst hw'
    by_cases hlt : i < P.length
    · have q : (i : Int) < (P.length : Int) := by omega
      have c0 := HC.out i hlt
      obtain ⟨ad, cap, e0, e1⟩ := (HH.out P[i] (List.getElem_mem hlt)).ex
      rw [e0] at c0
      clear e0 e1
      have HN : Hid (tot (P.take (i + 1)) = tot (P.take i) + P[i].2.length) := tot_next hlt
      have hb : tot (P.take i) + P[i].2.length ≤ 4398046511104 := by rw [← HN.out]; exact Nat.le_trans (tot_take P _) ht
      generalize tot (P.take i) = t0 at *
      generalize P[i].2.length = n at *
      have q1 : ¬ ((t0 : Int) + (n : Int) < 0) := by omega
      go_wp2
      go_roundw
      case rel => exact ⟨i + 1, by simp, by omega, by rw [HN.out]; simp, trivial⟩
      case measure => simp [intOf]; omega
    · have q : ¬ (i : Int) < (P.length : Int) := by omega
      have e : P.take i = P := List.take_of_length_le (by omega)
      rw [e]
      clear e
      have kg := Tryz.growNil (tot P) ht w
      go_wp2_with (first | (go_at_call 48; refine kg.mono ?_; clear kg; rintro e w1 ⟨V0, rfl, hr0, hb0⟩) | fail)
      have H0 : Hid (w1.ownsRow w.heap.size 61 2 V0 0 (hdCells [])) := hr0
      have HB0 : Hid (Below w.heap.size w w1) := hb0
      clear hr0 hb0
      go_loopw [6, 8, 27] (fun V _ iv wr => ∃ i : Nat, iv = .int .i64 i ∧ i ≤ P.length ∧ wr.ownsRow w.heap.size 61 2 V (tot (P.take i)) (hdCells (cat (P.take i))) ∧ Below w.heap.size w wr) (fun _ _ iv _ => P.length - (intOf iv).toNat)
      case atStart => exact ⟨0, rfl, Nat.zero_le _, H0.out, HB0.out⟩
      case round =>
        obtain ⟨i, rfl, hi, hrow, hbel⟩ := hrel
        have HR : Hid _ := hrow
        have HB : Hid (Below w.heap.size w wr) := hbel
        clear hrow hbel
        by_cases hlt : i < P.length
        · have q : (i : Int) < (P.length : Int) := by omega
          have c0 : wr.cell? ⟨g, i, none⟩ = some P[i].1 := (HB.out.cell (p := ⟨g, i, none⟩) hg).trans (HC.out i hlt)
          have hY := (HH.out P[i] (List.getElem_mem hlt)).below HB.out
          have HN : Hid (tot (P.take (i + 1)) = tot (P.take i) + P[i].2.length) := tot_next hlt
          have HM : Hid (cat (P.take (i + 1)) = cat (P.take i) ++ P[i].2) := cat_next hlt
          have hb : tot (P.take i) + P[i].2.length ≤ 4398046511104 := by rw [← HN.out]; exact Nat.le_trans (tot_take P _) ht
          generalize P[i].1 = Y at *
          have HY : Hid (Hs wr Y P[i].2) := hY
          have HL : Hid (tot (P.take i) + P[i].2.length ≤ 4398046511104) := hb
          clear hY hb
          go_wp2_with (first | (at_builtin; refine Tryz.appHs rfl _ _ rfl HR.out HB.out.size rfl HY.out rfl HL.out ?_; intro v1 w2 hr2 hb2) | fail)
          go_roundw
          case rel => exact ⟨i + 1, by simp, by omega, by rw [HN.out, HM.out]; exact hr2, HB.out.trans hb2⟩
          case measure => simp [intOf]; omega
        · have q : ¬ (i : Int) < (P.length : Int) := by omega
          have e : P.take i = P := List.take_of_length_le (by omega)
          have H2 := HR.out
          rw [e] at H2
          clear e HR
          go_wp2
          go_ret
          exact ⟨_, rfl, H2, HB.out⟩
end Go.Proofs
