/-
  Rows of numbers that lie somewhere; sameNumbers.
-/
import Derived.Test.YtghpbagmpgphfaaWqH
namespace Go.Proofs
open Go.RowKit Go.Wi
/-- Numbers that lie somewhere. -/
structure Wi.Ns (w : World) (v : Value) (li : List Int) : Prop where
  ex : ∃ ad cap, v = .slice ad li.length cap ∧ li.length ≤ 9223372036854775807 ∧ ∀ j (hj : j < li.length), ∃ g o, ad = some ⟨g, o, .none⟩ ∧ w.cell? ⟨g, o + j, .none⟩ = some (.int .i64 li[j])
theorem Wi.Ns.keep {w w' : World} {v : Value} {li : List Int} (h : Wi.Ns w v li) (hk : ∀ k, v.ownBlock = some k → w'.heap[k]? = w.heap[k]?) : Wi.Ns w' v li := by
  obtain ⟨ad, cap, rfl, h1, h2⟩ := h.ex
  refine ⟨ad, cap, rfl, h1, fun j hj => ?_⟩
  obtain ⟨g, o, rfl, h3⟩ := h2 j hj
  refine ⟨g, o, rfl, ?_⟩
  rw [← h3]
  have := hk g rfl
  simp only [World.cell?, this]
theorem Wi.Ns.drewN {w : World} {v : Value} {li : List Int} (h : Wi.Ns w v li) (n : Nat) : Wi.Ns (w.drewN n) v li := h.keep fun _ _ => rfl
theorem Wi.Ns.nil (w : World) : Wi.Ns w (.slice .none 0 0) [] := ⟨.none, 0, rfl, by simp, fun j hj => absurd hj (by simp)⟩
theorem Try.Ns_row {w : World} {B : Nat} {v : Value} {li : List Int} (h : w.ownsRow B 2 1 v li.length (Wi.ics li)) (hl : li.length ≤ 9223372036854775807) : Wi.Ns w v li := by
  rcases h.2 with ⟨e, e2⟩ | ⟨g, cap, cur, e, -⟩
  · exact ⟨.none, 0, by rw [e2]; exact e, hl, fun j hj => absurd hj (by omega)⟩
  · refine ⟨_, cap, e, hl, fun j hj => ⟨g, 0, rfl, ?_⟩⟩
    subst e
    have h1 : (Wi.ics li)[j]? = some (.int .i64 li[j]) := by simp [Wi.ics, hj]
    have c1 := h.cells (g := g) rfl _ _ h1
    rw [Addr.add_mid] at c1
    exact c1
set_option maxHeartbeats 1000000 in
theorem Try.sameNumbers_any {w : World} {va vb : Value} {la lb : List Int} (ha : Wi.Ns w va la) (hb : Wi.Ns w vb lb) :
    Calls Try.prog 39 #[va, vb] w fun e w' => e = .returned (.bool (decide (la = lb))) ∧ ∃ n, w' = w.drewN n := by
  obtain ⟨aa, ca, rfl, hla, ga⟩ := ha.ex
  obtain ⟨ab, cb, rfl, hlb, gb⟩ := hb.ex
  clear ha hb
  by_cases hne : la.length = lb.length
  · have Hlb : Hid (lb.length = la.length) := hne.symm
    obtain ⟨N, hN⟩ : ∃ N, N = la.length := ⟨_, rfl⟩
    have HN : Hid (N = la.length) := hN
    have Ga : Hid (∀ j (hj : j < N), ∃ g o, aa = some ⟨g, o, .none⟩ ∧ w.cell? ⟨g, o + j, .none⟩ = some (.int .i64 (la[j]'(by rw [← HN.out]; exact hj)))) := fun j hj => ga j (by rw [← hN]; exact hj)
    have Gb : Hid (∀ j (hj : j < N), ∃ g o, ab = some ⟨g, o, .none⟩ ∧ w.cell? ⟨g, o + j, .none⟩ = some (.int .i64 (lb[j]'(by rw [Hlb.out, ← HN.out]; exact hj)))) := fun j hj => gb j (by rw [← hne, ← hN]; exact hj)
    clear ga gb
    rw [← hne, ← hN]
    rw [← hN] at hla
    clear hlb hne hN
    go_enter Try.func39, Try.ntmps39
    go_wp2
    go_loopw [5] (fun i wr => ∃ k m : Nat, k ≤ N ∧ i = .int .i64 k ∧ wr = w.drewN m ∧ la.take k = lb.take k) (fun i _ => N - (intOf i).toNat)
    case atStart => exact ⟨0, 0, Nat.zero_le _, rfl, rfl, rfl⟩
    case round =>
      obtain ⟨k, m, hk, rfl, rfl, htk⟩ := hrel
      have Htk : Hid (la.take k = lb.take k) := htk
      clear htk
      by_cases hkq : k < N
      · have q0 : (k : Int) < (N : Int) := by omega
        have hk1 : k < la.length := by rw [← HN.out]; exact hkq
        have hk2 : k < lb.length := by rw [Hlb.out]; exact hk1
        obtain ⟨g1, o1, e1, c1⟩ := Ga.out k hkq
        obtain ⟨g2, o2, e2, c2⟩ := Gb.out k hkq
        subst e1
        subst e2
        have Hx : Hid (la.take (k + 1) = la.take k ++ [la[k]] ∧ lb.take (k + 1) = lb.take k ++ [lb[k]]) := ⟨by rw [List.take_append_getElem], by rw [List.take_append_getElem]⟩
        have Hy : Hid (la[k] ≠ lb[k] → la ≠ lb) := fun e1 e2 => e1 (by simp only [e2])
        generalize la[k] = x at *
        generalize lb[k] = y at *
        by_cases hxy : x = y
        · subst hxy
          go_wp2
          go_quiet (fail)
          go_wp2
          go_roundw
          case rel => exact ⟨k + 1, _, by omega, by go_num, rfl, by rw [Hx.out.1, Hx.out.2, Htk.out]⟩
          case measure => simp [intOf]; omega
        · have Hxy : Hid (¬ x = y) := hxy
          have q2 : (x == y) = false := by simpa using hxy
          have q3 : decide (x = y) = false := decide_eq_false hxy
          have q4 : (x != y) = true := by simpa using hxy
          go_wp2
          go_quiet (fail)
          go_wp2
          go_ret
          exact ⟨by rw [decide_eq_false (Hy.out Hxy.out)]; rfl, _, World.drewN_drewN ..⟩
      · have q0 : ¬ (k : Int) < (N : Int) := by omega
        have Hk : Hid (k = N) := by show k = N; omega
        go_wp2
        go_ret
        refine ⟨?_, _, rfl⟩
        have h1 := Htk.out
        rw [List.take_of_length_le (by have := Hk.out; have := HN.out; omega), List.take_of_length_le (by have := Hk.out; have := HN.out; have := Hlb.out; omega)] at h1
        rw [decide_eq_true h1]
        rfl
  · have q1 : ¬ (la.length : Int) = (lb.length : Int) := by omega
    have q2 : ((la.length : Int) == (lb.length : Int)) = false := by simpa using q1
    have Hne : Hid (¬ la = lb) := fun e => hne (by rw [e])
    clear ga gb
    go_enter Try.func39, Try.ntmps39
    go_wp2
    go_ret
    exact ⟨by rw [decide_eq_false Hne.out]; rfl, 0, rfl⟩
end Go.Proofs
