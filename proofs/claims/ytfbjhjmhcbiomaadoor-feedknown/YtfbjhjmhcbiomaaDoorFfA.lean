/-
  FEED: the laws' same; Fold of all there is.
-/
import Derived.Test.YtfbjhjmhcbiomaaDoorFdX
namespace Go.Proofs
open Go.RowKit Go.Wi Go.Fd Go.Sort
set_option maxRecDepth 20000 in
set_option maxHeartbeats 1000000 in
theorem Tryd.same_any {w : World} {V U : Value} {a b : List Cn} (h : Cs w V a) (g : Cs w U b) (ha : a.length ≤ 4398046511104) :
    Calls Tryd.prog 12 #[V, U] w fun e w' => e = .returned (.bool (decide (a = b))) ∧ ∃ q, w' = w.drewN q := by
  obtain ⟨ad, cap, rfl⟩ := h.is
  obtain ⟨bd, cbp, rfl⟩ := g.is
  have hmx : Tryd.prog.follows .mixedOrders = true := by kernel_rfl
  by_cases hn : a.length = b.length
  · have HA : Hid (Cs w (.slice ad a.length cap) a) := h
    have HG : Hid (Cs w (.slice bd b.length cbp) b) := g
    have HN : Hid (a.length = b.length) := hn
    clear h g
    obtain ⟨r, hr⟩ : ∃ r, r = decide (a = b) := ⟨_, rfl⟩
    have HR : Hid (r = decide (a = b)) := hr
    rw [← hr]
    clear hr
    rw [hn] at HA ha ⊢
    clear hn
    go_enter Tryd.func12, Tryd.ntmps12
    go_wp2
    go_loopw [5] (fun iv wr => ∃ i : Nat, iv = .int .i64 i ∧ i ≤ b.length ∧ (∀ j, j < i → a[j]! = b[j]!) ∧ ∃ q, wr = w.drewN q) (fun iv _ => b.length - (intOf iv).toNat)
    case atStart => exact ⟨0, rfl, Nat.zero_le _, fun j hj => by omega, 0, rfl⟩
    case round =>
      obtain ⟨i, rfl, hi, hsame, q, rfl⟩ := hrel
      have HS : Hid (∀ j, j < i → a[j]! = b[j]!) := hsame
      clear hsame
      by_cases hlt : i < b.length
      · have q1 : (i : Int) < (b.length : Int) := by omega
        have hla : i < a.length := by rw [HN.out]; exact hlt
        obtain ⟨g1, o1, rfl, c1, c2, c3⟩ := HA.out.at hla
        obtain ⟨g2, o2, rfl, d1, d2, d3⟩ := HG.out.at hlt
        rw [← getElem!_pos a i hla] at c1 c2 c3
        rw [← getElem!_pos b i hlt] at d1 d2 d3
        have C1 : ∀ n, (w.drewN n).cell? ⟨g1, o1 + i * 3, none⟩ = some (.string a[i]!.room) := fun _ => c1
        have C2 : ∀ n, (w.drewN n).cell? ⟨g1, o1 + i * 3 + 1, none⟩ = some (.int .i64 a[i]!.un) := fun _ => c2
        have C3 : ∀ n, (w.drewN n).cell? ⟨g1, o1 + i * 3 + 2, none⟩ = some (.int .i64 a[i]!.hi) := fun _ => c3
        have D1 : ∀ n, (w.drewN n).cell? ⟨g2, o2 + i * 3, none⟩ = some (.string b[i]!.room) := fun _ => d1
        have D2 : ∀ n, (w.drewN n).cell? ⟨g2, o2 + i * 3 + 1, none⟩ = some (.int .i64 b[i]!.un) := fun _ => d2
        have D3 : ∀ n, (w.drewN n).cell? ⟨g2, o2 + i * 3 + 2, none⟩ = some (.int .i64 b[i]!.hi) := fun _ => d3
        clear c1 c2 c3 d1 d2 d3
        generalize hx : a[i]! = x at *
        generalize hy : b[i]! = y at *
        have heq : ∀ W : World, (Op.equalIn 10000 28 (.agg #[.string x.room, .int .i64 x.un, .int .i64 x.hi]) (.agg #[.string y.room, .int .i64 y.un, .int .i64 y.hi])).run Tryd.prog W = .ok (decide (x = y)) W := fun W => Tryd.eqCn x y W
        have hgt : Tryd.prog.eqGuardType Tryd.prog.depth 28 = false := by kernel_rfl
        generalize hd : decide (x = y) = d at *
        go_wp2_with (fail)
        go_quiet (fail)
        cases d with
        | true =>
          go_wp2
          go_roundw
          case rel =>
            refine ⟨i + 1, by simp, by omega, fun j hj => ?_, q + nq, by first | rfl | exact World.drewN_drewN _ _ _⟩
            by_cases hji : j = i
            · subst hji; rw [hx, hy]; exact of_decide_eq_true hd
            · exact HS.out j (by omega)
          case measure => simp [intOf]; omega
        | false =>
          have e : r = false := by
            rw [HR.out]
            refine decide_eq_false fun e => of_decide_eq_false hd ?_
            rw [← hx, ← hy, e]
          subst e
          go_wp2
          go_ret
          exact ⟨rfl, q + nq, World.drewN_drewN _ _ _⟩
      · have q1 : ¬ (i : Int) < (b.length : Int) := by omega
        have e : r = true := by
          rw [HR.out]
          refine decide_eq_true ?_
          apply List.ext_getElem HN.out
          intro j h1 h2
          have := HS.out j (by omega)
          rwa [getElem!_pos a j h1, getElem!_pos b j h2] at this
        subst e
        go_wp2
        go_ret
        exact ⟨rfl, q, rfl⟩
  · clear ha
    have q0 : ¬ ((a.length : Int) = (b.length : Int)) := by omega
    have e : decide (a = b) = false := decide_eq_false (fun e => hn (by rw [e]))
    rw [e]
    clear h g hn e
    go_enter Tryd.func12, Tryd.ntmps12
    go_wp2
    go_ret
    exact ⟨rfl, 0, rfl⟩
set_option maxRecDepth 20000 in
set_option maxHeartbeats 500000 in
theorem Tryd.fold_whole {w : World} {V : Value} {l : List Cn} (h : Cs w V l) (hV : ∀ k, V.ownBlock = some k → k < w.heap.size) (hl : l.length ≤ 4398046511104) :
    Calls Tryd.prog 13 #[.slice none 0 0, V, .slice none 0 0, .bool true] w fun e w' => ∃ V', e = .returned V' ∧ w'.ownsRow w.heap.size 28 3 V' (sheet l).length (cnCells (sheet l)) ∧ Below w.heap.size w w' := by
  have hs := Tryd.sheetOf_any h hV hl
  clear h hV hl
  go_enter Tryd.func13, Tryd.ntmps13
  go_wp2_with (first
    | (go_at_call 16; refine hs.mono ?_; clear hs; rintro e w1 ⟨V1, rfl, hr1, hb1⟩)
    | fail)
  go_ret
  exact ⟨V1, rfl, hr1, hb1⟩
end Go.Proofs
