/-
  FEED: slices.Equal of two sheets.
-/
import Derived.Test.YtdhgpkacilcfgaaGreatDoorFdG
namespace Go.Proofs
open Go.RowKit Go.Wi Go.Fd Go.Sort
def Fd.cnV (x : Cn) : Value := .agg #[.string x.room, .int .i64 x.un, .int .i64 x.hi]
theorem Tryz.part_str (cs : Array Value) (off : Nat) (v : Value) (W : World) (h : cs[off]? = some v) : (part 9 cs off).run Tryz.prog W = .ok v W := by
  simp [part, isAgg, run_underlying Tryz.underlying9, h]
theorem Tryz.part_int (cs : Array Value) (off : Nat) (v : Value) (W : World) (h : cs[off]? = some v) : (part 3 cs off).run Tryz.prog W = .ok v W := by
  simp [part, isAgg, run_underlying Tryz.underlying3, h]
theorem Tryz.eq_cnIn (x y : Cn) (w : World) (n : Nat) : (Op.equalIn (n + 1 + 1) 39 (Fd.cnV x) (Fd.cnV y)).run Tryz.prog w = .ok (decide (x = y)) w := by
  have h1 := run_equalIn_string (P := Tryz.prog) w n 9 x.room y.room Tryz.underlying9
  have h2 := run_equalIn_int (P := Tryz.prog) w n 3 .i64 .i64 x.un y.un Tryz.underlying3
  have h3 := run_equalIn_int (P := Tryz.prog) w n 3 .i64 .i64 x.hi y.hi Tryz.underlying3
  generalize hE : Op.equalIn (n + 1) = E at h1 h2 h3
  unfold Fd.cnV
  rw [Op.equalIn, hE]
  have p0 := fun W => Tryz.part_str #[.string x.room, .int .i64 x.un, .int .i64 x.hi] 0 _ W rfl
  have p1 := fun W => Tryz.part_int #[.string x.room, .int .i64 x.un, .int .i64 x.hi] 1 _ W rfl
  have p2 := fun W => Tryz.part_int #[.string x.room, .int .i64 x.un, .int .i64 x.hi] 2 _ W rfl
  have q0 := fun W => Tryz.part_str #[.string y.room, .int .i64 y.un, .int .i64 y.hi] 0 _ W rfl
  have q1 := fun W => Tryz.part_int #[.string y.room, .int .i64 y.un, .int .i64 y.hi] 1 _ W rfl
  have q2 := fun W => Tryz.part_int #[.string y.room, .int .i64 y.un, .int .i64 y.hi] 2 _ W rfl
  have hst : Tryz.prog.stoodInHeld 39 = false := by kernel_rfl
  by_cases e1 : x.room = y.room
  · rw [e1, beq_self_eq_true] at h1
    by_cases e2 : x.un = y.un
    · rw [e2, beq_self_eq_true] at h2
      by_cases e3 : x.hi = y.hi
      · rw [e3, beq_self_eq_true] at h3
        have e : x = y := by cases x; cases y; simp at e1 e2 e3; rw [e1, e2, e3]
        rw [decide_eq_true e]
        rw [e1, e2, e3] at p0 p1 p2 ⊢
        simp [run_underlying Tryz.underlying39, hst, p0, p1, p2, h1, h2, h3]
      · have e : x ≠ y := fun e => e3 (by rw [e])
        rw [decide_eq_false e]
        have : (x.hi == y.hi) = false := by simpa using e3
        rw [this] at h3
        rw [e1, e2] at p0 p1 p2 ⊢
        simp [run_underlying Tryz.underlying39, hst, p0, p1, p2, q0, q1, q2, h1, h2, h3]
    · have e : x ≠ y := fun e => e2 (by rw [e])
      rw [decide_eq_false e]
      have : (x.un == y.un) = false := by simpa using e2
      rw [this] at h2
      rw [e1] at p0 p1 p2 ⊢
      simp [run_underlying Tryz.underlying39, hst, p0, p1, p2, q0, q1, q2, h1, h2]
  · have e : x ≠ y := fun e => e1 (by rw [e])
    rw [decide_eq_false e]
    have : (x.room.toList == y.room.toList) = false := by
      rw [beq_eq_false_iff_ne]
      exact fun h => e1 (toList_inj h)
    rw [this] at h1
    simp [run_underlying Tryz.underlying39, hst, p0, p1, p2, q0, q1, q2, h1]
/-- Are two counts the same? -/
theorem Tryz.eqCn (x y : Cn) (w : World) : (Op.equalIn 10000 39 (.agg #[.string x.room, .int .i64 x.un, .int .i64 x.hi]) (.agg #[.string y.room, .int .i64 y.un, .int .i64 y.hi])).run Tryz.prog w = .ok (decide (x = y)) w := Tryz.eq_cnIn x y w 9998
set_option maxRecDepth 20000 in
set_option maxHeartbeats 1000000 in
theorem Tryz.equal_any {w : World} {V U : Value} {a b : List Cn} (h : Cs w V a) (g : Cs w U b) (ha : a.length ≤ 4398046511104) :
    Calls Tryz.prog 37 #[V, U] w fun e w' => e = .returned (.bool (decide (a = b))) ∧ ∃ q, w' = w.drewN q := by
  obtain ⟨ad, cap, rfl⟩ := h.is
  obtain ⟨bd, cbp, rfl⟩ := g.is
  have hmx : Tryz.prog.follows .mixedOrders = true := by kernel_rfl
  by_cases hn : a.length = b.length
  · have HA : Hid (Cs w (.slice ad a.length cap) a) := h
    have HG : Hid (Cs w (.slice bd b.length cbp) b) := g
    have HN : Hid (a.length = b.length) := hn
    clear h g
    obtain ⟨r, hr⟩ : ∃ r, r = decide (a = b) := ⟨_, rfl⟩
    have HR : Hid (r = decide (a = b)) := hr
    rw [← hr]
    clear hr
    rw [hn] at HA ha ⊢
    clear hn
    go_enter Tryz.func37, Tryz.ntmps37
    go_wp2
    go_loopw [5, 13] (fun _ iv wr => ∃ i : Nat, iv = .int .i64 i ∧ i ≤ b.length ∧ (∀ j, j < i → a[j]! = b[j]!) ∧ ∃ q, wr = w.drewN q) (fun _ iv _ => b.length - (intOf iv).toNat)
    case atStart => exact ⟨0, rfl, Nat.zero_le _, fun j hj => by omega, 0, rfl⟩
    case round =>
      obtain ⟨i, rfl, hi, hsame, q, rfl⟩ := hrel
      have HS : Hid (∀ j, j < i → a[j]! = b[j]!) := hsame
      clear hsame
      by_cases hlt : i < b.length
      · have q1 : (i : Int) < (b.length : Int) := by omega
        have hla : i < a.length := by rw [HN.out]; exact hlt
        obtain ⟨g1, o1, rfl, c1, c2, c3⟩ := HA.out.at hla
        obtain ⟨g2, o2, rfl, d1, d2, d3⟩ := HG.out.at hlt
        rw [← getElem!_pos a i hla] at c1 c2 c3
        rw [← getElem!_pos b i hlt] at d1 d2 d3
        have C1 : ∀ n, (w.drewN n).cell? ⟨g1, o1 + i * 3, none⟩ = some (.string a[i]!.room) := fun _ => c1
        have C2 : ∀ n, (w.drewN n).cell? ⟨g1, o1 + i * 3 + 1, none⟩ = some (.int .i64 a[i]!.un) := fun _ => c2
        have C3 : ∀ n, (w.drewN n).cell? ⟨g1, o1 + i * 3 + 2, none⟩ = some (.int .i64 a[i]!.hi) := fun _ => c3
        have D1 : ∀ n, (w.drewN n).cell? ⟨g2, o2 + i * 3, none⟩ = some (.string b[i]!.room) := fun _ => d1
        have D2 : ∀ n, (w.drewN n).cell? ⟨g2, o2 + i * 3 + 1, none⟩ = some (.int .i64 b[i]!.un) := fun _ => d2
        have D3 : ∀ n, (w.drewN n).cell? ⟨g2, o2 + i * 3 + 2, none⟩ = some (.int .i64 b[i]!.hi) := fun _ => d3
        clear c1 c2 c3 d1 d2 d3
        generalize hx : a[i]! = x at *
        generalize hy : b[i]! = y at *
        have heq : ∀ W : World, (Op.equalIn 10000 39 (.agg #[.string x.room, .int .i64 x.un, .int .i64 x.hi]) (.agg #[.string y.room, .int .i64 y.un, .int .i64 y.hi])).run Tryz.prog W = .ok (decide (x = y)) W := fun W => Tryz.eqCn x y W
        have hgt : Tryz.prog.eqGuardType Tryz.prog.depth 39 = false := by kernel_rfl
        generalize hd : decide (x = y) = d at *
        go_wp2_with (fail)
        go_quiet (fail)
        cases d with
        | true =>
          go_wp2
          go_roundw
          case rel =>
            refine ⟨i + 1, by simp, by omega, fun j hj => ?_, q + nq, by first | rfl | exact World.drewN_drewN _ _ _⟩
            by_cases hji : j = i
            · subst hji; rw [hx, hy]; exact of_decide_eq_true hd
            · exact HS.out j (by omega)
          case measure => simp [intOf]; omega
        | false =>
          have e : r = false := by
            rw [HR.out]
            refine decide_eq_false fun e => of_decide_eq_false hd ?_
            rw [← hx, ← hy, e]
          subst e
          go_wp2
          go_ret
          exact ⟨rfl, q + nq, World.drewN_drewN _ _ _⟩
      · have q1 : ¬ (i : Int) < (b.length : Int) := by omega
        have e : r = true := by
          rw [HR.out]
          refine decide_eq_true ?_
          apply List.ext_getElem HN.out
          intro j h1 h2
          have := HS.out j (by omega)
          rwa [getElem!_pos a j h1, getElem!_pos b j h2] at this
        subst e
        go_wp2
        go_ret
        exact ⟨rfl, q, rfl⟩
  · clear ha
    have q0 : ¬ ((a.length : Int) = (b.length : Int)) := by omega
    have e : decide (a = b) = false := decide_eq_false (fun e => hn (by rw [e]))
    rw [e]
    clear h g hn e
    go_enter Tryz.func37, Tryz.ntmps37
    go_wp2
    go_ret
    exact ⟨rfl, 0, rfl⟩
end Go.Proofs
