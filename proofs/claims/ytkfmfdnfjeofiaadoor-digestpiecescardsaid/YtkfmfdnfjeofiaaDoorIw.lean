/-
  Steps on sums that came in; beyond, pick.
-/
import Derived.Test.YtkfmfdnfjeofiaaDoorIv
namespace Go.Proofs
open Go.RowKit Go.Wi Go.Dg
/-- A step that came in. -/
structure Dg.O where
  k : Int
  n : Int
  t : ByteArray
structure Dg.Ops (w : World) (v : Value) (l : List Dg.O) : Prop where
  ex : ∃ a cap, v = .slice a l.length cap ∧ (l = [] ∨ ∃ g o, a = some ⟨g, o, none⟩ ∧ g < w.heap.size ∧ ∀ j (hj : j < l.length), w.cell? ⟨g, o + j * 3, none⟩ = some (.int .i64 l[j].k) ∧ w.cell? ⟨g, o + j * 3 + 1, none⟩ = some (.int .i64 l[j].n) ∧ w.cell? ⟨g, o + j * 3 + 2, none⟩ = some (.string l[j].t))
  ib : ∀ p ∈ l, -9223372036854775808 ≤ p.n ∧ p.n ≤ 9223372036854775807
  sz : ∀ p ∈ l, p.t.size ≤ 140737488351232
  len : l.length ≤ 9223372036854775807
theorem Dg.Ops.below {w w' : World} {v : Value} {l : List Dg.O} {B : Nat} (h : Dg.Ops w v l) (g : Below B w w') (hB : w.heap.size ≤ B) : Dg.Ops w' v l := by
  refine ⟨?_, h.ib, h.sz, h.len⟩
  obtain ⟨a, cap, e, h1⟩ := h.ex
  refine ⟨a, cap, e, ?_⟩
  rcases h1 with h1 | ⟨gb, o, e1, h2, h3⟩
  · exact .inl h1
  · have hs := g.size
    refine .inr ⟨gb, o, e1, Nat.lt_of_lt_of_le h2 hs, fun j hj => ?_⟩
    obtain ⟨c1, c2, c3⟩ := h3 j hj
    have e := g.block gb (by omega)
    exact ⟨(World.cell?_of_block (w := w) (a := ⟨gb, o + j * 3, none⟩) e).trans c1, (World.cell?_of_block (w := w) (a := ⟨gb, o + j * 3 + 1, none⟩) e).trans c2, (World.cell?_of_block (w := w) (a := ⟨gb, o + j * 3 + 2, none⟩) e).trans c3⟩
/-- How many steps and bytes there are, of i steps. -/
def Dg.tot (l : List Dg.O) (i : Nat) : Nat := l.length + ((l.take i).map fun p => p.t.size).sum
theorem Dg.tot_next (l : List Dg.O) (i : Nat) (h : i < l.length) : Dg.tot l (i + 1) = Dg.tot l i + (l[i]).t.size := by
  unfold Dg.tot
  rw [List.take_add_one, List.getElem?_eq_getElem h, List.map_append, List.sum_append]
  simp
  omega
/-- What beyond tells. -/
structure Dg.BeyOk (w : World) (l : List Dg.O) (e : Ending) (w' : World) : Prop where
  ex : ∃ p, e = .returned (.bool p) ∧ w' = w ∧ (p = false → Dg.tot l l.length ≤ 2147483647)
set_option maxRecDepth 20000 in
set_option maxHeartbeats 1000000 in
theorem Tryd.beyond_any {w : World} {v : Value} {l : List Dg.O} (h : Dg.Ops w v l) :
    Calls Tryd.prog 20 #[v] w (Dg.BeyOk w l) := by
  obtain ⟨ad, cap, rfl, hx⟩ := h.ex
  have HX : Hid _ := hx
  have HH : Hid _ := h
  obtain ⟨L, hL⟩ : ∃ L, L = l.length := ⟨_, rfl⟩
  have HL : Hid (L = l.length) := hL
  have hL2 : (L : Int) ≤ 9223372036854775807 := by have := h.len; omega
  rw [← hL]
  clear hx h hL
  go_enter Tryd.func20, Tryd.ntmps20
  go_wp2
  go_loopw [3, 4] (fun nv iv wr => ∃ (n i : Nat), nv = .int .i64 (n : Int) ∧ iv = .int .i64 (i : Int) ∧ i ≤ L ∧ Hid (n = Dg.tot l i) ∧ (n : Int) ≤ 9223372036854775807 ∧ wr = w) (fun _ iv _ => L - (intOf iv).toNat)
  case atStart => exact ⟨L, 0, rfl, rfl, by omega, by show _ = _; unfold Dg.tot; simp [HL.out], hL2, rfl⟩
  case round =>
    obtain ⟨n, i, rfl, rfl, hi, Hn, hn2, rfl⟩ := hrel
    by_cases hlt : i < L
    · have q1 : (i : Int) < (L : Int) := by omega
      by_cases hb : n ≤ 2147483647
      · have q2 : (n : Int) ≤ 2147483647 := by omega
        have hil : i < l.length := by rw [← HL.out]; exact hlt
        rcases HX.out with e | ⟨g, o, rfl, hg, hc⟩
        · rw [e] at hil
          simp at hil
        obtain ⟨c1, c2, c3⟩ := hc i hil
        have hsz := HH.out.sz _ (List.getElem_mem hil)
        have Hnx : Hid _ := Dg.tot_next l i hil
        obtain ⟨t, ht⟩ : ∃ t, t = (l[i]'hil).t := ⟨_, rfl⟩
        rw [← ht] at c3 hsz Hnx
        clear ht
        have q3 : (t.size : Int) ≤ 140737488351232 := by omega
        have q4 : (0 : Int) ≤ (i : Int) := by omega
        obtain ⟨n2, hn3⟩ : ∃ n2, n2 = n + t.size := ⟨_, rfl⟩
        have e1 : (n : Int) + (t.size : Int) = (n2 : Int) := by omega
        have e2 : IntKind.i64.wrap ((n : Int) + (t.size : Int)) = (n2 : Int) := by rw [IntKind.wrap_i64]; omega
        have q5 : (n2 : Int) ≤ 9223372036854775807 := by omega
        have HN3 : Hid (n2 = n + t.size) := hn3
        clear hn3 c1 c2 hc
        go_wp2
        go_roundw
        case rel => exact ⟨n2, i + 1, rfl, by go_num, by omega, by show _ = _; rw [Hnx.out, HN3.out, Hn.out], q5, by first | rfl | trivial⟩
        case measure => simp [intOf]; omega
      · have q2 : ¬ (n : Int) ≤ 2147483647 := by omega
        have q3 : (2147483647 : Int) < (n : Int) := by omega
        go_wp2
        go_ret
        exact ⟨⟨true, rfl, rfl, fun e => by cases e⟩⟩
    · have q1 : ¬ (i : Int) < (L : Int) := by omega
      obtain rfl : i = L := by omega
      by_cases hb : n ≤ 2147483647
      · have q3 : ¬ (2147483647 : Int) < (n : Int) := by omega
        go_wp2
        go_ret
        exact ⟨⟨false, rfl, rfl, fun _ => by rw [← HL.out, ← Hn.out]; exact hb⟩⟩
      · have q3 : (2147483647 : Int) < (n : Int) := by omega
        go_wp2
        go_ret
        exact ⟨⟨true, rfl, rfl, fun e => by cases e⟩⟩
set_option maxRecDepth 20000 in
theorem Tryd.pick2_any (c : Int) (h1 : -9223372036854775808 ≤ c) (h2 : c ≤ 9223372036854775807) (w : World) :
    Calls Tryd.prog 22 #[.int .i64 c, .int .i64 2] w fun e w' => (e = .returned (.int .i64 0) ∨ e = .returned (.int .i64 1)) ∧ w' = w := by
  go_enter Tryd.func22, Tryd.ntmps22
  by_cases hc : c < 0
  · obtain ⟨d, hd⟩ : ∃ d : Nat, -(c + 1) = (d : Int) := ⟨(-(c + 1)).toNat, by omega⟩
    have hm : (d : Int).tmod 2 = 0 ∨ (d : Int).tmod 2 = 1 := by rw [Int.tmod_eq_emod_of_nonneg (by omega)]; omega
    rcases hm with hm | hm
    all_goals
      go_wp2
      go_ret
      refine ⟨?_, rfl⟩
      simp
  · obtain ⟨d, rfl⟩ : ∃ d : Nat, c = (d : Int) := ⟨c.toNat, by omega⟩
    have hm : (d : Int).tmod 2 = 0 ∨ (d : Int).tmod 2 = 1 := by rw [Int.tmod_eq_emod_of_nonneg (by omega)]; omega
    rcases hm with hm | hm
    all_goals
      go_wp2
      go_ret
      refine ⟨?_, rfl⟩
      simp
end Go.Proofs
