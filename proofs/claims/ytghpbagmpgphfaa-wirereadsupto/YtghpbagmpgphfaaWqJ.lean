/-
  Lists that came out, written over with a mark: looks.
-/
import Derived.Test.YtghpbagmpgphfaaWqI
namespace Go.Proofs
open Go.RowKit Go.Wi
structure Wi.Lh where
  v : Value
  n : Nat
  m : Int
def Wi.lvs (hs : List Wi.Lh) : List Value := hs.map fun h => h.v
theorem Wi.lvs_len (hs : List Wi.Lh) : (Wi.lvs hs).length = hs.length := by simp [Wi.lvs]
/-- What 'lists' holds, read alone. -/
structure Try.Lc (w : World) (b : Nat) (hs : List Wi.Lh) : Prop where
  ex : ∃ lv mv wv qv, w.heap[b]? = some (.cells #[lv, mv, wv, qv] 33 (0, 0)) ∧ w.ownsRow 0 31 1 lv hs.length (Wi.lvs hs) ∧ w.ownsRow 0 2 1 mv hs.length (Wi.ics (hs.map fun h => h.m))
  each : ∀ h ∈ hs, Wi.Ns w h.v (List.replicate h.n h.m)
set_option maxHeartbeats 2000000 in
set_option maxRecDepth 4000 in
/-- 'looks'. -/
theorem Try.looksL_any {w : World} {b : Nat} {hs : List Wi.Lh} (h : Try.Lc w b hs) (hl : hs.length ≤ 1000000) :
    Calls Try.prog 28 #[.pointer (some ⟨b, 0, .none⟩)] w fun e w' => e = .returned (.bool true) ∧ ∃ n, w' = w.drewN n := by
  obtain ⟨lv, mv, wv, qv, hb, hr1, hr2⟩ := h.ex
  have hv1 : ∃ ad cap, lv = .slice ad hs.length cap ∧ ∀ j (hj : j < hs.length), ∃ g, ad = some ⟨g, 0, .none⟩ ∧ w.cell? ⟨g, j, .none⟩ = some hs[j].v := by
    rcases hr1.2 with ⟨e, e0⟩ | ⟨g, cap, cur, e, -⟩
    · exact ⟨.none, 0, by rw [e0]; exact e, fun j hj => by omega⟩
    · refine ⟨_, cap, e, fun j hj => ⟨g, rfl, ?_⟩⟩
      subst e
      have h1 : (Wi.lvs hs)[j]? = some hs[j].v := by simp [Wi.lvs, hj]
      have c1 := hr1.cells (g := g) rfl _ _ h1
      rw [Addr.add_mid] at c1
      simpa using c1
  have hv2 : ∃ ad cap, mv = .slice ad hs.length cap ∧ ∀ j (hj : j < hs.length), ∃ g, ad = some ⟨g, 0, .none⟩ ∧ w.cell? ⟨g, j, .none⟩ = some (.int .i64 hs[j].m) := by
    rcases hr2.2 with ⟨e, e0⟩ | ⟨g, cap, cur, e, -⟩
    · exact ⟨.none, 0, by rw [e0]; exact e, fun j hj => by omega⟩
    · refine ⟨_, cap, e, fun j hj => ⟨g, rfl, ?_⟩⟩
      subst e
      have h1 : (Wi.ics (hs.map fun h => h.m))[j]? = some (.int .i64 hs[j].m) := by simp [Wi.ics, hj]
      have c1 := hr2.cells (g := g) rfl _ _ h1
      rw [Addr.add_mid] at c1
      simpa using c1
  obtain ⟨a1, k1, rfl, hc1⟩ := hv1
  obtain ⟨a2, k2, rfl, hc2⟩ := hv2
  have d0 : w.cell? ⟨b, 0, .none⟩ = some (.slice a1 hs.length k1) := cell_of_row w b 0 _ _ _ hb
  have d1 : w.cell? ⟨b, 1, .none⟩ = some (.slice a2 hs.length k2) := cell_of_row w b 1 _ _ _ hb
  have Hea : Hid (∀ x ∈ hs, Wi.Ns w x.v (List.replicate x.n x.m)) := h.each
  have Hc1 : Hid (∀ j (hj : j < hs.length), ∃ g, a1 = some ⟨g, 0, .none⟩ ∧ w.cell? ⟨g, j, .none⟩ = some hs[j].v) := hc1
  have Hc2 : Hid (∀ j (hj : j < hs.length), ∃ g, a2 = some ⟨g, 0, .none⟩ ∧ w.cell? ⟨g, j, .none⟩ = some (.int .i64 hs[j].m)) := hc2
  clear h hb hr1 hr2 hc1 hc2
  go_enter Try.func28, Try.ntmps28
  go_wp2
  go_loopw [3, 4] (fun i _ wr => ∃ k m : Nat, k ≤ hs.length ∧ i = .int .i64 k ∧ wr = w.drewN m) (fun i _ _ => hs.length - (intOf i).toNat)
  case atStart => exact ⟨0, 0, Nat.zero_le _, rfl, rfl⟩
  case round =>
    obtain ⟨k, m, hk, rfl, rfl⟩ := hrel
    by_cases hkq : k < hs.length
    · have q0 : (k : Int) < (hs.length : Int) := by omega
      obtain ⟨g1, e1, c1⟩ := Hc1.out k hkq
      obtain ⟨g2, e2, c2⟩ := Hc2.out k hkq
      subst e1
      subst e2
      obtain ⟨xa, xc, hxv, hxl, hx⟩ := (Hea.out hs[k] (List.getElem_mem hkq)).ex
      rw [List.length_replicate] at hxv hxl
      generalize hs[k] = x at *
      have Hx : Hid (∀ j, j < x.n → ∃ sb so, xa = some ⟨sb, so, .none⟩ ∧ w.cell? ⟨sb, so + j, .none⟩ = some (.int .i64 x.m)) := fun j hj => by
        obtain ⟨sb, so, e, h2⟩ := hx j (by simpa using hj)
        exact ⟨sb, so, e, by simpa using h2⟩
      rw [hxv] at c1
      clear hxv hx
      go_wp2
      go_loopw [4] (fun i wx => ∃ j q : Nat, j ≤ x.n ∧ i = .int .i64 j ∧ wx = w.drewN q) (fun i _ => x.n - (intOf i).toNat)
      case atStart => exact ⟨0, m, Nat.zero_le _, rfl, rfl⟩
      case round =>
        obtain ⟨j, q, hj, rfl, rfl⟩ := hrel
        by_cases hjn : j < x.n
        · have q1 : (j : Int) < (x.n : Int) := by omega
          obtain ⟨sb, so, e, s1⟩ := Hx.out j hjn
          subst e
          go_wp2
          go_quiet (fail)
          go_wp2
          go_roundw
          case rel => exact ⟨j + 1, _, by omega, by go_num, rfl⟩
          case measure => simp [intOf]; omega
        · have q1 : ¬ (j : Int) < (x.n : Int) := by omega
          go_wp2
          go_roundw
          case rel => exact ⟨k + 1, _, by omega, by go_num, rfl⟩
          case measure => simp [intOf]; omega
    · have q0 : ¬ (k : Int) < (hs.length : Int) := by omega
      go_wp2
      go_ret
      exact ⟨rfl, _, rfl⟩
end Go.Proofs
