/-
  WireLists: made, walked.
-/
import Derived.Test.YtdefebinnmimgaaWh6
namespace Go.Proofs
open Go.RowKit Go.Wi
/-- Lists that were lent: each with two texts behind, and two lists behind them all. -/
structure Wi.Lent (B : Nat) (w : World) (v : Value) (ll : List (List ByteArray)) : Prop where
  ex : ∃ g c, v = .slice (some ⟨g, 0, none⟩) ll.length c ∧ ll.length + 2 ≤ c ∧ (B ≤ g ∧ g < w.heap.size) ∧
    (∀ j (hj : j < ll.length), ∃ gj cj, w.cell? ⟨g, j, none⟩ = some (.slice (some ⟨gj, 0, none⟩) ll[j].length cj) ∧ ll[j].length + 2 ≤ cj ∧ (B ≤ gj ∧ gj < w.heap.size) ∧ (∀ i (hi : i < ll[j].length), w.cell? ⟨gj, i, none⟩ = some (.string ll[j][i])) ∧ ∀ i, ll[j].length ≤ i → i < ll[j].length + 2 → w.cell? ⟨gj, i, none⟩ = some (.string beh)) ∧
    (∀ j, ll.length ≤ j → j < ll.length + 2 → ∃ h, w.cell? ⟨g, j, none⟩ = some (.slice (some ⟨h, 0, none⟩) 1 1) ∧ (B ≤ h ∧ h < w.heap.size) ∧ w.cell? ⟨h, 0, none⟩ = some (.string beh))
theorem Wi.Lent.up {B : Nat} {w w' : World} {v : Value} {ll : List (List ByteArray)} (h : Wi.Lent B w v ll) (hb : Below w.heap.size w w') : Wi.Lent B w' v ll := by
  obtain ⟨g, c, h1, h2, h3, h4, h5⟩ := h.ex
  have hz := hb.size
  refine ⟨g, c, h1, h2, ⟨h3.1, by omega⟩, fun j hj => ?_, fun j hj1 hj2 => ?_⟩
  · obtain ⟨gj, cj, k1, k2, k3, k4, k5⟩ := h4 j hj
    exact ⟨gj, cj, (hb.cell (p := ⟨g, j, none⟩) h3.2).trans k1, k2, ⟨k3.1, by omega⟩, fun i hi => (hb.cell (p := ⟨gj, i, none⟩) k3.2).trans (k4 i hi), fun i hi1 hi2 => (hb.cell (p := ⟨gj, i, none⟩) k3.2).trans (k5 i hi1 hi2)⟩
  · obtain ⟨x, k1, k2, k3⟩ := h5 j hj1 hj2
    exact ⟨x, (hb.cell (p := ⟨g, j, none⟩) h3.2).trans k1, ⟨k2.1, by omega⟩, (hb.cell (p := ⟨x, 0, none⟩) k2.2).trans k3⟩
theorem Wi.Lent.txs {B : Nat} {w : World} {v : Value} {ll : List (List ByteArray)} (h : Wi.Lent B w v ll) : Txso (fun g => B ≤ g ∧ g < w.heap.size) w v ll := by
  obtain ⟨g, c, h1, h2, h3, h4, h5⟩ := h.ex
  refine ⟨_, c, h1, .inr ⟨g, 0, rfl, h3, fun j hj => ?_⟩⟩
  obtain ⟨gj, cj, k1, k2, k3, k4, k5⟩ := h4 j hj
  exact ⟨_, by rw [Nat.zero_add]; exact k1, ⟨_, cj, rfl, .inr ⟨gj, 0, rfl, k3, fun i hi => by rw [Nat.zero_add]; exact k4 i hi⟩⟩⟩
theorem Wi.Txso.mono {ok ok' : Nat → Prop} {w : World} {v : Value} {ll : List (List ByteArray)} (h : Txso ok w v ll) (hk : ∀ g, ok g → ok' g) : Txso ok' w v ll := by
  obtain ⟨ad, cap, h1, h2⟩ := h.ex
  refine ⟨ad, cap, h1, h2.imp id ?_⟩
  rintro ⟨g, o, h3, h4, h5⟩
  refine ⟨g, o, h3, hk g h4, fun j hj => ?_⟩
  obtain ⟨u, k1, k2⟩ := h5 j hj
  obtain ⟨ua, uc, k3, k4⟩ := k2.ex
  refine ⟨u, k1, ua, uc, k3, k4.imp id ?_⟩
  rintro ⟨ug, uo, e1, e2, e3⟩
  exact ⟨ug, uo, e1, hk ug e2, e3⟩
theorem Wi.rowMono {w : World} {B B' : Nat} {e : TypeId} {v : Value} {n : Nat} {xs : List Value} (h : w.ownsRow B e 1 v n xs) (hB : B' ≤ B) : w.ownsRow B' e 1 v n xs := by
  refine ⟨h.1, ?_⟩
  rcases h.2 with h1 | ⟨g, cap, cur, h1, h2, h3⟩
  · exact .inl h1
  · exact .inr ⟨g, cap, cur, h1, by omega, h3⟩
theorem Wi.rowCap {w : World} {B : Nat} {e : TypeId} {g n c : Nat} {xs : List Value} (h : w.ownsRow B e 1 (.slice (some ⟨g, 0, none⟩) n c) n xs) : n ≤ c ∧ B ≤ g ∧ g < w.heap.size := by
  rcases h.2 with ⟨h1, _⟩ | ⟨g', cap, cur, h1, h0, h2, h3, _⟩
  · cases h1
  · cases h1
    exact ⟨h3, h0, (Array.getElem?_eq_some_iff.1 h2).1⟩
theorem Wi.str_keep {w W : World} {B : Nat} {ov : Value} {n : Nat} {vs : List Value} {g : Nat} {cur : Array Value} {fr : Nat × Nat} (hr : w.ownsRow B 50 1 ov n vs) (hg : w.grownBy W ov.ownBlock) (h1 : w.heap[g]? = some (.cells cur 9 fr)) : W.heap[g]? = w.heap[g]? := by
  refine hg.block g (Array.getElem?_eq_some_iff.1 h1).1 fun e2 => ?_
  obtain ⟨c2, h2⟩ := Wi.rowT hr e2.symm
  rw [h1] at h2
  injection h2 with h2
  injection h2 with _ h2
  exact absurd h2 (by decide)
/-- The two lists behind. -/
theorem Try.Mk.lent {w0 w W : World} {ov : Value} {vs : List Value} {ll : List (List ByteArray)} {g c h1 h2 : Nat} (h : Try.Mk w0 w ov vs ll)
    (hB1 : w0.heap.size ≤ h1) (hB2 : w0.heap.size ≤ h2) (hh1 : w.heap[h1]? = some (.cells #[.string beh] 9 (0, 0))) (hh2 : w.heap[h2]? = some (.cells #[.string beh] 9 (0, 0)))
    (hg : w.grownBy W ov.ownBlock) (ho : W.ownsRow w0.heap.size 50 1 (.slice (some ⟨g, 0, none⟩) (ll.length + 2) c) (ll.length + 2) (vs ++ [.slice (some ⟨h1, 0, none⟩) 1 1, .slice (some ⟨h2, 0, none⟩) 1 1])) :
    Wi.Lent w0.heap.size W (.slice (some ⟨g, 0, none⟩) ll.length c) ll := by
  obtain ⟨hc, hgl⟩ := Wi.rowCap ho
  refine ⟨g, c, rfl, hc, hgl, fun j hj => ?_, fun j hj1 hj2 => ?_⟩
  · obtain ⟨gj, cj, k1, k2⟩ := h.its j hj
    have hk2 : W.ownsRow w0.heap.size 9 1 (.slice (some ⟨gj, 0, none⟩) (ll[j].length + 2) cj) (ll[j].length + 2) (tc ll[j] ++ [.string beh, .string beh]) := Wi.row_heap k2 fun k e => by
      obtain ⟨c1, h1⟩ := Wi.rowT k2 e
      exact Wi.str_keep h.row hg h1
    obtain ⟨hcj, hgj⟩ := Wi.rowCap hk2
    refine ⟨gj, cj, rcell ho (by rw [List.getElem?_append_left (by rw [h.len]; exact hj)]; exact k1), hcj, hgj, fun i hi => rcell hk2 (by rw [List.getElem?_append_left (by rw [tc_len]; exact hi)]; exact tc_at hi), fun i hi1 hi2 => rcell hk2 ?_⟩
    rw [List.getElem?_append_right (by rw [tc_len]; exact hi1), tc_len]
    have : i - ll[j].length = 0 ∨ i - ll[j].length = 1 := by omega
    rcases this with e | e <;> rw [e] <;> rfl
  · have hk : ∀ x, (x = h1 ∨ x = h2) → (w0.heap.size ≤ x ∧ x < W.heap.size) ∧ W.cell? ⟨x, 0, none⟩ = some (.string beh) := fun x hx => by
      have hw : w.heap[x]? = some (.cells #[.string beh] 9 (0, 0)) := by rcases hx with rfl | rfl <;> assumption
      have hW := (Wi.str_keep h.row hg hw).trans hw
      exact ⟨⟨by rcases hx with rfl | rfl <;> assumption, (Array.getElem?_eq_some_iff.1 hW).1⟩, cell_of_row _ _ 0 _ _ _ hW⟩
    have : j - ll.length = 0 ∨ j - ll.length = 1 := by omega
    rcases this with e | e
    · exact ⟨h1, rcell ho (by rw [List.getElem?_append_right (by rw [h.len]; exact hj1), h.len, e]; rfl), hk h1 (.inl rfl)⟩
    · exact ⟨h2, rcell ho (by rw [List.getElem?_append_right (by rw [h.len]; exact hj1), h.len, e]; rfl), hk h2 (.inr rfl)⟩
end Go.Proofs
