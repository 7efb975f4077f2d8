/-
  WireLists: still, its walk.
-/
import Derived.Test.YtdefebinnmimgaaWn
namespace Go.Proofs
open Go.RowKit Go.Wi
theorem Wi.dn (w : World) (a b : Nat) : (w.drewN a).drewN b = w.drewN (a + b) := by simp [World.drewN, Nat.add_assoc]
set_option maxRecDepth 100000 in
set_option maxHeartbeats 4000000 in
theorem Try.still_any {B : Nat} {w : World} {v lv : Value} {ll : List (List ByteArray)} (hL : Wi.Lent B w v ll) (h : Txs w lv ll) (hln : ll.length ≤ 214748364) (hin : ∀ l ∈ ll, l.length ≤ 214748364) :
    Calls Try.prog 30 #[v, lv] w fun e w' => e = .returned (.bool true) ∧ ∃ q, w' = w.drewN q := by
  obtain ⟨g, c, rfl, hc2, -, hits, hend⟩ := hL.ex
  obtain ⟨ad, cap, rfl, hcs⟩ := h.ex
  have HCS : Hid (∀ k (hk : k < ll.length), ∃ g o ua uc, ad = some ⟨g, o, none⟩ ∧ w.cell? ⟨g, o + k, none⟩ = some (.slice ua ll[k].length uc) ∧ ∀ i (hi : i < ll[k].length), ∃ ug uo, ua = some ⟨ug, uo, none⟩ ∧ w.cell? ⟨ug, uo + i, none⟩ = some (.string ll[k][i])) := fun k hk => by
    rcases hcs with rfl | ⟨g, o, e, hg, h2⟩
    · simp at hk
    · obtain ⟨u, h3, h4⟩ := h2 k hk
      obtain ⟨ua, uc, rfl, h5⟩ := h4.ex
      refine ⟨g, o, ua, uc, e, h3, fun i hi => ?_⟩
      rcases h5 with h5 | ⟨ug, uo, e2, -, h6⟩
      · rw [h5] at hi; simp at hi
      · exact ⟨ug, uo, e2, h6 i hi⟩
  have HI : Hid _ := hits
  have HE : Hid _ := hend
  have HN : Hid (∀ l ∈ ll, l.length ≤ 214748364) := hin
  have hcc : (ll.length : Int) + 2 ≤ (c : Int) := by omega
  clear hL h hits hend hcs hin hc2
  go_enter Try.func30, Try.ntmps30
  go_wp2
  go_loopw [6] (fun i wr => ∃ k q : Nat, k ≤ ll.length + 2 ∧ i = .int .i64 k ∧ wr = w.drewN q) (fun i _ => ll.length + 2 - (intOf i).toNat)
  case atStart => exact ⟨0, 0, Nat.zero_le _, rfl, rfl⟩
  case round =>
    obtain ⟨k, q, hk, rfl, rfl⟩ := hrel
    by_cases hkm : k < ll.length
    · have q0 : (k : Int) < (ll.length : Int) + 2 := by omega
      have q1 : ¬ (ll.length : Int) ≤ (k : Int) := by omega
      obtain ⟨gw, ow, ua, uc, rfl, cu, cus⟩ := HCS.out k hkm
      obtain ⟨gj, cj, ci, hcj, -, cis, cib⟩ := HI.out k hkm
      have hl1 := HN.out ll[k] (List.getElem_mem hkm)
      generalize ll[k] = l at *
      have HU : Hid (∀ i (hi : i < l.length), ∃ ug uo, ua = some ⟨ug, uo, none⟩ ∧ w.cell? ⟨ug, uo + i, none⟩ = some (.string l[i])) := cus
      have HJ : Hid (∀ i (hi : i < l.length), w.cell? ⟨gj, i, none⟩ = some (.string l[i])) := cis
      have HB : Hid (∀ i, l.length ≤ i → i < l.length + 2 → w.cell? ⟨gj, i, none⟩ = some (.string beh)) := cib
      have d1 : decide ((cj : Int) < (l.length : Int) + 2) = false := by simp; omega
      have d2 : (l.length : Int) + 2 ≤ (cj : Int) := by omega
      clear cus cis cib hcj
      go_wp2
      go_quiet (fail)
      go_wp2
      go_quiet (fail)
      go_wp2
      go_loopw [8] (fun i wx => ∃ j q' : Nat, j ≤ l.length + 2 ∧ i = .int .i64 j ∧ wx = w.drewN q') (fun i _ => l.length + 2 - (intOf i).toNat)
      case atStart => exact ⟨0, _, Nat.zero_le _, rfl, by rw [Wi.dn, Wi.dn]⟩
      case round =>
        obtain ⟨j, q', hj, rfl, rfl⟩ := hrel
        by_cases hjm : j < l.length
        · have q2 : (j : Int) < (l.length : Int) + 2 := by omega
          have c1 := HJ.out j hjm
          obtain ⟨ug, uo, rfl, c2⟩ := HU.out j hjm
          generalize l[j] = s at *
          have e1 : decide ((j : Int) < (l.length : Int)) = true := by simp; omega
          have e2 : decide (l.length ≤ j) = false := by simp; omega
          have e3 : (j : Int) < (l.length : Int) := by omega
          go_wp2
          go_quiet (fail)
          go_wp2
          go_roundw
          case rel => exact ⟨j + 1, _, by omega, by go_num, rfl⟩
          case measure => simp [intOf]; omega
        · by_cases hj2 : j < l.length + 2
          · have q2 : (j : Int) < (l.length : Int) + 2 := by omega
            have c1 : w.cell? ⟨gj, j, none⟩ = some (.string ⟨#[98, 101, 104, 105, 110, 100]⟩) := HB.out j (by omega) hj2
            have e1 : decide (j < l.length) = false := by simp; omega
            have e2 : decide (l.length ≤ j) = true := by simp; omega
            go_wp2
            go_quiet (fail)
            go_wp2
            go_roundw
            case rel => exact ⟨j + 1, _, by omega, by go_num, rfl⟩
            case measure => simp [intOf]; omega
          · have q2 : ¬ (j : Int) < (l.length : Int) + 2 := by omega
            go_wp2
            go_roundw
            case rel => exact ⟨k + 1, _, by omega, by go_num, rfl⟩
            case measure => simp [intOf]; omega
    · by_cases hk2 : k < ll.length + 2
      · have q0 : (k : Int) < (ll.length : Int) + 2 := by omega
        have q1 : (ll.length : Int) ≤ (k : Int) := by omega
        obtain ⟨x, c1, -, c2⟩ := HE.out k (by omega) hk2
        have c3 : w.cell? ⟨x, 0, none⟩ = some (.string ⟨#[98, 101, 104, 105, 110, 100]⟩) := c2
        clear c2
        go_wp2
        go_roundw
        case rel => exact ⟨k + 1, _, by omega, by go_num, rfl⟩
        case measure => simp [intOf]; omega
      · have q0 : ¬ (k : Int) < (ll.length : Int) + 2 := by omega
        go_wp2
        go_ret
        exact ⟨rfl, q, rfl⟩
end Go.Proofs
