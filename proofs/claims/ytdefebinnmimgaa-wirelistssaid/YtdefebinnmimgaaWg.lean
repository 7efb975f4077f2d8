/-
  WireLists: many.
-/
import Derived.Test.YtdefebinnmimgaaWf
namespace Go.Proofs
open Go.RowKit Go.Wi
/-- What many answers. -/
def Wi.ManyOk (ll : List (List ByteArray)) (e : Ending) : Prop := ∃ b, e = .returned (.bool b) ∧ (b = false → yw ll ≤ 2147483647)
set_option maxRecDepth 100000 in
set_option maxHeartbeats 2000000 in
theorem Try.many_any {w : World} {lv : Value} {ll : List (List ByteArray)} (h : Txs w lv ll) (hlen : ll.length ≤ 140737488355328) (hin : ∀ l ∈ ll, l.length ≤ 140737488355328) (hz : ∀ l ∈ ll, ∀ s ∈ l, s.size ≤ 140737488355328) :
    Calls Try.prog 24 #[lv] w fun e w' => Wi.ManyOk ll e ∧ w' = w := by
  obtain ⟨ad, cap, rfl, hcs⟩ := h.ex
  have HCS : Hid _ := hcs
  have HIN : Hid (∀ l ∈ ll, l.length ≤ 140737488355328) := hin
  have HZ : Hid (∀ l ∈ ll, ∀ s ∈ l, s.size ≤ 140737488355328) := hz
  clear h hcs hin hz
  go_enter Try.func24, Try.ntmps24
  go_wp2
  go_loopw [3, 4] (fun n i wr => ∃ k : Nat, k ≤ ll.length ∧ i = .int .i64 k ∧ n = .int .i64 (yw (ll.take k) : Nat) ∧ yw (ll.take k) ≤ 2147483647 + 10 * k ∧ wr = w) (fun _ i _ => ll.length - (intOf i).toNat)
  case atStart => exact ⟨0, Nat.zero_le _, rfl, by simp [yw], by simp [yw], rfl⟩
  case round =>
    obtain ⟨k, hk, rfl, rfl, hb, rfl⟩ := hrel
    by_cases hkm : k < ll.length
    · have q0 : (k : Int) < (ll.length : Int) := by omega
      obtain ⟨g, o, rfl, hu⟩ : ∃ g o, ad = some ⟨g, o, none⟩ ∧ ∃ u, wr.cell? ⟨g, o + k, none⟩ = some u ∧ Tx wr u ll[k] := by
        rcases HCS.out with rfl | ⟨g, o, e, -, h2⟩
        · simp at hkm
        · exact ⟨g, o, e, h2 k hkm⟩
      obtain ⟨u, cu, hT⟩ := hu
      obtain ⟨ua, uc, rfl, hus⟩ := hT.ex
      have hl1 := HIN.out ll[k] (List.getElem_mem hkm)
      have HZ1 : Hid (∀ s ∈ ll[k], s.size ≤ 140737488355328) := HZ.out ll[k] (List.getElem_mem hkm)
      have Hst : Hid (yw (ll.take (k + 1)) = yw (ll.take k) + (10 + xw ll[k])) := (by
        show _ = _
        rw [← List.take_append_getElem hkm, yw_app, yw_one])
      generalize ll[k] = m at *
      generalize yw (ll.take k) = N at *
      have HUS : Hid (∀ j (hj : j < m.length), ∃ g o, ua = some ⟨g, o, none⟩ ∧ wr.cell? ⟨g, o + j, none⟩ = some (.string m[j])) := fun j hj => by
        rcases hus with rfl | ⟨g, o, e, -, h2⟩
        · simp at hj
        · exact ⟨g, o, e, h2 j hj⟩
      clear hus hT
      go_wp2
      go_loopw [3, 5] (fun n i wx => ∃ j : Nat, j ≤ m.length ∧ i = .int .i64 j ∧ n = .int .i64 ((N + 10 + xw (m.take j) : Nat) : Int) ∧ N + 10 + xw (m.take j) ≤ 2147483647 + 10 * (k + 1) ∧ wx = wr) (fun _ i _ => m.length - (intOf i).toNat)
      case atStart => exact ⟨0, Nat.zero_le _, rfl, by simp [xw], by simp [xw]; omega, rfl⟩
      case round =>
        obtain ⟨j, hj, rfl, rfl, hb2, rfl⟩ := hrel
        by_cases hjm : j < m.length
        · have q1 : (j : Int) < (m.length : Int) := by omega
          obtain ⟨ug, uo, rfl, cs⟩ := HUS.out j hjm
          have hs := HZ1.out m[j] (List.getElem_mem hjm)
          have Hs2 : Hid (xw (m.take (j + 1)) = xw (m.take j) + (10 + m[j].size)) := (by
            show _ = _
            rw [← List.take_append_getElem hjm, xw_app, xw_one])
          generalize m[j] = s at *
          generalize xw (m.take j) = X at *
          by_cases hgt : 2147483647 < N + 10 + X + (10 + s.size)
          · have q2 : (2147483647 : Int) < (N + 10 + X : Nat) + 10 + (s.size : Int) := by omega
            go_wp2
            go_ret
            exact ⟨⟨true, rfl, fun h => by cases h⟩, rfl⟩
          · have q2 : ¬ (2147483647 : Int) < (N + 10 + X : Nat) + 10 + (s.size : Int) := by omega
            go_wp2
            go_roundw
            case rel => exact ⟨j + 1, by omega, by go_num, by rw [Hs2.out]; go_num, by rw [Hs2.out]; omega, by trivial⟩
            case measure => simp [intOf]; omega
        · have q1 : ¬ (j : Int) < (m.length : Int) := by omega
          obtain rfl : j = m.length := by omega
          rw [List.take_length] at hb2 ⊢
          go_wp2
          go_roundw
          case rel => exact ⟨k + 1, by omega, by go_num, by rw [Hst.out]; go_num, by rw [Hst.out]; omega, by trivial⟩
          case measure => simp [intOf]; omega
    · have q0 : ¬ (k : Int) < (ll.length : Int) := by omega
      obtain rfl : k = ll.length := by omega
      rw [List.take_length] at hb ⊢
      go_wp2
      go_ret
      exact ⟨⟨_, rfl, fun h => by have h := of_decide_eq_false h; omega⟩, rfl⟩
end Go.Proofs
