import Derived.Test.YtjfhpgafglmhdabDoorWord
import Derived.Test.YtjfhpgafglmhdabDoorShelf
import Derived.Laws.Rows
namespace Go.Proofs
open Go.RowKit
/-- The package-level tables as they were laid. -/
def Tryd.Tabs (w : World) : Prop := (∃ t fz, w.heap[0]? = some (.cells Sg.letterCells t fz)) ∧ Lib.Utf8Tabs 1 2 w
theorem Tryd.Tabs.below {w w' : World} (h : Tryd.Tabs w) (hb : Below w.heap.size w w') : Tryd.Tabs w' := by
  obtain ⟨⟨t, fz, h0⟩, h1⟩ := h
  refine ⟨⟨t, fz, ?_⟩, Utf8Tabs_below h1 hb⟩
  rw [hb.block 0 (Array.getElem?_eq_some_iff.1 h0).1]
  exact h0
set_option maxRecDepth 100000 in
theorem Tryd.idx (w : World) : ∀ k : Nat, k < 19 → (Instr.index 95 (.agg Sg.letterCells) (.int .i64 (k : Int))).run Tryd.prog w = .ok (.agg #[.int .i32 (Sg.rowF k), .int .i32 (Sg.rowL k), .int .i32 (Sg.rowS k), .int .i32 (Sg.rowP k)]) w
  | 0, _ => by kernel_rfl
  | 1, _ => by kernel_rfl
  | 2, _ => by kernel_rfl
  | 3, _ => by kernel_rfl
  | 4, _ => by kernel_rfl
  | 5, _ => by kernel_rfl
  | 6, _ => by kernel_rfl
  | 7, _ => by kernel_rfl
  | 8, _ => by kernel_rfl
  | 9, _ => by kernel_rfl
  | 10, _ => by kernel_rfl
  | 11, _ => by kernel_rfl
  | 12, _ => by kernel_rfl
  | 13, _ => by kernel_rfl
  | 14, _ => by kernel_rfl
  | 15, _ => by kernel_rfl
  | 16, _ => by kernel_rfl
  | 17, _ => by kernel_rfl
  | 18, _ => by kernel_rfl
  | k + 19, h => by omega
set_option maxRecDepth 1000 in
set_option maxHeartbeats 1000000 in
theorem Tryd.small_any (r : Int) (h0 : -2147483648 ≤ r) (h1 : r ≤ 2147483647) (w : World) (hT : Tryd.Tabs w) :
    Calls Tryd.prog 45 #[.int .i32 r] w fun e w' => e = .returned (.int .i32 (Sg.small r)) ∧ Below w.heap.size w w' := by
  obtain ⟨⟨t, fz, hg⟩, _⟩ := hT
  go_enter Tryd.func45, Tryd.ntmps45
  go_wp2_with (refine wpList_load_row rfl 95 _ rfl 0 rfl t _ fz _ hg Tryd.underlying95 rfl (by kernel_rfl) ?_)
  go_loopw [6] (fun i wr => ∃ k : Nat, k ≤ 19 ∧ i = .int .i64 k ∧ Below w.heap.size w wr ∧ Sg.smallGo (19 - k) k r = Sg.small r) (fun i _ => 19 - (intOf i).toNat)
  case atStart => exact ⟨0, by omega, rfl, Below.refl _ _, rfl⟩
  case round =>
    obtain ⟨k, hk, rfl, hb, hs⟩ := hrel
    by_cases hlt : k < 19
    · have hidx := Tryd.idx wr k hlt
      obtain ⟨f1, f2, f3, f4, f5, f6, f7⟩ := Sg.row_facts k hlt
      have hat := Sg.smallGo_at k hlt r
      rw [hs] at hat
      have Hat : Hid (Sg.small r = _) := hat
      clear hat hs
      by_cases c1 : r < Sg.rowF k
      · go_wp2
        go_ret
        exact ⟨Sg.ret_int (by rw [Hat.out, if_pos c1]), hb.alloc hb.size _⟩
      · by_cases c2 : r ≤ Sg.rowL k
        · go_wp2
          · go_ret
            exact ⟨Sg.ret_int (by rw [Hat.out, if_neg (by omega), if_pos ⟨c2, by simpa using ‹((r - Sg.rowF k) % Sg.rowS k == 0) = true›⟩]), hb.alloc hb.size _⟩
          · go_roundw
            case rel => exact ⟨k + 1, by omega, by go_num, hb.alloc hb.size _, by rw [Hat.out, if_neg (by omega), if_neg (fun h => by have := ‹((r - Sg.rowF k) % Sg.rowS k == 0) = false›; simp [h.2] at this)]⟩
            case measure => simp [intOf]; omega
        · go_wp2
          go_roundw
          case rel => exact ⟨k + 1, by omega, by go_num, hb.alloc hb.size _, by rw [Hat.out, if_neg (by omega), if_neg (by omega)]⟩
          case measure => simp [intOf]; omega
    · obtain rfl : k = 19 := by omega
      go_wp2
      go_ret
      exact ⟨Sg.ret_int hs, hb⟩
end Go.Proofs
