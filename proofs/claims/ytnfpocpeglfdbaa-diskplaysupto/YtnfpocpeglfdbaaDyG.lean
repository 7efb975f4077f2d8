/-
  What the program's disk refuses; the document's Copy.
-/
import Derived.Test.YtnfpocpeglfdbaaDyF
import Derived.Test.YtnfpocpeglfdbaaDu
namespace Go.Proofs
open Go.RowKit Go.Dk
theorem Try.read_no {w : World} {x l t : Nat} {V : Value} {s : DS} {T : List Nat} (h : Try.Mem w x l t V s T) (hd : s.dead = false) (i : Int) (hi : ¬ (0 ≤ i ∧ i < s.n)) :
    Calls Try.prog 25 #[.pointer (some ⟨x, 0, none⟩), .int .i64 i] w fun e w' => e = .returned (.tuple #[.slice none 0 0, .int .i64 40]) ∧ w' = w := by
  have c3 : w.cell? ⟨x, 3, none⟩ = some (.bool s.dead) := h.c0 3 _ rfl
  rw [hd] at c3
  have hha := Try.has_any h i
  rw [decide_eq_false hi] at hha
  clear h hi
  go_enter Try.func25, Try.ntmps25
  go_wp2_with (first | (go_at_call 46; refine hha.mono ?_; clear hha; rintro e w1 ⟨rfl, rfl⟩) | fail)
  go_ret2
  exact ⟨rfl, rfl⟩
theorem Try.write_dead {w : World} {x l t : Nat} {V : Value} {s : DS} {T : List Nat} (h : Try.Mem w x l t V s T) (hd : s.dead = true) (i : Int) (v : Value) :
    Calls Try.prog 29 #[.pointer (some ⟨x, 0, none⟩), .int .i64 i, v] w fun e w' => e = .returned (.int .i64 41) ∧ w' = w := by
  have c3 : w.cell? ⟨x, 3, none⟩ = some (.bool s.dead) := h.c0 3 _ rfl
  rw [hd] at c3
  clear h
  go_enter Try.func29, Try.ntmps29
  go_wp2
  go_ret
  exact ⟨rfl, rfl⟩
set_option maxRecDepth 4000 in
theorem Try.write_no {w : World} {x l t : Nat} {V : Value} {s : DS} {T : List Nat} (h : Try.Mem w x l t V s T) (hd : s.dead = false) (i : Int) (ad : Option Addr) (n cap : Nat) (hi : ¬ (0 ≤ i ∧ i < s.n) ∨ 64 < n) :
    Calls Try.prog 29 #[.pointer (some ⟨x, 0, none⟩), .int .i64 i, .slice ad n cap] w fun e w' => e = .returned (.int .i64 40) ∧ w' = w := by
  have c3 : w.cell? ⟨x, 3, none⟩ = some (.bool s.dead) := h.c0 3 _ rfl
  rw [hd] at c3
  have hha := Try.has_any h i
  have Hi : Hid (¬ (0 ≤ i ∧ i < s.n) ∨ 64 < n) := hi
  clear h hi
  by_cases h0 : (0 ≤ i ∧ i < s.n)
  · have h2 : (64 : Int) < (n : Int) := by have := Hi.out; omega
    rw [decide_eq_true h0] at hha
    clear h0
    go_enter Try.func29, Try.ntmps29
    go_wp2_with (first | (go_at_call 46; refine hha.mono ?_; clear hha; rintro e w1 ⟨rfl, rfl⟩) | fail)
    go_ret
    exact ⟨rfl, rfl⟩
  · rw [decide_eq_false h0] at hha
    clear h0
    go_enter Try.func29, Try.ntmps29
    go_wp2_with (first | (go_at_call 46; refine hha.mono ?_; clear hha; rintro e w1 ⟨rfl, rfl⟩) | fail)
    go_ret
    exact ⟨rfl, rfl⟩
theorem Try.sync_dead {w : World} {x l t : Nat} {V : Value} {s : DS} {T : List Nat} (h : Try.Mem w x l t V s T) (hd : s.dead = true) :
    Calls Try.prog 12 #[.pointer (some ⟨x, 0, none⟩)] w fun e w' => e = .returned (.int .i64 41) ∧ w' = w := by
  have c3 : w.cell? ⟨x, 3, none⟩ = some (.bool s.dead) := h.c0 3 _ rfl
  rw [hd] at c3
  clear h
  go_enter Try.func12, Try.ntmps12
  go_wp2
  go_ret
  exact ⟨rfl, rfl⟩
theorem Try.fuse_dead {w : World} {x l t : Nat} {V : Value} {s : DS} {T : List Nat} (h : Try.Mem w x l t V s T) (hd : s.dead = true) (n k c : Int) :
    Calls Try.prog 14 #[.pointer (some ⟨x, 0, none⟩), .int .i64 n, .agg #[.int .i64 k, .int .i64 c]] w fun e w' => e = .returned (.int .i64 41) ∧ Below w.heap.size w w' := by
  have c3 : w.cell? ⟨x, 3, none⟩ = some (.bool s.dead) := h.c0 3 _ rfl
  rw [hd] at c3
  have hxl : x < w.heap.size := Dk.block_lt h.hx
  have d3 : ∀ o, (w.alloc o).cell? ⟨x, 3, none⟩ = some (.bool true) := fun o => (((Below.refl w.heap.size w).alloc (Nat.le_refl _) o).cell (p := ⟨x, 3, none⟩) hxl).trans c3
  clear h hxl
  go_enter Try.func14, Try.ntmps14
  go_wp2
  go_ret
  exact ⟨rfl, by first | exact Below.refl _ _ | exact (Below.refl _ w).alloc (Nat.le_refl _) _⟩
theorem Try.fuse_neg {w : World} {x l t : Nat} {V : Value} {s : DS} {T : List Nat} (h : Try.Mem w x l t V s T) (hd : s.dead = false) (n k c : Int) (hn : n < 0) :
    Calls Try.prog 14 #[.pointer (some ⟨x, 0, none⟩), .int .i64 n, .agg #[.int .i64 k, .int .i64 c]] w fun e w' => e = .returned (.int .i64 1) ∧ Below w.heap.size w w' := by
  have c3 : w.cell? ⟨x, 3, none⟩ = some (.bool s.dead) := h.c0 3 _ rfl
  rw [hd] at c3
  have hxl : x < w.heap.size := Dk.block_lt h.hx
  have d3 : ∀ o, (w.alloc o).cell? ⟨x, 3, none⟩ = some (.bool false) := fun o => (((Below.refl w.heap.size w).alloc (Nat.le_refl _) o).cell (p := ⟨x, 3, none⟩) hxl).trans c3
  clear h hxl
  go_enter Try.func14, Try.ntmps14
  go_wp2
  go_ret
  exact ⟨rfl, by first | exact Below.refl _ _ | exact (Below.refl _ w).alloc (Nat.le_refl _) _⟩
theorem Try.crash_dead {w : World} {x l t : Nat} {V : Value} {s : DS} {T : List Nat} (h : Try.Mem w x l t V s T) (hd : s.dead = true) (k c : Int) :
    Calls Try.prog 16 #[.pointer (some ⟨x, 0, none⟩), .agg #[.int .i64 k, .int .i64 c]] w fun e w' => e = .returned (.int .i64 41) ∧ Below w.heap.size w w' := by
  have c3 : w.cell? ⟨x, 3, none⟩ = some (.bool s.dead) := h.c0 3 _ rfl
  rw [hd] at c3
  have hxl : x < w.heap.size := Dk.block_lt h.hx
  have d3 : ∀ o, (w.alloc o).cell? ⟨x, 3, none⟩ = some (.bool true) := fun o => (((Below.refl w.heap.size w).alloc (Nat.le_refl _) o).cell (p := ⟨x, 3, none⟩) hxl).trans c3
  clear h hxl
  go_enter Try.func16, Try.ntmps16
  go_wp2
  go_ret
  exact ⟨rfl, by first | exact Below.refl _ _ | exact (Below.refl _ w).alloc (Nat.le_refl _) _⟩
end Go.Proofs
