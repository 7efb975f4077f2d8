/-
  counting.
-/
import Derived.Test.YtbnokhaimcpggaaEs
namespace Go.Proofs
open Go.RowKit Go.Dk
/-- A block's head as headIn's contract has it. -/
def Dk.Looks (s : DS) (k : Nat) (o : Option Hd) : Prop := (o = none ∧ (Hd.of (blk s.view k)).side ≤ 1 ∧ (Hd.of (blk s.view k)).gen < 1) ∨ (∃ H, o = some H ∧ headIn s.view s.n k = some H)
def Dk.heads (a b : Option Hd) : Option Hd :=
  match a, b with
  | some a, none => some a
  | some a, some b => if b.gen < a.gen then some a else some b
  | none, o => o
def Dk.hdO2 : Option Hd → Hd
  | none => ⟨0, 0, 0, 0⟩
  | some H => H
theorem Try.head_cells {W : World} {b : Nat} {H : Hd} (h : W.heap[b]? = some (Dk.hdO H 91)) : W.cell? ⟨b, 0, none⟩ = some (.int .i64 H.side) ∧ W.cell? ⟨b, 1, none⟩ = some (.int .u32 H.gen) ∧ W.cell? ⟨b, 2, none⟩ = some (.int .u32 H.size) ∧ W.cell? ⟨b, 3, none⟩ = some (.int .u32 H.sum) := by
  refine ⟨?_, ?_, ?_, ?_⟩ <;> (rw [cell_of_row _ _ _ _ _ _ h]; rfl)
set_option maxRecDepth 20000 in
set_option maxHeartbeats 1000000 in
theorem Try.counting_any {w : World} {own : Nat → Prop} {x : Nat} {s : DS} (h : Try.Dsk w own x s) (hd : s.dead = false) (hn : 8 ≤ s.n) (a b : Option Hd) (ha : Dk.Looks s 0 a) (hb : Dk.Looks s 1 b) :
    Calls Try.prog 46 #[.pointer (some ⟨x, 0, none⟩)] w fun r w' => r = .returned (.tuple #[Dk.hdV (Dk.hdO2 (Dk.heads a b)), .bool (Dk.heads a b).isSome]) ∧ Below w.heap.size w w' := by
  have hi : ∀ W, Below w.heap.size w W → ∀ (k : Nat) (o : Option Hd), k ≤ 1 → Dk.Looks s k o → Calls Try.prog 72 #[.pointer (some ⟨x, 0, none⟩), .int .i64 k] W fun r w' => r = .returned (.tuple #[.agg #[.int .i64 (Dk.hdO2 o).side, .int .u32 (Dk.hdO2 o).gen, .int .u32 (Dk.hdO2 o).size, .int .u32 (Dk.hdO2 o).sum], .bool o.isSome]) ∧ Below W.heap.size W w' := fun W hW k o hk ho => by
    refine (Try.headIn_any (h.below hW) hd hn k hk o ho).mono fun r w' ⟨h1, h2⟩ => ⟨?_, h2⟩
    cases o <;> exact h1
  have hb0 := Dk.belowA w (Dk.hdO ⟨0, 0, 0, 0⟩ 91)
  have hr0 := heap_alloc_new w (Dk.hdO ⟨0, 0, 0, 0⟩ 91)
  have hi0 := hi _ hb0 0 a (by omega) ha
  obtain ⟨A, hA⟩ : ∃ A, A = Dk.hdO2 a := ⟨_, rfl⟩
  obtain ⟨B, hB⟩ : ∃ B, B = Dk.hdO2 b := ⟨_, rfl⟩
  rw [← hA] at hi0
  have hi1 : ∀ W, Below w.heap.size w W → Calls Try.prog 72 #[.pointer (some ⟨x, 0, none⟩), .int .i64 1] W _ := fun W hW => hi W hW 1 b (by omega) hb
  rw [← hB] at hi1
  obtain ⟨R, hR⟩ : ∃ R, R = Dk.hdO2 (Dk.heads a b) := ⟨_, rfl⟩
  obtain ⟨t, ht⟩ : ∃ t, t = (Dk.heads a b).isSome := ⟨_, rfl⟩
  obtain ⟨ta, hta⟩ : ∃ t, t = a.isSome := ⟨_, rfl⟩
  obtain ⟨tb, htb⟩ : ∃ t, t = b.isSome := ⟨_, rfl⟩
  rw [← hta] at hi0
  rw [← htb] at hi1
  have hcase : (ta = true ∧ tb = false ∧ R = A ∧ t = true) ∨ (ta = true ∧ tb = true ∧ B.gen < A.gen ∧ R = A ∧ t = true) ∨ (ta = true ∧ tb = true ∧ ¬ B.gen < A.gen ∧ R = B ∧ t = true) ∨ (ta = false ∧ R = B ∧ t = tb) := by
    cases a <;> cases b
    · exact .inr (.inr (.inr ⟨hta, by rw [hR, hB]; rfl, by rw [ht, htb]; rfl⟩))
    · exact .inr (.inr (.inr ⟨hta, by rw [hR, hB]; rfl, by rw [ht, htb]; rfl⟩))
    · exact .inl ⟨hta, htb, by rw [hR, hA]; rfl, ht⟩
    · rename_i a b
      by_cases hg : b.gen < a.gen
      · exact .inr (.inl ⟨hta, htb, by rw [hA, hB]; exact hg, by rw [hR, hA]; simp [Dk.heads, hg, Dk.hdO2], by rw [ht]; simp [Dk.heads, hg]⟩)
      · exact .inr (.inr (.inl ⟨hta, htb, by rw [hA, hB]; exact hg, by rw [hR, hB]; simp [Dk.heads, hg, Dk.hdO2], by rw [ht]; simp [Dk.heads, hg]⟩))
  rw [← hR, ← ht]
  clear hR ht hta htb hA hB ha hb hi h
  unfold Dk.hdO at hb0 hr0
  go_enter Try.func46, Try.ntmps46
  go_upto_region 2 with (first
    | (go_at_call 72; refine hi0.mono ?_; clear hi0; rintro r w2 ⟨rfl, h2⟩)
    | fail)
  have hb2 : Below w.heap.size w w2 := hb0.trans (h2.mono hb0.size)
  have hr2 := (h2.block _ (by simp)).trans hr0
  have hs2 : w.heap.size < w2.heap.size := Dk.block_lt hr2
  have hg3 := heap_alloc_new w2 (Dk.hdO A 91)
  have hb3 := Dk.belowA w2 (Dk.hdO A 91)
  have hb3w := hb2.trans (hb3.mono hb2.size)
  have hr3 := (hb3.block _ hs2).trans hr2
  unfold Dk.hdO at hb3 hg3 hb3w hr3
  generalize hW3 : w2.alloc (.cells #[.int .i64 A.side, .int .u32 A.gen, .int .u32 A.size, .int .u32 A.sum] 91) = W3 at *
  have hi1' := hi1 _ hb3w
  have hs3 : W3.heap.size = w2.heap.size + 1 := by rw [← hW3]; simp
  clear hi1 hb0 hr0 h2 hb2 hr2 hb3 hW3
  go_upto_region 3 with (first
    | (go_at_call 72; refine hi1'.mono ?_; clear hi1'; rintro r w4 ⟨rfl, h4⟩)
    | fail)
  have hb4 : Below w.heap.size w w4 := hb3w.trans (h4.mono hb3w.size)
  have hg4 := (h4.block _ (Dk.block_lt hg3)).trans hg3
  have hr4 := (h4.block _ (Dk.block_lt hr3)).trans hr3
  have hs4 := h4.size
  have hg5 := heap_alloc_new w4 (Dk.hdO B 91)
  have hb5 := Dk.belowA w4 (Dk.hdO B 91)
  have hb5w := hb4.trans (hb5.mono hb4.size)
  have hr5 := (hb5.block _ (Dk.block_lt hr4)).trans hr4
  have ha5 := (hb5.block _ (Dk.block_lt hg4)).trans hg4
  have hne : w.heap.size ≠ w2.heap.size := by omega
  have hne4 : w.heap.size ≠ w4.heap.size := by omega
  unfold Dk.hdO at hb5 hg5 hb5w hr5 ha5
  generalize hW5 : w4.alloc (.cells #[.int .i64 B.side, .int .u32 B.gen, .int .u32 B.size, .int .u32 B.sum] 91) = W5 at *
  obtain ⟨a0, a1, a2, a3⟩ := Try.head_cells (H := A) ha5
  obtain ⟨c0, c1, c2, c3⟩ := Try.head_cells (H := B) hg5
  obtain ⟨r0, r1, r2, r3⟩ := Try.head_cells (H := ⟨0, 0, 0, 0⟩) hr5
  have rf0 : W5.frozen? ⟨w.heap.size, 0, none⟩ = false := frozen_of_row _ _ _ _ _ hr5
  have rf1 : W5.frozen? ⟨w.heap.size, 1, none⟩ = false := frozen_of_row _ _ _ _ _ hr5
  have rf2 : W5.frozen? ⟨w.heap.size, 2, none⟩ = false := frozen_of_row _ _ _ _ _ hr5
  have rf3 : W5.frozen? ⟨w.heap.size, 3, none⟩ = false := frozen_of_row _ _ _ _ _ hr5
  have hset : ∀ H : Hd, (loadVar 91 ⟨w.heap.size, 0, none⟩).run Try.prog ((((W5.setCell ⟨w.heap.size, 0, none⟩ (.int .i64 H.side)).setCell ⟨w.heap.size, 1, none⟩ (.int .u32 H.gen)).setCell ⟨w.heap.size, 2, none⟩ (.int .u32 H.size)).setCell ⟨w.heap.size, 3, none⟩ (.int .u32 H.sum)) = .ok (Dk.hdV H) ((((W5.setCell ⟨w.heap.size, 0, none⟩ (.int .i64 H.side)).setCell ⟨w.heap.size, 1, none⟩ (.int .u32 H.gen)).setCell ⟨w.heap.size, 2, none⟩ (.int .u32 H.size)).setCell ⟨w.heap.size, 3, none⟩ (.int .u32 H.sum)) ∧ Below w.heap.size w ((((W5.setCell ⟨w.heap.size, 0, none⟩ (.int .i64 H.side)).setCell ⟨w.heap.size, 1, none⟩ (.int .u32 H.gen)).setCell ⟨w.heap.size, 2, none⟩ (.int .u32 H.size)).setCell ⟨w.heap.size, 3, none⟩ (.int .u32 H.sum)) := fun H =>
    ⟨Try.ret_head (Dk.set4 _ _ _ _ hr5), (((hb5w.setCell (by simp) _).setCell (by simp) _).setCell (by simp) _).setCell (by simp) _⟩
  clear hr5 ha5 hg5 hg4 hr4 hg3 hr3 hW5 h4
  rcases hcase with ⟨rfl, rfl, rfl, rfl⟩ | ⟨rfl, rfl, hg, rfl, rfl⟩ | ⟨rfl, rfl, hg, rfl, rfl⟩ | ⟨rfl, rfl, rfl⟩
  · obtain ⟨hl, hbf⟩ := hset R
    clear hset
    go_wp2
    refine bodyPost_ret (v := .tuple #[Dk.hdV R, .bool true]) (by simp [results, Try.results46, asAddr, hl]) rfl ?_
    exact ⟨rfl, hbf⟩
  · obtain ⟨hl, hbf⟩ := hset R
    clear hset
    have qg : (B.gen : Int) < (R.gen : Int) := by omega
    have qd : decide ((B.gen : Int) < (R.gen : Int)) = true := by simp; omega
    go_wp2
    refine bodyPost_ret (v := .tuple #[Dk.hdV R, .bool true]) (by simp [results, Try.results46, asAddr, hl]) rfl ?_
    exact ⟨rfl, hbf⟩
  · obtain ⟨hl, hbf⟩ := hset R
    clear hset
    have qg : ¬ (R.gen : Int) < (A.gen : Int) := by omega
    have qd : decide ((R.gen : Int) < (A.gen : Int)) = false := by simp; omega
    go_wp2
    refine bodyPost_ret (v := .tuple #[Dk.hdV R, .bool true]) (by simp [results, Try.results46, asAddr, hl]) rfl ?_
    exact ⟨rfl, hbf⟩
  · obtain ⟨hl, hbf⟩ := hset R
    clear hset
    go_wp2
    refine bodyPost_ret (v := .tuple #[Dk.hdV R, .bool t]) (by simp [results, Try.results46, asAddr, hl]) rfl ?_
    exact ⟨rfl, hbf⟩
end Go.Proofs
