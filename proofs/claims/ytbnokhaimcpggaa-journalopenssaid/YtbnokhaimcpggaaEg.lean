/-
  area.read.
-/
import Derived.Test.YtbnokhaimcpggaaEf
namespace Go.Proofs
open Go.RowKit Go.Dk
theorem Try.run_makeB (n : Nat) (hn : n < 1000000) (w : World) : (Instr.makeSlice 22 (.int .i64 n) (.int .i64 n)).run Try.prog w = .ok (.slice (some ⟨w.heap.size, 0, none⟩) n n) (w.alloc (.cells (Lib.byteCells (List.replicate n 0)).toArray 5)) := by
  obtain ⟨i0, hi0, hz0, hz1, hz2⟩ := info_parts Try.info_u8
  have := run_make (P := Try.prog) w 22 5 i0 _ Try.underlying22 hi0 hz0 .i64 .i64 n n (by omega) (by omega) (by rw [hz2]; omega) (by omega)
  rw [this, hz1]
  have e := Dk.made (Z := (Value.int .u8 0).cells) n (.int .u8 0) (by decide) (fun j hj => by
    have : j = 0 := by simp [Value.cells] at hj; omega
    subst this; rfl)
  rw [Dk.zeros] at e
  rw [← e, show ((n : Int)).toNat = n from rfl, Nat.mul_one]
/-- An area's box. -/
def Try.Box (w : World) (b x side : Nat) : Prop := w.heap[b]? = some (.cells #[.pointer (some ⟨x, 0, none⟩), .int .i64 side] 98 (0, 0))
theorem Try.Box.c0 {w : World} {b x side : Nat} (h : Try.Box w b x side) : w.cell? ⟨b, 0, none⟩ = some (.pointer (some ⟨x, 0, none⟩)) := by rw [cell_of_row _ _ _ _ _ _ h]; rfl
theorem Try.Box.c1 {w : World} {b x side : Nat} (h : Try.Box w b x side) : w.cell? ⟨b, 1, none⟩ = some (.int .i64 side) := by rw [cell_of_row _ _ _ _ _ _ h]; rfl
theorem Try.Box.below {w w' : World} {b x side : Nat} (h : Try.Box w b x side) (hb : Below w.heap.size w w') : Try.Box w' b x side := (hb.block b (Dk.block_lt h)).trans h
theorem Dk.ablk_lt {n side p : Nat} (_hn : n ≤ 4096) (hs : side ≤ 1) (hp : p < 64 * half n) : ablk n side p < n := by
  unfold ablk half at *
  rcases (show side = 0 ∨ side = 1 by omega) with rfl | rfl <;> omega
/-- The next bytes of an area. -/
theorem Dk.area_blk {v : List UInt8} {n side : Nat} (_hv : v.length = 64 * n) (_hs : side ≤ 1) {k : Nat} (hk : k < half n) : ((area v n side).drop (64 * k)).take 64 = blk v (ablk n side (64 * k)) := by
  apply List.ext_getElem?
  intro j
  unfold area ablk
  rw [List.getElem?_take, get_blk, List.getElem?_drop, List.getElem?_take, List.getElem?_drop, Nat.mul_div_cancel_left _ (by omega : 0 < 64)]
  by_cases hj : j < 64
  · rw [if_pos hj, if_pos hj, if_pos (by omega)]
    congr 1
    omega
  · rw [if_neg hj, if_neg hj]
theorem Dk.area_len {v : List UInt8} {n side : Nat} (hv : v.length = 64 * n) (hn : 2 ≤ n) (hs : side ≤ 1) : (area v n side).length = 64 * half n := by
  unfold area
  rw [List.length_take, List.length_drop, hv]
  unfold half
  rcases (show side = 0 ∨ side = 1 by omega) with rfl | rfl <;> omega
/-- What is read after k blocks. -/
def Dk.sofar (A : List UInt8) (m k : Nat) : List UInt8 := (A.take m).take (64 * k) ++ List.replicate (m - 64 * k) 0
theorem Dk.sofar_len {A : List UInt8} {m k : Nat} (hm : m ≤ A.length) : (Dk.sofar A m k).length = m := by
  unfold Dk.sofar
  rw [List.length_append, List.length_take, List.length_take, List.length_replicate]; omega
theorem Dk.sofar_next {A : List UInt8} {m k : Nat} (hm : m ≤ A.length) (hk : 64 * k < m) : Dk.splice (Lib.byteCells (Dk.sofar A m k)) (64 * k) (Lib.byteCells (((A.drop (64 * k)).take 64).take (m - 64 * k))) = Lib.byteCells (Dk.sofar A m (k + 1)) := by
  unfold Dk.splice
  have e1 : (Dk.sofar A m k).take (64 * k) = (A.take m).take (64 * k) := by
    unfold Dk.sofar
    rw [List.take_append_of_le_length (by rw [List.length_take, List.length_take]; omega), List.take_take, Nat.min_self]
  have hl : (((A.drop (64 * k)).take 64).take (m - 64 * k)).length = min (m - 64 * k) 64 := by
    rw [List.length_take, List.length_take, List.length_drop]; omega
  have e2 : (Dk.sofar A m k).drop (64 * k + min (m - 64 * k) 64) = List.replicate (m - 64 * (k + 1)) 0 := by
    unfold Dk.sofar
    rw [List.drop_append, List.drop_of_length_le (by rw [List.length_take, List.length_take]; omega), List.nil_append, List.length_take, List.length_take, List.drop_replicate]
    congr 1
    omega
  rw [Dk.byteCells_len, hl]
  simp only [Lib.byteCells, ← List.map_take, ← List.map_drop, ← List.map_append]
  rw [e1, e2]
  unfold Dk.sofar
  congr 2
  apply List.ext_getElem?
  intro j
  rw [List.getElem?_append, List.length_take, List.length_take]
  simp only [List.getElem?_take, List.getElem?_drop]
  rw [show min (64 * k) (min m A.length) = 64 * k by omega]
  by_cases h1 : j < 64 * k
  · rw [if_pos h1, if_pos h1, if_pos (by omega), if_pos (by omega)]
  · rw [if_neg h1]
    by_cases h2 : j < 64 * (k + 1)
    · by_cases h3 : j < m
      · rw [if_pos (by omega), if_pos (by omega), if_pos h2, if_pos h3]
        congr 1; omega
      · rw [if_neg (by omega), if_pos h2, if_neg h3]
    · rw [if_neg h2]
      split
      · rw [if_neg (by omega)]
      · rfl
theorem Try.copy_row {w : World} {g G P m c d : Nat} {C B : List UInt8} (hg : w.heap[g]? = some (.cells (Lib.byteCells C).toArray 5 (0, 0))) (hC : C.length = m) (hP : P ≤ m) (hB : w.heap[G]? = some (.cells (Lib.byteCells B).toArray 5 (0, 0))) (hBl : B.length = 64) (ty : TypeId) :
    (Builtin.copy_ #[22, 22] ty #[.slice (some ⟨g, P, none⟩) (m - P) c, .slice (some ⟨G, 0, none⟩) 64 d]).run Try.prog w = .ok (goInt (Lib.byteCells (B.take (m - P))).length) (w.setCells g P (Lib.byteCells (B.take (m - P)))) := by
  have hl : (B.take (m - P)).length = min (m - P) 64 := by rw [List.length_take, hBl]
  refine Try.copyB w ty g P (m - P) c G 0 64 d (B.take (m - P)) (by rw [hl]; show _ = min 64 (m - P); omega) (fun j u hj => ?_) (fun j hj => ?_) (fun j => frozen_of_row _ _ _ _ _ hg)
  · rw [Nat.zero_add, cell_of_row _ _ _ _ _ _ hB, List.getElem?_toArray]
    simp only [Lib.byteCells, List.map_take, List.getElem?_take] at hj ⊢
    split at hj
    · exact hj
    · cases hj
  · rw [cell_of_row _ _ _ _ _ _ hg, List.getElem?_toArray, List.getElem?_eq_getElem (by rw [Dk.byteCells_len]; omega)]; rfl
set_option maxRecDepth 20000 in
set_option maxHeartbeats 2000000 in
theorem Try.aread_any {w : World} {own : Nat → Prop} {x : Nat} {s : DS} (h : Try.Dsk w own x s) (hd : s.dead = false) (hn : 2 ≤ s.n) (side : Nat) (hs : side ≤ 1) (m : Nat) (hm : m ≤ 64 * half s.n) :
    Calls Try.prog 51 #[Dk.arV x side, .int .i64 m] w fun e w' =>
      ∃ g, e = .returned (.tuple #[.slice (some ⟨g, 0, none⟩) m m, .bool true]) ∧ w.heap.size ≤ g ∧ w'.heap[g]? = some (.cells (Lib.byteCells ((area s.view s.n side).take m)).toArray 5 (0, 0)) ∧ Below w.heap.size w w' := by
  obtain ⟨hvl, hn0, hn1⟩ := h.len
  have hhl := Dk.half_le hn1
  have hal := Dk.area_len hvl hn hs
  have hbk : ∀ W, Below w.heap.size w W → ∀ p : Nat, p < 1000000000 → Calls Try.prog 77 #[.agg #[.pointer (some ⟨x, 0, none⟩), .int .i64 side], .int .i64 p] W _ := fun W hW p hp => Try.ablock_any (h.below hW) hn side hs p hp
  have hrd : ∀ W, Below w.heap.size w W → ∀ i : Nat, i < s.n → Calls Try.prog 32 #[.pointer (some ⟨x, 0, none⟩), .int .i64 i] W _ := fun W hW i hi => by
    obtain ⟨l, t, V, hm, hf⟩ := (h.below hW).ex
    exact Try.read_ok hm rfl hd i hi
  have hbox0 : Try.Box (w.alloc (.cells #[.pointer (some ⟨x, 0, none⟩), .int .i64 side] 98)) w.heap.size x side := heap_alloc_new w _
  have hb0 := Dk.belowA w (.cells #[.pointer (some ⟨x, 0, none⟩), .int .i64 side] 98)
  have hmk := Try.run_makeB m (by omega) (w.alloc (.cells #[.pointer (some ⟨x, 0, none⟩), .int .i64 side] 98))
  obtain ⟨W1, hW1⟩ : ∃ W1, W1 = (w.alloc (.cells #[.pointer (some ⟨x, 0, none⟩), .int .i64 side] 98)).alloc (.cells (Lib.byteCells (List.replicate m 0)).toArray 5) := ⟨_, rfl⟩
  rw [← hW1] at hmk
  rw [show (w.alloc (.cells #[.pointer (some ⟨x, 0, none⟩), .int .i64 side] 98)).heap.size = w.heap.size + 1 by simp] at hmk
  have hb1 : Below w.heap.size w W1 := by rw [hW1]; exact hb0.trans ((Dk.belowA _ _).mono (by simp))
  have hbox1 : Try.Box W1 w.heap.size x side := by rw [hW1]; exact hbox0.below (Dk.belowA _ _)
  have hrow1 : W1.heap[w.heap.size + 1]? = some (.cells (Lib.byteCells (Dk.sofar (area s.view s.n side) m 0)).toArray 5 (0, 0)) := by
    rw [hW1]
    have := heap_alloc_new (w.alloc (.cells #[.pointer (some ⟨x, 0, none⟩), .int .i64 side] 98)) (.cells (Lib.byteCells (List.replicate m 0)).toArray 5)
    simpa [Dk.sofar] using this
  clear h hW1 hbox0 hb0
  unfold Dk.arV
  go_enter Try.func51, Try.ntmps51
  go_wp2_with (first
    | (refine Dk.wpList_make rfl 22 (.tmp 10) (.tmp 10) rfl rfl rfl hmk ?_)
    | fail)
  go_loopw [7] (fun i wr => ∃ k : Nat, 64 * k < m + 64 ∧ i = .int .i64 (64 * k : Nat) ∧ Try.Box wr w.heap.size x side ∧ wr.heap[w.heap.size + 1]? = some (.cells (Lib.byteCells (Dk.sofar (area s.view s.n side) m k)).toArray 5 (0, 0)) ∧ Below w.heap.size w wr) (fun i _ => m + 64 - (intOf i).toNat)
  case atStart => exact ⟨0, by omega, rfl, hbox1, hrow1, hb1⟩
  case round =>
    obtain ⟨k, hk, rfl, hbox, hrow, hbel⟩ := hrel
    clear hmk hb1 hbox1 hrow1 W1
    by_cases hkm : 64 * k < m
    · have hki : k < half s.n := by omega
      have hbl := Dk.ablk_lt (side := side) hn1 hs (p := 64 * k) (by omega)
      have hab := Dk.area_blk (side := side) hvl hs hki
      have hbb := blk_length hvl hbl
      have hnx := Dk.sofar_next (A := area s.view s.n side) (m := m) (k := k) (by omega) hkm
      rw [hab] at hnx
      have hsl := Dk.sofar_len (A := area s.view s.n side) (m := m) (k := k) (by omega)
      have hbk' := fun W hW => hbk W hW (64 * k) (by omega)
      have hrd' := fun W hW => hrd W hW _ hbl
      generalize ablk s.n side (64 * k) = I at *
      generalize blk s.view I = B at *
      generalize hP : 64 * k = P at *
      have c0 := hbox.c0
      have c1 := hbox.c1
      have hgs : w.heap.size + 1 < wr.heap.size := Dk.block_lt hrow
      clear hbk hrd hab hki hbl hal
      go_wp2
      go_region_with (first
        | (go_at_call 77; refine (hbk' _ (by first | exact hbel | exact hbel.drew)).mono ?_; rintro e w2 ⟨rfl, h2⟩; have hb2 : Below w.heap.size w w2 := hbel.drew.trans (h2.mono hbel.size); have d0 := Dk.cellB h2 (Dk.block_lt hbox) c0)
        | (go_at_call 32; refine (hrd' _ hb2).mono ?_; rintro e w3 ⟨rfl, h3, h3b⟩; have hcp := fun ty => Try.copy_row (c := m - P) (d := 64) (Eq.trans (h3b.block _ (Nat.lt_of_lt_of_le hgs h2.size)) (Eq.trans (h2.block _ hgs) hrow)) hsl (Nat.le_of_lt hkm) h3 hbb ty)
        | fail)
      all_goals
        have hb3 : Below w.heap.size w w3 := hb2.trans (h3b.mono hb2.size)
        have hbx3 : Try.Box w3 w.heap.size x side := ((hbox.below (Below.refl _ _).drew).below h2).below h3b
        have hrow3 : w3.heap[w.heap.size + 1]? = some (.cells (Lib.byteCells (Dk.sofar (area s.view s.n side) m k)).toArray 5 (0, 0)) := Eq.trans (h3b.block _ (Nat.lt_of_lt_of_le hgs h2.size)) (Eq.trans (h2.block _ hgs) hrow)
        have hset := Dk.heap_setCells (w.heap.size + 1) 5 (Lib.byteCells (B.take (m - P))) P w3 _ hrow3 (by rw [Dk.byteCells_len, Dk.byteCells_len, hsl, List.length_take]; omega)
        rw [hnx] at hset
        have hbs := (Dk.Wo.refl (fun k => w.heap.size ≤ k) w3).setCells (w.heap.size + 1) P (Lib.byteCells (B.take (m - P))) (.inl (by omega))
        clear hbk' hrd' hrow3 c0 c1 h3
        generalize hW4 : w3.setCells (w.heap.size + 1) P (Lib.byteCells (B.take (m - P))) = W4 at *
        go_wp2_with (at_builtin; refine wpList_copy_runI _ rfl _ _ 22 22 rfl _ _ rfl rfl (hcp _) ?_)
        go_roundw
        case rel =>
          refine ⟨k + 1, by omega, by rw [← hP]; go_num, ?_, hset, ?_⟩
          · have : W4.heap[w.heap.size]? = w3.heap[w.heap.size]? := by rw [← hW4]; exact (Dk.setCells_same _ _ _ _).2.2.2.2 _ (by omega)
            exact this.trans hbx3
          · exact hb3.trans ⟨hbs.os, hbs.tape, hbs.output, hbs.size, fun k hk => hbs.block k (Nat.lt_of_lt_of_le hk hb3.size) (by simpa using hk)⟩
        case measure => simp [intOf]; omega
    · have q0 : ¬ ((64 * k : Nat) : Int) < (m : Int) := by omega
      have e : Dk.sofar (area s.view s.n side) m k = (area s.view s.n side).take m := by
        unfold Dk.sofar
        rw [show m - 64 * k = 0 by omega, List.replicate_zero, List.append_nil, List.take_of_length_le (by rw [List.length_take]; omega)]
      rw [e] at hrow
      have HR : Hid (wr.heap[w.heap.size + 1]? = some (.cells (Lib.byteCells ((area s.view s.n side).take m)).toArray 5 (0, 0))) := hrow
      clear hbk hrd e hal hrow
      generalize 64 * k = P at *
      go_wp2
      go_ret2
      exact ⟨w.heap.size + 1, rfl, by omega, HR.out, hbel⟩
end Go.Proofs
