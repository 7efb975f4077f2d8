/-
  Laid together by packg.py of OpA OpB.
-/
import Derived.Test.YtbnokhaimcpggaaEt
import Derived.Test.YtbnokhaimcpggaaEw
namespace Go.Dk
section
variable {P : Program} {ops : Array Oper} {C : World → Prop} {Q : Act → Prop} {a : Act} {o : Oper} {rest : List Oper}
theorem q_valW {v : Value} (hw : Region.wanted o (yielded ops a.tmps) = true) (he : ∀ w, C w → (execOp a.eval o).run P w = .ok (.value v) w) (hK : wpQuiet P ops C Q rest (a.put o.dst v)) : wpQuiet P ops C Q (o :: rest) a := by
  unfold wpQuiet
  rw [if_pos hw]
  refine ⟨v, fun w hw => ?_, hK⟩
  unfold Oper.quietAt
  rw [he w hw]
  exact ⟨rfl, rfl⟩
theorem q_callW {v : Value} {f : FuncId} {args : Array Value} (hw : Region.wanted o (yielded ops a.tmps) = true) (he : ∀ w, C w → (execOp a.eval o).run P w = .ok (.enter f args) w) (hc : ∀ w, C w → Calls P f args w fun e w' => e = .returned v ∧ C w') (hK : wpQuiet P ops C Q rest (a.put o.dst v)) : wpQuiet P ops C Q (o :: rest) a := by
  unfold wpQuiet
  rw [if_pos hw]
  refine ⟨v, fun w hw => ?_, hK⟩
  unfold Oper.quietAt
  rw [he w hw]
  exact ⟨rfl, hc w hw⟩
theorem q_no (h : Region.wanted o (yielded ops a.tmps) = false) (hK : wpQuiet P ops C Q rest (a.put o.dst undef)) : wpQuiet P ops C Q (o :: rest) a := by
  unfold wpQuiet
  rw [if_neg (by rw [h]; decide)]
  exact hK
theorem run_load {t : TypeId} {p : Operand} {pv v : Value} {w w' : World} (ho : o.op = .load t p) (hp : a.eval p = pv) (h : (Instr.loadAt t pv).run P w = .ok v w') : (execOp a.eval o).run P w = .ok (.value v) w' := by
  unfold execOp
  rw [ho]
  simp only [hp, Sem.run_bind, h, Result.andThen, Sem.run_pure]
theorem run_arr {t : TypeId} {x : Operand} {xv v : Value} {w w' : World} (ho : o.op = .sliceToArrayPointer t x) (hx : a.eval x = xv) (h : (Instr.arrayAt t xv).run P w = .ok v w') : (execOp a.eval o).run P w = .ok (.value v) w' := by
  unfold execOp
  rw [ho]
  simp only [hx, Sem.run_bind, h, Result.andThen, Sem.run_pure]
end
theorem headIn_why {v : List UInt8} {n k : Nat} (h : headIn v n k = none) :
    1 < (Hd.of (blk v k)).side ∨ (Hd.of (blk v k)).gen < 1 ∨ 999999999 < (Hd.of (blk v k)).gen ∨ (Hd.of (blk v k)).gen % 2 ≠ k ∨ (Hd.of (blk v k)).bytes ≠ blk v k ∨ 64 * half n < (Hd.of (blk v k)).size ∨ fnv ((area v n (Hd.of (blk v k)).side).take (Hd.of (blk v k)).size) ≠ (Hd.of (blk v k)).sum := by
  unfold headIn headS at h
  by_cases c : 1 < (Hd.of (blk v k)).side ∨ (Hd.of (blk v k)).gen < 1 ∨ 999999999 < (Hd.of (blk v k)).gen ∨ (Hd.of (blk v k)).gen % 2 ≠ k ∨ (Hd.of (blk v k)).bytes ≠ blk v k
  · rcases c with c | c | c | c | c
    · exact .inl c
    · exact .inr (.inl c)
    · exact .inr (.inr (.inl c))
    · exact .inr (.inr (.inr (.inl c)))
    · exact .inr (.inr (.inr (.inr (.inl c))))
  · rw [if_neg c] at h
    simp only at h
    by_cases c2 : 64 * half n < (Hd.of (blk v k)).size
    · exact .inr (.inr (.inr (.inr (.inr (.inl c2)))))
    · rw [if_neg c2] at h
      by_cases c3 : fnv ((area v n (Hd.of (blk v k)).side).take (Hd.of (blk v k)).size) ≠ (Hd.of (blk v k)).sum
      · exact .inr (.inr (.inr (.inr (.inr (.inr c3)))))
      · rw [if_neg c3] at h; cases h
end Go.Dk
namespace Go.Proofs
open Go.RowKit Go.Dk
set_option maxRecDepth 20000 in
set_option maxHeartbeats 8000000 in
theorem Try.headIn_none {w : World} {own : Nat → Prop} {x : Nat} {s : DS} (h : Try.Dsk w own x s) (hd : s.dead = false) (hn : 8 ≤ s.n) (k : Nat) (hk : k ≤ 1) (hnone : headIn s.view s.n k = none) :
    Calls Try.prog 72 #[.pointer (some ⟨x, 0, none⟩), .int .i64 k] w fun r w' => r = .returned (.tuple #[Dk.hdV ⟨0, 0, 0, 0⟩, .bool false]) ∧ Below w.heap.size w w' := by
  have hno := headIn_why hnone
  clear hnone
  obtain ⟨hvl, hn0, hn1⟩ := h.len
  have hbl := blk_length hvl (show k < s.n by omega)
  have hrd : ∀ W, Below w.heap.size w W → Calls Try.prog 32 #[.pointer (some ⟨x, 0, none⟩), .int .i64 k] W _ := fun W hW => by
    obtain ⟨l, t, V, hm, hf⟩ := (h.below hW).ex
    exact Try.read_ok hm rfl hd k (by omega)
  obtain ⟨B, hB⟩ : ∃ B, B = blk s.view k := ⟨_, rfl⟩
  rw [← hB] at hbl hrd
  have hol := of_lt B
  obtain ⟨D, hD⟩ : ∃ D, D = Hd.of B := ⟨_, rfl⟩
  have hb0 := Dk.belowA w (Dk.hdO ⟨0, 0, 0, 0⟩ 91)
  have hres0 := heap_alloc_new w (Dk.hdO ⟨0, 0, 0, 0⟩ 91)
  have hres0 := heap_alloc_new w (Dk.hdO ⟨0, 0, 0, 0⟩ 91)
  unfold Dk.hdO at hb0 hres0
  have n8 : ∀ W, Try.Q4 (w.heap.size + 1) B W → ∀ c, Calls Try.prog 91 #[.slice (some ⟨w.heap.size + 1, 8, none⟩) 4 c] W fun e w' => e = .returned (.int .u32 D.gen) ∧ w' = W := fun W hW c => by rw [hD]; exact Try.Q4.num hW hbl 8 c (by omega)
  have n12 : ∀ W, Try.Q4 (w.heap.size + 1) B W → ∀ c, Calls Try.prog 91 #[.slice (some ⟨w.heap.size + 1, 12, none⟩) 4 c] W fun e w' => e = .returned (.int .u32 D.size) ∧ w' = W := fun W hW c => by rw [hD]; exact Try.Q4.num hW hbl 12 c (by omega)
  have n16 : ∀ W, Try.Q4 (w.heap.size + 1) B W → ∀ c, Calls Try.prog 91 #[.slice (some ⟨w.heap.size + 1, 16, none⟩) 4 c] W fun e w' => e = .returned (.int .u32 D.sum) ∧ w' = W := fun W hW c => by rw [hD]; exact Try.Q4.num hW hbl 16 c (by omega)
  have hc6 : ∀ W, Try.Q4 (w.heap.size + 1) B W → W.cell? ⟨w.heap.size + 1, 6, none⟩ = some (.int .u8 (D.side : Nat)) := fun W hW => by rw [hD]; exact hW.c6 hbl
  rw [← hB, ← hD] at hno
  rw [← hD] at hol
  have HD : Hid (D = Hd.of B) := hD
  have HB : Hid (B = blk s.view k) := hB
  clear hB hD
  have hrd0 := hrd _ hb0
  go_enter Try.func72, Try.ntmps72
  go_wp2_with (go_at_call 32; refine hrd0.mono ?_; clear hrd0; rintro r w2 ⟨rfl, h2, hb2⟩)
  have q2 : Try.Q4 (w.heap.size + 1) B w2 := by have := h2; simp at this; exact this
  have hsz2 : w.heap.size + 1 < w2.heap.size := Dk.block_lt q2
  have hbw2 : Below w.heap.size w w2 := hb0.trans (hb2.mono (by simp))
  have hre2 := (hb2.block _ (by simp)).trans hres0
  clear h2 hb2 hres0 hb0
  go_cut [8] (fun p wx => ∃ Hb, p = .pointer (some ⟨Hb, 0, none⟩) ∧ w.heap.size + 1 < Hb ∧ wx.heap[Hb]? = some (Dk.hdO D 91) ∧ Try.Q4 (w.heap.size + 1) B wx ∧ wx.heap[w.heap.size]? = some (Dk.hdO ⟨0, 0, 0, 0⟩ 91) ∧ Below w.heap.size w wx)
  case first =>
    have qd := q2.drew
    have c6 := hc6 _ q2
    have qa := (q2.drew).alloc (.cells #[.int .i64 0, .int .u32 0, .int .u32 0, .int .u32 0] 91)
    have ca := hc6 _ qa
    have hdb := (Below.refl w2.heap.size w2).drew
    go_region_held3 (fun W => W.cell? ⟨w.heap.size + 1, 6, none⟩ = some (.int .u8 (D.side : Nat)) ∧ Try.Q4 (w.heap.size + 1) B W) (first | exact ⟨c6, qd⟩ | exact ⟨ca, qa⟩ | assumption | exact ⟨hc6 _ ((q2.drew).alloc _), (q2.drew).alloc _⟩) (first
      | (go_at_call 91; refine (n8 _ (by assumption) _).mono ?_; clear n8; rintro r w4 ⟨rfl, rfl⟩)
      | (go_at_call 91; refine (n12 _ (by assumption) _).mono ?_; clear n12; rintro r w4 ⟨rfl, rfl⟩)
      | (go_at_call 91; refine (n16 _ (by assumption) _).mono ?_; clear n16; rintro r w4 ⟨rfl, rfl⟩))
    all_goals
      go_wp2
      go_meet
      case rel =>
        have u1 : IntKind.i64.wrap (D.side : Int) = (D.side : Int) := by rw [IntKind.wrap_i64]; omega
        rw [u1]
        exact ⟨w2.heap.size, rfl, hsz2, heap_alloc_new w2 _, q2.alloc _, ((Dk.belowA w2 _).block _ (by omega)).trans hre2, (hbw2.trans ((Dk.belowA w2 _).mono hbw2.size)).drew⟩
  case rest =>
    obtain ⟨Hb, rfl, hHb, hh, q3, hre3, hb3⟩ := hcut
    clear n8 n12 n16 hre2 hbw2 q2 hsz2
    unfold Dk.hdO at hh hre3
    have e0 : wc.cell? ⟨Hb, 0, none⟩ = some (.int .i64 D.side) := by rw [cell_of_row _ _ _ _ _ _ hh]; rfl
    have e1 : wc.cell? ⟨Hb, 1, none⟩ = some (.int .u32 D.gen) := by rw [cell_of_row _ _ _ _ _ _ hh]; rfl
    have e2 : wc.cell? ⟨Hb, 2, none⟩ = some (.int .u32 D.size) := by rw [cell_of_row _ _ _ _ _ _ hh]; rfl
    have e3 : wc.cell? ⟨Hb, 3, none⟩ = some (.int .u32 D.sum) := by rw [cell_of_row _ _ _ _ _ _ hh]; rfl
    have r0 : wc.cell? ⟨w.heap.size, 0, none⟩ = some (.int .i64 0) := by rw [cell_of_row _ _ _ _ _ _ hre3]; rfl
    have r1 : wc.cell? ⟨w.heap.size, 1, none⟩ = some (.int .u32 0) := by rw [cell_of_row _ _ _ _ _ _ hre3]; rfl
    have r2 : wc.cell? ⟨w.heap.size, 2, none⟩ = some (.int .u32 0) := by rw [cell_of_row _ _ _ _ _ _ hre3]; rfl
    have r3 : wc.cell? ⟨w.heap.size, 3, none⟩ = some (.int .u32 0) := by rw [cell_of_row _ _ _ _ _ _ hre3]; rfl
    have rf : ∀ j, wc.frozen? ⟨w.heap.size, j, none⟩ = false := fun j => frozen_of_row _ _ _ _ _ hre3
    have hhl := Dk.half_le hn1
    have hpl : ∀ W, Calls Try.prog 92 #[Dk.hdV D] W _ := fun W => Try.place_any W D (by omega)
    unfold Dk.hdV at hpl
    obtain ⟨M, hM⟩ : ∃ M, M = D.gen % 2 := ⟨_, rfl⟩
    rw [← hM] at hpl hno
    clear hM
    have hra : wc.rangeAt (w.heap.size + 1) 0 (Lib.byteCells B) := fun j v hj => by rw [Nat.zero_add, cell_of_row _ _ _ _ _ _ q3, List.getElem?_toArray]; exact hj
    have hcl : (Lib.byteCells B).length = 64 := by rw [Dk.byteCells_len, hbl]
    have hin : (Try.prog.info? 134).map (·.size) = some (Lib.byteCells B).length := by rw [hcl]; exact Try.size_block
    have hun := Try.underlying134
    have hcc := Below.refl wc.heap.size wc
    have hHl := Dk.block_lt hh
    have hGl := Dk.block_lt q3
    have hrs : ∀ W, Below wc.heap.size wc W → W.heap[w.heap.size]? = some (.cells #[.int .i64 0, .int .u32 0, .int .u32 0, .int .u32 0] 91 (0, 0)) := fun W hW => (hW.block _ (by omega)).trans hre3
    have hcase : ∃ t : Bool, (t = true ∧ 1 < D.side) ∨ (t = true ∧ D.side ≤ 1 ∧ D.gen < 1) ∨ (t = true ∧ D.side ≤ 1 ∧ 1 ≤ D.gen ∧ 999999999 < D.gen) ∨ (t = true ∧ D.side ≤ 1 ∧ 1 ≤ D.gen ∧ D.gen ≤ 999999999 ∧ M ≠ k) ∨ (t = true ∧ D.side ≤ 1 ∧ 1 ≤ D.gen ∧ D.gen ≤ 999999999 ∧ M = k ∧ D.bytes ≠ B) ∨ (t = false ∧ D.side ≤ 1 ∧ 1 ≤ D.gen ∧ D.gen ≤ 999999999 ∧ M = k ∧ D.bytes = B) := by
      by_cases c1 : 1 < D.side
      · exact ⟨true, .inl ⟨rfl, c1⟩⟩
      by_cases c2 : D.gen < 1
      · exact ⟨true, .inr (.inl ⟨rfl, by omega, c2⟩)⟩
      by_cases c3 : 999999999 < D.gen
      · exact ⟨true, .inr (.inr (.inl ⟨rfl, by omega, by omega, c3⟩))⟩
      by_cases c4 : M = k
      · by_cases c5 : D.bytes = B
        · exact ⟨false, .inr (.inr (.inr (.inr (.inr ⟨rfl, by omega, by omega, by omega, c4, c5⟩))))⟩
        · exact ⟨true, .inr (.inr (.inr (.inr (.inl ⟨rfl, by omega, by omega, by omega, c4, c5⟩))))⟩
      · exact ⟨true, .inr (.inr (.inr (.inl ⟨rfl, by omega, by omega, by omega, c4⟩)))⟩
    obtain ⟨t, hcase⟩ := hcase
    have hfalse : t = false → D.side ≤ 1 ∧ (64 * half s.n < D.size ∨ (D.size ≤ 64 * half s.n ∧ fnv ((area s.view s.n D.side).take D.size) ≠ D.sum)) := fun e => by
      subst e
      rcases hcase with ⟨e, -⟩ | ⟨e, -⟩ | ⟨e, -⟩ | ⟨e, -⟩ | ⟨e, -⟩ | ⟨-, c1, c2, c3, c4, c5⟩
      · cases e
      · cases e
      · cases e
      · cases e
      · cases e
      · refine ⟨c1, ?_⟩
        by_cases c6 : 64 * half s.n < D.size
        · exact .inl c6
        · refine .inr ⟨by omega, ?_⟩
          rcases hno with c | c | c | c | c | c | c
          · omega
          · omega
          · omega
          · exact absurd c4 c
          · exact absurd c5 c
          · exact absurd c c6
          · exact c
    have HF : Hid (t = false → D.side ≤ 1 ∧ (64 * half s.n < D.size ∨ (D.size ≤ 64 * half s.n ∧ fnv ((area s.view s.n D.side).take D.size) ≠ D.sum))) := hfalse
    clear hno hfalse
    go_wp2
    go_cut [61] (fun c wx => c = .bool t ∧ Below wc.heap.size wc wx)
    case first =>
      clear hrd h hc6 r0 r1 r2 r3 rf HF
      rcases hcase with ⟨rfl, c1⟩ | ⟨rfl, c1, c2⟩ | ⟨rfl, c1, c2, c3⟩ | ⟨rfl, c1, c2, c3, c4⟩ | ⟨rfl, c1, c2, c3, c4, c5⟩ | ⟨rfl, c1, c2, c3, c4, c5⟩
      · have d1 : decide ((1 : Int) < (D.side : Int)) = true := by simp; omega
        refine wp_region_quiet (C := fun W => Below wc.heap.size wc W) (by kernel_rfl) (by kernel_rfl) ⟨rfl, rfl, rfl, Nat.le_refl _, fun _ _ => rfl⟩ ?_
        dsimp only
        refine Go.Dk.q_valW (v := .pointer (some ⟨Hb, 0, none⟩)) (by kernel_rfl) (fun W _ => by go_simp) ?_
        try simp only [Act.put, List.setIfInBounds_toArray, List.set_cons_zero, List.set_cons_succ]
        refine Go.Dk.q_valW (v := .int .i64 D.side) (by kernel_rfl) (fun W hW => by have c := Dk.cellB hW hHl e0; go_simp) ?_
        try simp only [Act.put, List.setIfInBounds_toArray, List.set_cons_zero, List.set_cons_succ]
        refine Go.Dk.q_valW (v := .bool true) (by kernel_rfl) (fun W _ => by go_simp) ?_
        try simp only [Act.put, List.setIfInBounds_toArray, List.set_cons_zero, List.set_cons_succ]
        refine Go.Dk.q_valW (v := .bool true) (by kernel_rfl) (fun _ _ => by kernel_rfl) ?_
        try simp only [Act.put, List.setIfInBounds_toArray, List.set_cons_zero, List.set_cons_succ]
        refine Go.Dk.q_no (by kernel_rfl) ?_
        try simp only [Act.put, List.setIfInBounds_toArray, List.set_cons_zero, List.set_cons_succ]
        refine Go.Dk.q_no (by kernel_rfl) ?_
        try simp only [Act.put, List.setIfInBounds_toArray, List.set_cons_zero, List.set_cons_succ]
        refine Go.Dk.q_no (by kernel_rfl) ?_
        try simp only [Act.put, List.setIfInBounds_toArray, List.set_cons_zero, List.set_cons_succ]
        refine Go.Dk.q_valW (v := .bool true) (by kernel_rfl) (fun _ _ => by kernel_rfl) ?_
        try simp only [Act.put, List.setIfInBounds_toArray, List.set_cons_zero, List.set_cons_succ]
        refine Go.Dk.q_valW (v := .bool true) (by kernel_rfl) (fun _ _ => by kernel_rfl) ?_
        try simp only [Act.put, List.setIfInBounds_toArray, List.set_cons_zero, List.set_cons_succ]
        refine Go.Dk.q_no (by kernel_rfl) ?_
        try simp only [Act.put, List.setIfInBounds_toArray, List.set_cons_zero, List.set_cons_succ]
        refine Go.Dk.q_no (by kernel_rfl) ?_
        try simp only [Act.put, List.setIfInBounds_toArray, List.set_cons_zero, List.set_cons_succ]
        refine Go.Dk.q_no (by kernel_rfl) ?_
        try simp only [Act.put, List.setIfInBounds_toArray, List.set_cons_zero, List.set_cons_succ]
        refine Go.Dk.q_valW (v := .bool true) (by kernel_rfl) (fun _ _ => by kernel_rfl) ?_
        try simp only [Act.put, List.setIfInBounds_toArray, List.set_cons_zero, List.set_cons_succ]
        refine Go.Dk.q_valW (v := .bool true) (by kernel_rfl) (fun _ _ => by kernel_rfl) ?_
        try simp only [Act.put, List.setIfInBounds_toArray, List.set_cons_zero, List.set_cons_succ]
        refine Go.Dk.q_no (by kernel_rfl) ?_
        try simp only [Act.put, List.setIfInBounds_toArray, List.set_cons_zero, List.set_cons_succ]
        refine Go.Dk.q_no (by kernel_rfl) ?_
        try simp only [Act.put, List.setIfInBounds_toArray, List.set_cons_zero, List.set_cons_succ]
        refine Go.Dk.q_no (by kernel_rfl) ?_
        try simp only [Act.put, List.setIfInBounds_toArray, List.set_cons_zero, List.set_cons_succ]
        refine Go.Dk.q_no (by kernel_rfl) ?_
        try simp only [Act.put, List.setIfInBounds_toArray, List.set_cons_zero, List.set_cons_succ]
        refine Go.Dk.q_valW (v := .bool true) (by kernel_rfl) (fun _ _ => by kernel_rfl) ?_
        try simp only [Act.put, List.setIfInBounds_toArray, List.set_cons_zero, List.set_cons_succ]
        refine Go.Dk.q_valW (v := .bool true) (by kernel_rfl) (fun _ _ => by kernel_rfl) ?_
        try simp only [Act.put, List.setIfInBounds_toArray, List.set_cons_zero, List.set_cons_succ]
        refine Go.Dk.q_no (by kernel_rfl) ?_
        try simp only [Act.put, List.setIfInBounds_toArray, List.set_cons_zero, List.set_cons_succ]
        refine Go.Dk.q_no (by kernel_rfl) ?_
        try simp only [Act.put, List.setIfInBounds_toArray, List.set_cons_zero, List.set_cons_succ]
        refine Go.Dk.q_no (by kernel_rfl) ?_
        try simp only [Act.put, List.setIfInBounds_toArray, List.set_cons_zero, List.set_cons_succ]
        refine Go.Dk.q_no (by kernel_rfl) ?_
        try simp only [Act.put, List.setIfInBounds_toArray, List.set_cons_zero, List.set_cons_succ]
        refine Go.Dk.q_no (by kernel_rfl) ?_
        try simp only [Act.put, List.setIfInBounds_toArray, List.set_cons_zero, List.set_cons_succ]
        refine Go.Dk.q_no (by kernel_rfl) ?_
        try simp only [Act.put, List.setIfInBounds_toArray, List.set_cons_zero, List.set_cons_succ]
        refine Go.Dk.q_valW (v := .bool true) (by kernel_rfl) (fun _ _ => by kernel_rfl) ?_
        try simp only [Act.put, List.setIfInBounds_toArray, List.set_cons_zero, List.set_cons_succ]
        refine wpQuiet_nil ?_
        intro W hWx
        go_wp2
        go_meet
        case rel => exact ⟨rfl, hWx⟩
      · have d1 : decide ((1 : Int) < (D.side : Int)) = false := by simp; omega
        have d2 : decide ((D.gen : Int) < 1) = true := by simp; omega
        refine wp_region_quiet (C := fun W => Below wc.heap.size wc W) (by kernel_rfl) (by kernel_rfl) ⟨rfl, rfl, rfl, Nat.le_refl _, fun _ _ => rfl⟩ ?_
        dsimp only
        refine Go.Dk.q_valW (v := .pointer (some ⟨Hb, 0, none⟩)) (by kernel_rfl) (fun W _ => by go_simp) ?_
        try simp only [Act.put, List.setIfInBounds_toArray, List.set_cons_zero, List.set_cons_succ]
        refine Go.Dk.q_valW (v := .int .i64 D.side) (by kernel_rfl) (fun W hW => by have c := Dk.cellB hW hHl e0; go_simp) ?_
        try simp only [Act.put, List.setIfInBounds_toArray, List.set_cons_zero, List.set_cons_succ]
        refine Go.Dk.q_valW (v := .bool false) (by kernel_rfl) (fun W _ => by go_simp) ?_
        try simp only [Act.put, List.setIfInBounds_toArray, List.set_cons_zero, List.set_cons_succ]
        refine Go.Dk.q_valW (v := .bool false) (by kernel_rfl) (fun _ _ => by kernel_rfl) ?_
        try simp only [Act.put, List.setIfInBounds_toArray, List.set_cons_zero, List.set_cons_succ]
        refine Go.Dk.q_valW (v := .pointer (some ⟨Hb, 1, none⟩)) (by kernel_rfl) (fun W _ => by go_simp) ?_
        try simp only [Act.put, List.setIfInBounds_toArray, List.set_cons_zero, List.set_cons_succ]
        refine Go.Dk.q_valW (v := .int .u32 D.gen) (by kernel_rfl) (fun W hW => by have c := Dk.cellB hW hHl e1; go_simp) ?_
        try simp only [Act.put, List.setIfInBounds_toArray, List.set_cons_zero, List.set_cons_succ]
        refine Go.Dk.q_valW (v := .bool true) (by kernel_rfl) (fun W _ => by go_simp) ?_
        try simp only [Act.put, List.setIfInBounds_toArray, List.set_cons_zero, List.set_cons_succ]
        refine Go.Dk.q_valW (v := .bool true) (by kernel_rfl) (fun _ _ => by kernel_rfl) ?_
        try simp only [Act.put, List.setIfInBounds_toArray, List.set_cons_zero, List.set_cons_succ]
        refine Go.Dk.q_valW (v := .bool true) (by kernel_rfl) (fun _ _ => by kernel_rfl) ?_
        try simp only [Act.put, List.setIfInBounds_toArray, List.set_cons_zero, List.set_cons_succ]
        refine Go.Dk.q_no (by kernel_rfl) ?_
        try simp only [Act.put, List.setIfInBounds_toArray, List.set_cons_zero, List.set_cons_succ]
        refine Go.Dk.q_no (by kernel_rfl) ?_
        try simp only [Act.put, List.setIfInBounds_toArray, List.set_cons_zero, List.set_cons_succ]
        refine Go.Dk.q_no (by kernel_rfl) ?_
        try simp only [Act.put, List.setIfInBounds_toArray, List.set_cons_zero, List.set_cons_succ]
        refine Go.Dk.q_valW (v := .bool true) (by kernel_rfl) (fun _ _ => by kernel_rfl) ?_
        try simp only [Act.put, List.setIfInBounds_toArray, List.set_cons_zero, List.set_cons_succ]
        refine Go.Dk.q_valW (v := .bool true) (by kernel_rfl) (fun _ _ => by kernel_rfl) ?_
        try simp only [Act.put, List.setIfInBounds_toArray, List.set_cons_zero, List.set_cons_succ]
        refine Go.Dk.q_no (by kernel_rfl) ?_
        try simp only [Act.put, List.setIfInBounds_toArray, List.set_cons_zero, List.set_cons_succ]
        refine Go.Dk.q_no (by kernel_rfl) ?_
        try simp only [Act.put, List.setIfInBounds_toArray, List.set_cons_zero, List.set_cons_succ]
        refine Go.Dk.q_no (by kernel_rfl) ?_
        try simp only [Act.put, List.setIfInBounds_toArray, List.set_cons_zero, List.set_cons_succ]
        refine Go.Dk.q_no (by kernel_rfl) ?_
        try simp only [Act.put, List.setIfInBounds_toArray, List.set_cons_zero, List.set_cons_succ]
        refine Go.Dk.q_valW (v := .bool true) (by kernel_rfl) (fun _ _ => by kernel_rfl) ?_
        try simp only [Act.put, List.setIfInBounds_toArray, List.set_cons_zero, List.set_cons_succ]
        refine Go.Dk.q_valW (v := .bool true) (by kernel_rfl) (fun _ _ => by kernel_rfl) ?_
        try simp only [Act.put, List.setIfInBounds_toArray, List.set_cons_zero, List.set_cons_succ]
        refine Go.Dk.q_no (by kernel_rfl) ?_
        try simp only [Act.put, List.setIfInBounds_toArray, List.set_cons_zero, List.set_cons_succ]
        refine Go.Dk.q_no (by kernel_rfl) ?_
        try simp only [Act.put, List.setIfInBounds_toArray, List.set_cons_zero, List.set_cons_succ]
        refine Go.Dk.q_no (by kernel_rfl) ?_
        try simp only [Act.put, List.setIfInBounds_toArray, List.set_cons_zero, List.set_cons_succ]
        refine Go.Dk.q_no (by kernel_rfl) ?_
        try simp only [Act.put, List.setIfInBounds_toArray, List.set_cons_zero, List.set_cons_succ]
        refine Go.Dk.q_no (by kernel_rfl) ?_
        try simp only [Act.put, List.setIfInBounds_toArray, List.set_cons_zero, List.set_cons_succ]
        refine Go.Dk.q_no (by kernel_rfl) ?_
        try simp only [Act.put, List.setIfInBounds_toArray, List.set_cons_zero, List.set_cons_succ]
        refine Go.Dk.q_valW (v := .bool true) (by kernel_rfl) (fun _ _ => by kernel_rfl) ?_
        try simp only [Act.put, List.setIfInBounds_toArray, List.set_cons_zero, List.set_cons_succ]
        refine wpQuiet_nil ?_
        intro W hWx
        go_wp2
        go_meet
        case rel => exact ⟨rfl, hWx⟩
      · have d1 : decide ((1 : Int) < (D.side : Int)) = false := by simp; omega
        have d2 : decide ((D.gen : Int) < 1) = false := by simp; omega
        have d3 : decide ((999999999 : Int) < (D.gen : Int)) = true := by simp; omega
        refine wp_region_quiet (C := fun W => Below wc.heap.size wc W) (by kernel_rfl) (by kernel_rfl) ⟨rfl, rfl, rfl, Nat.le_refl _, fun _ _ => rfl⟩ ?_
        dsimp only
        refine Go.Dk.q_valW (v := .pointer (some ⟨Hb, 0, none⟩)) (by kernel_rfl) (fun W _ => by go_simp) ?_
        try simp only [Act.put, List.setIfInBounds_toArray, List.set_cons_zero, List.set_cons_succ]
        refine Go.Dk.q_valW (v := .int .i64 D.side) (by kernel_rfl) (fun W hW => by have c := Dk.cellB hW hHl e0; go_simp) ?_
        try simp only [Act.put, List.setIfInBounds_toArray, List.set_cons_zero, List.set_cons_succ]
        refine Go.Dk.q_valW (v := .bool false) (by kernel_rfl) (fun W _ => by go_simp) ?_
        try simp only [Act.put, List.setIfInBounds_toArray, List.set_cons_zero, List.set_cons_succ]
        refine Go.Dk.q_valW (v := .bool false) (by kernel_rfl) (fun _ _ => by kernel_rfl) ?_
        try simp only [Act.put, List.setIfInBounds_toArray, List.set_cons_zero, List.set_cons_succ]
        refine Go.Dk.q_valW (v := .pointer (some ⟨Hb, 1, none⟩)) (by kernel_rfl) (fun W _ => by go_simp) ?_
        try simp only [Act.put, List.setIfInBounds_toArray, List.set_cons_zero, List.set_cons_succ]
        refine Go.Dk.q_valW (v := .int .u32 D.gen) (by kernel_rfl) (fun W hW => by have c := Dk.cellB hW hHl e1; go_simp) ?_
        try simp only [Act.put, List.setIfInBounds_toArray, List.set_cons_zero, List.set_cons_succ]
        refine Go.Dk.q_valW (v := .bool false) (by kernel_rfl) (fun W _ => by go_simp) ?_
        try simp only [Act.put, List.setIfInBounds_toArray, List.set_cons_zero, List.set_cons_succ]
        refine Go.Dk.q_valW (v := .bool false) (by kernel_rfl) (fun _ _ => by kernel_rfl) ?_
        try simp only [Act.put, List.setIfInBounds_toArray, List.set_cons_zero, List.set_cons_succ]
        refine Go.Dk.q_valW (v := .bool false) (by kernel_rfl) (fun _ _ => by kernel_rfl) ?_
        try simp only [Act.put, List.setIfInBounds_toArray, List.set_cons_zero, List.set_cons_succ]
        refine Go.Dk.q_valW (v := .pointer (some ⟨Hb, 1, none⟩)) (by kernel_rfl) (fun W _ => by go_simp) ?_
        try simp only [Act.put, List.setIfInBounds_toArray, List.set_cons_zero, List.set_cons_succ]
        refine Go.Dk.q_valW (v := .int .u32 D.gen) (by kernel_rfl) (fun W hW => by have c := Dk.cellB hW hHl e1; go_simp) ?_
        try simp only [Act.put, List.setIfInBounds_toArray, List.set_cons_zero, List.set_cons_succ]
        refine Go.Dk.q_valW (v := .bool true) (by kernel_rfl) (fun W _ => by go_simp) ?_
        try simp only [Act.put, List.setIfInBounds_toArray, List.set_cons_zero, List.set_cons_succ]
        refine Go.Dk.q_valW (v := .bool true) (by kernel_rfl) (fun _ _ => by kernel_rfl) ?_
        try simp only [Act.put, List.setIfInBounds_toArray, List.set_cons_zero, List.set_cons_succ]
        refine Go.Dk.q_valW (v := .bool true) (by kernel_rfl) (fun _ _ => by kernel_rfl) ?_
        try simp only [Act.put, List.setIfInBounds_toArray, List.set_cons_zero, List.set_cons_succ]
        refine Go.Dk.q_no (by kernel_rfl) ?_
        try simp only [Act.put, List.setIfInBounds_toArray, List.set_cons_zero, List.set_cons_succ]
        refine Go.Dk.q_no (by kernel_rfl) ?_
        try simp only [Act.put, List.setIfInBounds_toArray, List.set_cons_zero, List.set_cons_succ]
        refine Go.Dk.q_no (by kernel_rfl) ?_
        try simp only [Act.put, List.setIfInBounds_toArray, List.set_cons_zero, List.set_cons_succ]
        refine Go.Dk.q_no (by kernel_rfl) ?_
        try simp only [Act.put, List.setIfInBounds_toArray, List.set_cons_zero, List.set_cons_succ]
        refine Go.Dk.q_valW (v := .bool true) (by kernel_rfl) (fun _ _ => by kernel_rfl) ?_
        try simp only [Act.put, List.setIfInBounds_toArray, List.set_cons_zero, List.set_cons_succ]
        refine Go.Dk.q_valW (v := .bool true) (by kernel_rfl) (fun _ _ => by kernel_rfl) ?_
        try simp only [Act.put, List.setIfInBounds_toArray, List.set_cons_zero, List.set_cons_succ]
        refine Go.Dk.q_no (by kernel_rfl) ?_
        try simp only [Act.put, List.setIfInBounds_toArray, List.set_cons_zero, List.set_cons_succ]
        refine Go.Dk.q_no (by kernel_rfl) ?_
        try simp only [Act.put, List.setIfInBounds_toArray, List.set_cons_zero, List.set_cons_succ]
        refine Go.Dk.q_no (by kernel_rfl) ?_
        try simp only [Act.put, List.setIfInBounds_toArray, List.set_cons_zero, List.set_cons_succ]
        refine Go.Dk.q_no (by kernel_rfl) ?_
        try simp only [Act.put, List.setIfInBounds_toArray, List.set_cons_zero, List.set_cons_succ]
        refine Go.Dk.q_no (by kernel_rfl) ?_
        try simp only [Act.put, List.setIfInBounds_toArray, List.set_cons_zero, List.set_cons_succ]
        refine Go.Dk.q_no (by kernel_rfl) ?_
        try simp only [Act.put, List.setIfInBounds_toArray, List.set_cons_zero, List.set_cons_succ]
        refine Go.Dk.q_valW (v := .bool true) (by kernel_rfl) (fun _ _ => by kernel_rfl) ?_
        try simp only [Act.put, List.setIfInBounds_toArray, List.set_cons_zero, List.set_cons_succ]
        refine wpQuiet_nil ?_
        intro W hWx
        go_wp2
        go_meet
        case rel => exact ⟨rfl, hWx⟩
      · have d1 : decide ((1 : Int) < (D.side : Int)) = false := by simp; omega
        have d2 : decide ((D.gen : Int) < 1) = false := by simp; omega
        have d3 : decide ((999999999 : Int) < (D.gen : Int)) = false := by simp; omega
        have d4 : ((M : Int) == (k : Int)) = false := by simp; omega
        have d5 : ((M : Int) != (k : Int)) = true := by simp; omega
        have d6 : ¬ (M : Int) = (k : Int) := by omega
        have d7 : ¬ M = k := c4
        have d8 : (M == k) = false := by simp [c4]
        have d9 : (M != k) = true := by simp [c4]
        refine wp_region_quiet (C := fun W => Below wc.heap.size wc W) (by kernel_rfl) (by kernel_rfl) ⟨rfl, rfl, rfl, Nat.le_refl _, fun _ _ => rfl⟩ ?_
        dsimp only
        refine Go.Dk.q_valW (v := .pointer (some ⟨Hb, 0, none⟩)) (by kernel_rfl) (fun W _ => by go_simp) ?_
        try simp only [Act.put, List.setIfInBounds_toArray, List.set_cons_zero, List.set_cons_succ]
        refine Go.Dk.q_valW (v := .int .i64 D.side) (by kernel_rfl) (fun W hW => by have c := Dk.cellB hW hHl e0; go_simp) ?_
        try simp only [Act.put, List.setIfInBounds_toArray, List.set_cons_zero, List.set_cons_succ]
        refine Go.Dk.q_valW (v := .bool false) (by kernel_rfl) (fun W _ => by go_simp) ?_
        try simp only [Act.put, List.setIfInBounds_toArray, List.set_cons_zero, List.set_cons_succ]
        refine Go.Dk.q_valW (v := .bool false) (by kernel_rfl) (fun _ _ => by kernel_rfl) ?_
        try simp only [Act.put, List.setIfInBounds_toArray, List.set_cons_zero, List.set_cons_succ]
        refine Go.Dk.q_valW (v := .pointer (some ⟨Hb, 1, none⟩)) (by kernel_rfl) (fun W _ => by go_simp) ?_
        try simp only [Act.put, List.setIfInBounds_toArray, List.set_cons_zero, List.set_cons_succ]
        refine Go.Dk.q_valW (v := .int .u32 D.gen) (by kernel_rfl) (fun W hW => by have c := Dk.cellB hW hHl e1; go_simp) ?_
        try simp only [Act.put, List.setIfInBounds_toArray, List.set_cons_zero, List.set_cons_succ]
        refine Go.Dk.q_valW (v := .bool false) (by kernel_rfl) (fun W _ => by go_simp) ?_
        try simp only [Act.put, List.setIfInBounds_toArray, List.set_cons_zero, List.set_cons_succ]
        refine Go.Dk.q_valW (v := .bool false) (by kernel_rfl) (fun _ _ => by kernel_rfl) ?_
        try simp only [Act.put, List.setIfInBounds_toArray, List.set_cons_zero, List.set_cons_succ]
        refine Go.Dk.q_valW (v := .bool false) (by kernel_rfl) (fun _ _ => by kernel_rfl) ?_
        try simp only [Act.put, List.setIfInBounds_toArray, List.set_cons_zero, List.set_cons_succ]
        refine Go.Dk.q_valW (v := .pointer (some ⟨Hb, 1, none⟩)) (by kernel_rfl) (fun W _ => by go_simp) ?_
        try simp only [Act.put, List.setIfInBounds_toArray, List.set_cons_zero, List.set_cons_succ]
        refine Go.Dk.q_valW (v := .int .u32 D.gen) (by kernel_rfl) (fun W hW => by have c := Dk.cellB hW hHl e1; go_simp) ?_
        try simp only [Act.put, List.setIfInBounds_toArray, List.set_cons_zero, List.set_cons_succ]
        refine Go.Dk.q_valW (v := .bool false) (by kernel_rfl) (fun W _ => by go_simp) ?_
        try simp only [Act.put, List.setIfInBounds_toArray, List.set_cons_zero, List.set_cons_succ]
        refine Go.Dk.q_valW (v := .bool false) (by kernel_rfl) (fun _ _ => by kernel_rfl) ?_
        try simp only [Act.put, List.setIfInBounds_toArray, List.set_cons_zero, List.set_cons_succ]
        refine Go.Dk.q_valW (v := .bool false) (by kernel_rfl) (fun _ _ => by kernel_rfl) ?_
        try simp only [Act.put, List.setIfInBounds_toArray, List.set_cons_zero, List.set_cons_succ]
        refine Go.Dk.q_valW (v := .agg #[.int .i64 D.side, .int .u32 D.gen, .int .u32 D.size, .int .u32 D.sum]) (by kernel_rfl) (fun W hW => by have u0 := Dk.cellB hW hHl e0; have u1 := Dk.cellB hW hHl e1; have u2 := Dk.cellB hW hHl e2; have u3 := Dk.cellB hW hHl e3; go_simp) ?_
        try simp only [Act.put, List.setIfInBounds_toArray, List.set_cons_zero, List.set_cons_succ]
        refine Go.Dk.q_callW (v := .int .i64 (M : Nat)) (f := 92) (args := #[.agg #[.int .i64 D.side, .int .u32 D.gen, .int .u32 D.size, .int .u32 D.sum]]) (by kernel_rfl) (fun _ _ => by kernel_rfl) (fun W hW => (hpl W).mono fun _ _ ⟨h2, h3⟩ => ⟨h2, hW.trans (h3.mono hW.size)⟩) ?_
        try simp only [Act.put, List.setIfInBounds_toArray, List.set_cons_zero, List.set_cons_succ]
        refine Go.Dk.q_valW (v := .int .i64 (k : Nat)) (by kernel_rfl) (fun W _ => by go_simp) ?_
        try simp only [Act.put, List.setIfInBounds_toArray, List.set_cons_zero, List.set_cons_succ]
        refine Go.Dk.q_valW (v := .bool true) (by kernel_rfl) (fun W _ => by go_simp) ?_
        try simp only [Act.put, List.setIfInBounds_toArray, List.set_cons_zero, List.set_cons_succ]
        refine Go.Dk.q_valW (v := .bool true) (by kernel_rfl) (fun _ _ => by kernel_rfl) ?_
        try simp only [Act.put, List.setIfInBounds_toArray, List.set_cons_zero, List.set_cons_succ]
        refine Go.Dk.q_valW (v := .bool true) (by kernel_rfl) (fun _ _ => by kernel_rfl) ?_
        try simp only [Act.put, List.setIfInBounds_toArray, List.set_cons_zero, List.set_cons_succ]
        refine Go.Dk.q_no (by kernel_rfl) ?_
        try simp only [Act.put, List.setIfInBounds_toArray, List.set_cons_zero, List.set_cons_succ]
        refine Go.Dk.q_no (by kernel_rfl) ?_
        try simp only [Act.put, List.setIfInBounds_toArray, List.set_cons_zero, List.set_cons_succ]
        refine Go.Dk.q_no (by kernel_rfl) ?_
        try simp only [Act.put, List.setIfInBounds_toArray, List.set_cons_zero, List.set_cons_succ]
        refine Go.Dk.q_no (by kernel_rfl) ?_
        try simp only [Act.put, List.setIfInBounds_toArray, List.set_cons_zero, List.set_cons_succ]
        refine Go.Dk.q_no (by kernel_rfl) ?_
        try simp only [Act.put, List.setIfInBounds_toArray, List.set_cons_zero, List.set_cons_succ]
        refine Go.Dk.q_no (by kernel_rfl) ?_
        try simp only [Act.put, List.setIfInBounds_toArray, List.set_cons_zero, List.set_cons_succ]
        refine Go.Dk.q_valW (v := .bool true) (by kernel_rfl) (fun _ _ => by kernel_rfl) ?_
        try simp only [Act.put, List.setIfInBounds_toArray, List.set_cons_zero, List.set_cons_succ]
        refine wpQuiet_nil ?_
        intro W hWx
        go_wp2
        go_meet
        case rel => exact ⟨rfl, hWx⟩
      · have d1 : decide ((1 : Int) < (D.side : Int)) = false := by simp; omega
        have d2 : decide ((D.gen : Int) < 1) = false := by simp; omega
        have d3 : decide ((999999999 : Int) < (D.gen : Int)) = false := by simp; omega
        have hby : ∀ W, Calls Try.prog 93 #[Dk.hdV D] W _ := fun W => Try.hbytes_any W D c1 (by omega) (by omega) (by omega)
        unfold Dk.hdV at hby
        have eqm : ∀ W : World, (Op.equalIn 10000 134 (.agg (Lib.byteCells D.bytes).toArray) (.agg (Lib.byteCells B).toArray)).run Try.prog W = .ok false W := fun W => by
          have hDl : D.bytes.length = 64 := by simp [Hd.bytes, le_len]
          have h9 := Try.eq_block W 9998 D.bytes B hDl hbl
          rw [show decide (D.bytes = B) = false by simp [c5]] at h9
          exact h9
        generalize hPP : Lib.byteCells D.bytes = PP at *
        clear hPP
        have harr : ∀ W : World, (Instr.arrayAt 134 (.slice (some ⟨w.heap.size + 1, 0, none⟩) 64 64)).run Try.prog W = .ok (.pointer (some ⟨w.heap.size + 1, 0, none⟩)) W := fun W => by kernel_rfl
        refine wp_region_quiet (C := fun W => Below wc.heap.size wc W) (by kernel_rfl) (by kernel_rfl) ⟨rfl, rfl, rfl, Nat.le_refl _, fun _ _ => rfl⟩ ?_
        dsimp only
        refine Go.Dk.q_valW (v := .pointer (some ⟨Hb, 0, none⟩)) (by kernel_rfl) (fun W _ => by go_simp) ?_
        try simp only [Act.put, List.setIfInBounds_toArray, List.set_cons_zero, List.set_cons_succ]
        refine Go.Dk.q_valW (v := .int .i64 D.side) (by kernel_rfl) (fun W hW => by have c := Dk.cellB hW hHl e0; go_simp) ?_
        try simp only [Act.put, List.setIfInBounds_toArray, List.set_cons_zero, List.set_cons_succ]
        refine Go.Dk.q_valW (v := .bool false) (by kernel_rfl) (fun W _ => by go_simp) ?_
        try simp only [Act.put, List.setIfInBounds_toArray, List.set_cons_zero, List.set_cons_succ]
        refine Go.Dk.q_valW (v := .bool false) (by kernel_rfl) (fun _ _ => by kernel_rfl) ?_
        try simp only [Act.put, List.setIfInBounds_toArray, List.set_cons_zero, List.set_cons_succ]
        refine Go.Dk.q_valW (v := .pointer (some ⟨Hb, 1, none⟩)) (by kernel_rfl) (fun W _ => by go_simp) ?_
        try simp only [Act.put, List.setIfInBounds_toArray, List.set_cons_zero, List.set_cons_succ]
        refine Go.Dk.q_valW (v := .int .u32 D.gen) (by kernel_rfl) (fun W hW => by have c := Dk.cellB hW hHl e1; go_simp) ?_
        try simp only [Act.put, List.setIfInBounds_toArray, List.set_cons_zero, List.set_cons_succ]
        refine Go.Dk.q_valW (v := .bool false) (by kernel_rfl) (fun W _ => by go_simp) ?_
        try simp only [Act.put, List.setIfInBounds_toArray, List.set_cons_zero, List.set_cons_succ]
        refine Go.Dk.q_valW (v := .bool false) (by kernel_rfl) (fun _ _ => by kernel_rfl) ?_
        try simp only [Act.put, List.setIfInBounds_toArray, List.set_cons_zero, List.set_cons_succ]
        refine Go.Dk.q_valW (v := .bool false) (by kernel_rfl) (fun _ _ => by kernel_rfl) ?_
        try simp only [Act.put, List.setIfInBounds_toArray, List.set_cons_zero, List.set_cons_succ]
        refine Go.Dk.q_valW (v := .pointer (some ⟨Hb, 1, none⟩)) (by kernel_rfl) (fun W _ => by go_simp) ?_
        try simp only [Act.put, List.setIfInBounds_toArray, List.set_cons_zero, List.set_cons_succ]
        refine Go.Dk.q_valW (v := .int .u32 D.gen) (by kernel_rfl) (fun W hW => by have c := Dk.cellB hW hHl e1; go_simp) ?_
        try simp only [Act.put, List.setIfInBounds_toArray, List.set_cons_zero, List.set_cons_succ]
        refine Go.Dk.q_valW (v := .bool false) (by kernel_rfl) (fun W _ => by go_simp) ?_
        try simp only [Act.put, List.setIfInBounds_toArray, List.set_cons_zero, List.set_cons_succ]
        refine Go.Dk.q_valW (v := .bool false) (by kernel_rfl) (fun _ _ => by kernel_rfl) ?_
        try simp only [Act.put, List.setIfInBounds_toArray, List.set_cons_zero, List.set_cons_succ]
        refine Go.Dk.q_valW (v := .bool false) (by kernel_rfl) (fun _ _ => by kernel_rfl) ?_
        try simp only [Act.put, List.setIfInBounds_toArray, List.set_cons_zero, List.set_cons_succ]
        refine Go.Dk.q_valW (v := .agg #[.int .i64 D.side, .int .u32 D.gen, .int .u32 D.size, .int .u32 D.sum]) (by kernel_rfl) (fun W hW => by have u0 := Dk.cellB hW hHl e0; have u1 := Dk.cellB hW hHl e1; have u2 := Dk.cellB hW hHl e2; have u3 := Dk.cellB hW hHl e3; go_simp) ?_
        try simp only [Act.put, List.setIfInBounds_toArray, List.set_cons_zero, List.set_cons_succ]
        refine Go.Dk.q_callW (v := .int .i64 (M : Nat)) (f := 92) (args := #[.agg #[.int .i64 D.side, .int .u32 D.gen, .int .u32 D.size, .int .u32 D.sum]]) (by kernel_rfl) (fun _ _ => by kernel_rfl) (fun W hW => (hpl W).mono fun _ _ ⟨h2, h3⟩ => ⟨h2, hW.trans (h3.mono hW.size)⟩) ?_
        try simp only [Act.put, List.setIfInBounds_toArray, List.set_cons_zero, List.set_cons_succ]
        refine Go.Dk.q_valW (v := .int .i64 (k : Nat)) (by kernel_rfl) (fun W _ => by go_simp) ?_
        try simp only [Act.put, List.setIfInBounds_toArray, List.set_cons_zero, List.set_cons_succ]
        refine Go.Dk.q_valW (v := .bool false) (by kernel_rfl) (fun W _ => by go_simp) ?_
        try simp only [Act.put, List.setIfInBounds_toArray, List.set_cons_zero, List.set_cons_succ]
        refine Go.Dk.q_valW (v := .bool false) (by kernel_rfl) (fun _ _ => by kernel_rfl) ?_
        try simp only [Act.put, List.setIfInBounds_toArray, List.set_cons_zero, List.set_cons_succ]
        refine Go.Dk.q_valW (v := .bool false) (by kernel_rfl) (fun _ _ => by kernel_rfl) ?_
        try simp only [Act.put, List.setIfInBounds_toArray, List.set_cons_zero, List.set_cons_succ]
        refine Go.Dk.q_valW (v := .agg #[.int .i64 D.side, .int .u32 D.gen, .int .u32 D.size, .int .u32 D.sum]) (by kernel_rfl) (fun W hW => by have u0 := Dk.cellB hW hHl e0; have u1 := Dk.cellB hW hHl e1; have u2 := Dk.cellB hW hHl e2; have u3 := Dk.cellB hW hHl e3; go_simp) ?_
        try simp only [Act.put, List.setIfInBounds_toArray, List.set_cons_zero, List.set_cons_succ]
        refine Go.Dk.q_callW (v := .agg PP.toArray) (f := 93) (args := #[.agg #[.int .i64 D.side, .int .u32 D.gen, .int .u32 D.size, .int .u32 D.sum]]) (by kernel_rfl) (fun _ _ => by kernel_rfl) (fun W hW => (hby W).mono fun _ _ ⟨h2, h3⟩ => ⟨h2, hW.trans (h3.mono hW.size)⟩) ?_
        try simp only [Act.put, List.setIfInBounds_toArray, List.set_cons_zero, List.set_cons_succ]
        refine Go.Dk.q_valW (v := .slice (some ⟨w.heap.size + 1, 0, none⟩) 64 64) (by kernel_rfl) (fun W _ => by go_simp) ?_
        try simp only [Act.put, List.setIfInBounds_toArray, List.set_cons_zero, List.set_cons_succ]
        refine Go.Dk.q_valW (v := .pointer (some ⟨w.heap.size + 1, 0, none⟩)) (by kernel_rfl) (fun W _ => Go.Dk.run_arr rfl (by kernel_rfl) (harr W)) ?_
        try simp only [Act.put, List.setIfInBounds_toArray, List.set_cons_zero, List.set_cons_succ]
        refine Go.Dk.q_valW (v := .agg (Lib.byteCells B).toArray) (by kernel_rfl) (fun W hW => Go.Dk.run_load rfl (by kernel_rfl) (run_loadAt_mid W (w.heap.size + 1) 0 134 (Lib.byteCells B) _ (fun j v hj => Dk.cellB hW hGl (hra j v hj)) hun rfl hin)) ?_
        try simp only [Act.put, List.setIfInBounds_toArray, List.set_cons_zero, List.set_cons_succ]
        refine Go.Dk.q_valW (v := .bool true) (by kernel_rfl) (fun W _ => by have q := eqm W; go_simp) ?_
        try simp only [Act.put, List.setIfInBounds_toArray, List.set_cons_zero, List.set_cons_succ]
        refine Go.Dk.q_valW (v := .bool true) (by kernel_rfl) (fun _ _ => by kernel_rfl) ?_
        try simp only [Act.put, List.setIfInBounds_toArray, List.set_cons_zero, List.set_cons_succ]
        refine wpQuiet_nil ?_
        intro W hWx
        go_wp2
        go_meet
        case rel => exact ⟨rfl, hWx⟩
      · have d1 : decide ((1 : Int) < (D.side : Int)) = false := by simp; omega
        have d2 : decide ((D.gen : Int) < 1) = false := by simp; omega
        have d3 : decide ((999999999 : Int) < (D.gen : Int)) = false := by simp; omega
        have hby : ∀ W, Calls Try.prog 93 #[Dk.hdV D] W _ := fun W => Try.hbytes_any W D c1 (by omega) (by omega) (by omega)
        unfold Dk.hdV at hby
        have eqm : ∀ W : World, (Op.equalIn 10000 134 (.agg (Lib.byteCells D.bytes).toArray) (.agg (Lib.byteCells B).toArray)).run Try.prog W = .ok true W := fun W => by
          have hDl : D.bytes.length = 64 := by simp [Hd.bytes, le_len]
          have h9 := Try.eq_block W 9998 D.bytes B hDl hbl
          rw [show decide (D.bytes = B) = true by simp [c5]] at h9
          exact h9
        generalize hPP : Lib.byteCells D.bytes = PP at *
        clear hPP
        have harr : ∀ W : World, (Instr.arrayAt 134 (.slice (some ⟨w.heap.size + 1, 0, none⟩) 64 64)).run Try.prog W = .ok (.pointer (some ⟨w.heap.size + 1, 0, none⟩)) W := fun W => by kernel_rfl
        refine wp_region_quiet (C := fun W => Below wc.heap.size wc W) (by kernel_rfl) (by kernel_rfl) ⟨rfl, rfl, rfl, Nat.le_refl _, fun _ _ => rfl⟩ ?_
        dsimp only
        refine Go.Dk.q_valW (v := .pointer (some ⟨Hb, 0, none⟩)) (by kernel_rfl) (fun W _ => by go_simp) ?_
        try simp only [Act.put, List.setIfInBounds_toArray, List.set_cons_zero, List.set_cons_succ]
        refine Go.Dk.q_valW (v := .int .i64 D.side) (by kernel_rfl) (fun W hW => by have c := Dk.cellB hW hHl e0; go_simp) ?_
        try simp only [Act.put, List.setIfInBounds_toArray, List.set_cons_zero, List.set_cons_succ]
        refine Go.Dk.q_valW (v := .bool false) (by kernel_rfl) (fun W _ => by go_simp) ?_
        try simp only [Act.put, List.setIfInBounds_toArray, List.set_cons_zero, List.set_cons_succ]
        refine Go.Dk.q_valW (v := .bool false) (by kernel_rfl) (fun _ _ => by kernel_rfl) ?_
        try simp only [Act.put, List.setIfInBounds_toArray, List.set_cons_zero, List.set_cons_succ]
        refine Go.Dk.q_valW (v := .pointer (some ⟨Hb, 1, none⟩)) (by kernel_rfl) (fun W _ => by go_simp) ?_
        try simp only [Act.put, List.setIfInBounds_toArray, List.set_cons_zero, List.set_cons_succ]
        refine Go.Dk.q_valW (v := .int .u32 D.gen) (by kernel_rfl) (fun W hW => by have c := Dk.cellB hW hHl e1; go_simp) ?_
        try simp only [Act.put, List.setIfInBounds_toArray, List.set_cons_zero, List.set_cons_succ]
        refine Go.Dk.q_valW (v := .bool false) (by kernel_rfl) (fun W _ => by go_simp) ?_
        try simp only [Act.put, List.setIfInBounds_toArray, List.set_cons_zero, List.set_cons_succ]
        refine Go.Dk.q_valW (v := .bool false) (by kernel_rfl) (fun _ _ => by kernel_rfl) ?_
        try simp only [Act.put, List.setIfInBounds_toArray, List.set_cons_zero, List.set_cons_succ]
        refine Go.Dk.q_valW (v := .bool false) (by kernel_rfl) (fun _ _ => by kernel_rfl) ?_
        try simp only [Act.put, List.setIfInBounds_toArray, List.set_cons_zero, List.set_cons_succ]
        refine Go.Dk.q_valW (v := .pointer (some ⟨Hb, 1, none⟩)) (by kernel_rfl) (fun W _ => by go_simp) ?_
        try simp only [Act.put, List.setIfInBounds_toArray, List.set_cons_zero, List.set_cons_succ]
        refine Go.Dk.q_valW (v := .int .u32 D.gen) (by kernel_rfl) (fun W hW => by have c := Dk.cellB hW hHl e1; go_simp) ?_
        try simp only [Act.put, List.setIfInBounds_toArray, List.set_cons_zero, List.set_cons_succ]
        refine Go.Dk.q_valW (v := .bool false) (by kernel_rfl) (fun W _ => by go_simp) ?_
        try simp only [Act.put, List.setIfInBounds_toArray, List.set_cons_zero, List.set_cons_succ]
        refine Go.Dk.q_valW (v := .bool false) (by kernel_rfl) (fun _ _ => by kernel_rfl) ?_
        try simp only [Act.put, List.setIfInBounds_toArray, List.set_cons_zero, List.set_cons_succ]
        refine Go.Dk.q_valW (v := .bool false) (by kernel_rfl) (fun _ _ => by kernel_rfl) ?_
        try simp only [Act.put, List.setIfInBounds_toArray, List.set_cons_zero, List.set_cons_succ]
        refine Go.Dk.q_valW (v := .agg #[.int .i64 D.side, .int .u32 D.gen, .int .u32 D.size, .int .u32 D.sum]) (by kernel_rfl) (fun W hW => by have u0 := Dk.cellB hW hHl e0; have u1 := Dk.cellB hW hHl e1; have u2 := Dk.cellB hW hHl e2; have u3 := Dk.cellB hW hHl e3; go_simp) ?_
        try simp only [Act.put, List.setIfInBounds_toArray, List.set_cons_zero, List.set_cons_succ]
        refine Go.Dk.q_callW (v := .int .i64 (M : Nat)) (f := 92) (args := #[.agg #[.int .i64 D.side, .int .u32 D.gen, .int .u32 D.size, .int .u32 D.sum]]) (by kernel_rfl) (fun _ _ => by kernel_rfl) (fun W hW => (hpl W).mono fun _ _ ⟨h2, h3⟩ => ⟨h2, hW.trans (h3.mono hW.size)⟩) ?_
        try simp only [Act.put, List.setIfInBounds_toArray, List.set_cons_zero, List.set_cons_succ]
        refine Go.Dk.q_valW (v := .int .i64 (k : Nat)) (by kernel_rfl) (fun W _ => by go_simp) ?_
        try simp only [Act.put, List.setIfInBounds_toArray, List.set_cons_zero, List.set_cons_succ]
        refine Go.Dk.q_valW (v := .bool false) (by kernel_rfl) (fun W _ => by go_simp) ?_
        try simp only [Act.put, List.setIfInBounds_toArray, List.set_cons_zero, List.set_cons_succ]
        refine Go.Dk.q_valW (v := .bool false) (by kernel_rfl) (fun _ _ => by kernel_rfl) ?_
        try simp only [Act.put, List.setIfInBounds_toArray, List.set_cons_zero, List.set_cons_succ]
        refine Go.Dk.q_valW (v := .bool false) (by kernel_rfl) (fun _ _ => by kernel_rfl) ?_
        try simp only [Act.put, List.setIfInBounds_toArray, List.set_cons_zero, List.set_cons_succ]
        refine Go.Dk.q_valW (v := .agg #[.int .i64 D.side, .int .u32 D.gen, .int .u32 D.size, .int .u32 D.sum]) (by kernel_rfl) (fun W hW => by have u0 := Dk.cellB hW hHl e0; have u1 := Dk.cellB hW hHl e1; have u2 := Dk.cellB hW hHl e2; have u3 := Dk.cellB hW hHl e3; go_simp) ?_
        try simp only [Act.put, List.setIfInBounds_toArray, List.set_cons_zero, List.set_cons_succ]
        refine Go.Dk.q_callW (v := .agg PP.toArray) (f := 93) (args := #[.agg #[.int .i64 D.side, .int .u32 D.gen, .int .u32 D.size, .int .u32 D.sum]]) (by kernel_rfl) (fun _ _ => by kernel_rfl) (fun W hW => (hby W).mono fun _ _ ⟨h2, h3⟩ => ⟨h2, hW.trans (h3.mono hW.size)⟩) ?_
        try simp only [Act.put, List.setIfInBounds_toArray, List.set_cons_zero, List.set_cons_succ]
        refine Go.Dk.q_valW (v := .slice (some ⟨w.heap.size + 1, 0, none⟩) 64 64) (by kernel_rfl) (fun W _ => by go_simp) ?_
        try simp only [Act.put, List.setIfInBounds_toArray, List.set_cons_zero, List.set_cons_succ]
        refine Go.Dk.q_valW (v := .pointer (some ⟨w.heap.size + 1, 0, none⟩)) (by kernel_rfl) (fun W _ => Go.Dk.run_arr rfl (by kernel_rfl) (harr W)) ?_
        try simp only [Act.put, List.setIfInBounds_toArray, List.set_cons_zero, List.set_cons_succ]
        refine Go.Dk.q_valW (v := .agg (Lib.byteCells B).toArray) (by kernel_rfl) (fun W hW => Go.Dk.run_load rfl (by kernel_rfl) (run_loadAt_mid W (w.heap.size + 1) 0 134 (Lib.byteCells B) _ (fun j v hj => Dk.cellB hW hGl (hra j v hj)) hun rfl hin)) ?_
        try simp only [Act.put, List.setIfInBounds_toArray, List.set_cons_zero, List.set_cons_succ]
        refine Go.Dk.q_valW (v := .bool false) (by kernel_rfl) (fun W _ => by have q := eqm W; go_simp) ?_
        try simp only [Act.put, List.setIfInBounds_toArray, List.set_cons_zero, List.set_cons_succ]
        refine Go.Dk.q_valW (v := .bool false) (by kernel_rfl) (fun _ _ => by kernel_rfl) ?_
        try simp only [Act.put, List.setIfInBounds_toArray, List.set_cons_zero, List.set_cons_succ]
        refine wpQuiet_nil ?_
        intro W hWx
        go_wp2
        go_meet
        case rel => exact ⟨rfl, hWx⟩
    case rest =>
      obtain ⟨rfl, hb4⟩ := hcut
      have hbb : Below w.heap.size w wc := hb3.trans (hb4.mono hb3.size)
      have hrX := hrs _ hb4
      cases t with
      | true =>
        have r0 : wc.cell? ⟨w.heap.size, 0, none⟩ = some (.int .i64 0) := by rw [cell_of_row _ _ _ _ _ _ hrX]; rfl
        have r1 : wc.cell? ⟨w.heap.size, 1, none⟩ = some (.int .u32 0) := by rw [cell_of_row _ _ _ _ _ _ hrX]; rfl
        have r2 : wc.cell? ⟨w.heap.size, 2, none⟩ = some (.int .u32 0) := by rw [cell_of_row _ _ _ _ _ _ hrX]; rfl
        have r3 : wc.cell? ⟨w.heap.size, 3, none⟩ = some (.int .u32 0) := by rw [cell_of_row _ _ _ _ _ _ hrX]; rfl
        have rf0 : wc.frozen? ⟨w.heap.size, 0, none⟩ = false := frozen_of_row _ _ _ _ _ hrX
        have rf1 : wc.frozen? ⟨w.heap.size, 1, none⟩ = false := frozen_of_row _ _ _ _ _ hrX
        have rf2 : wc.frozen? ⟨w.heap.size, 2, none⟩ = false := frozen_of_row _ _ _ _ _ hrX
        have rf3 : wc.frozen? ⟨w.heap.size, 3, none⟩ = false := frozen_of_row _ _ _ _ _ hrX
        have HRX : Hid (wc.heap[w.heap.size]? = some (.cells #[.int .i64 0, .int .u32 0, .int .u32 0, .int .u32 0] 91 (0, 0))) := hrX
        clear hcase hpl hra hcl hin hun hcc hHl hGl hrs hb4 hrX hre3 hh q3 e0 e1 e2 e3 hrd hc6 h HF
        go_wp2
        have hfin := Dk.set4 (.int .i64 0) (.int .u32 0) (.int .u32 0) (.int .u32 0) (W := wc) HRX.out
        have hbf : Below w.heap.size w ((((wc.setCell ⟨w.heap.size, 0, none⟩ (.int .i64 0)).setCell ⟨w.heap.size, 1, none⟩ (.int .u32 0)).setCell ⟨w.heap.size, 2, none⟩ (.int .u32 0)).setCell ⟨w.heap.size, 3, none⟩ (.int .u32 0)) := (((hbb.setCell (by simp) _).setCell (by simp) _).setCell (by simp) _).setCell (by simp) _
        have hload := Try.ret_head (H := ⟨0, 0, 0, 0⟩) hfin
        generalize ((((wc.setCell ⟨w.heap.size, 0, none⟩ (.int .i64 0)).setCell ⟨w.heap.size, 1, none⟩ (.int .u32 0)).setCell ⟨w.heap.size, 2, none⟩ (.int .u32 0)).setCell ⟨w.heap.size, 3, none⟩ (.int .u32 0)) = W9 at *
        refine bodyPost_ret (v := .tuple #[Dk.hdV ⟨0, 0, 0, 0⟩, .bool false]) (by simp [results, Try.results72, asAddr, hload]) rfl ?_
        exact ⟨rfl, hbf⟩
      | false =>
        obtain ⟨f1, fbad⟩ := HF.out rfl
        have hsz1 : ∀ W, Below w.heap.size w W → Calls Try.prog 52 #[.agg #[.pointer (some ⟨x, 0, none⟩), .int .i64 D.side]] W _ := fun W hW => Try.asize_any (h.below hW) (by omega) D.side
        have hrd1 : D.size ≤ 64 * half s.n → ∀ W, Below w.heap.size w W → Calls Try.prog 51 #[.agg #[.pointer (some ⟨x, 0, none⟩), .int .i64 D.side], .int .i64 D.size] W _ := fun f6 W hW => Try.aread_any (h.below hW) hd (by omega) D.side f1 D.size f6
        have hal := Dk.area_len (side := D.side) hvl (by omega) f1
        have hKK : ∀ W, Below wc.heap.size wc W → W.cell? ⟨Hb, 0, none⟩ = some (.int .i64 D.side) ∧ W.cell? ⟨Hb, 1, none⟩ = some (.int .u32 D.gen) ∧ W.cell? ⟨Hb, 2, none⟩ = some (.int .u32 D.size) ∧ W.cell? ⟨Hb, 3, none⟩ = some (.int .u32 D.sum) := fun W hW => ⟨Dk.cellB (hb4.trans (hW.mono hb4.size)) hHl e0, Dk.cellB (hb4.trans (hW.mono hb4.size)) hHl e1, Dk.cellB (hb4.trans (hW.mono hb4.size)) hHl e2, Dk.cellB (hb4.trans (hW.mono hb4.size)) hHl e3⟩
        have hrs2 : ∀ W, Below wc.heap.size wc W → W.heap[w.heap.size]? = some (.cells #[.int .i64 0, .int .u32 0, .int .u32 0, .int .u32 0] 91 (0, 0)) := fun W hW => hrs W (hb4.trans (hW.mono hb4.size))
        have hHb4 : Hb < wc.heap.size := Nat.lt_of_lt_of_le hHl hb4.size
        have hcc4 := Below.refl wc.heap.size wc
        clear hcase hpl hra hcl hin hun hcc hrs hb4 hrX hre3 hh q3 e0 e1 e2 e3 hrd hc6 r0 r1 r2 r3 rf HF hHl hGl
        obtain ⟨e0, e1, e2, e3⟩ := hKK _ hcc4
        have hbx5 : Try.Box (wc.alloc (.cells #[.pointer (some ⟨x, 0, none⟩), .int .i64 D.side] 98)) wc.heap.size x D.side := heap_alloc_new wc _
        have hb5 := Dk.belowA wc (.cells #[.pointer (some ⟨x, 0, none⟩), .int .i64 D.side] 98)
        have hb5w := hbb.trans (hb5.mono hbb.size)
        have hsc : ((64 * half s.n : Nat) : Int) % 4294967296 = ((64 * half s.n : Nat) : Int) := by omega
        generalize hSz : 64 * half s.n = Sz at *
        obtain ⟨t2, ht2⟩ : ∃ t2 : Bool, t2 = decide ((Sz : Int) < (D.size : Int)) := ⟨_, rfl⟩
        have d4 := ht2.symm
        have HT2 : Hid (t2 = decide ((Sz : Int) < (D.size : Int))) := ht2
        clear ht2
        have HBAD : Hid (Sz < D.size ∨ (D.size ≤ Sz ∧ fnv ((area s.view s.n D.side).take D.size) ≠ D.sum)) := fbad
        have HRD1 : Hid (D.size ≤ Sz → ∀ W, Below w.heap.size w W → Calls Try.prog 51 #[.agg #[.pointer (some ⟨x, 0, none⟩), .int .i64 D.side], .int .i64 D.size] W _) := hrd1
        clear fbad hrd1
        go_upto_region 8 with (fail)
        generalize hW5 : wc.alloc (.cells #[.pointer (some ⟨x, 0, none⟩), .int .i64 D.side] 98) = W5 at *
        have hs5 : W5.heap.size = wc.heap.size + 1 := by rw [← hW5]; simp
        obtain ⟨k0, k1, k2, k3⟩ := hKK _ hb5
        have b0 := hbx5.c0
        have b1 := hbx5.c1
        go_cut [72] (fun c wx => c = .bool t2 ∧ Below W5.heap.size W5 wx)
        case first =>
          have h55 := Below.refl W5.heap.size W5
          clear HBAD HRD1 HT2
          go_region_held3 (fun W => W.cell? ⟨Hb, 2, none⟩ = some (.int .u32 D.size) ∧ W.cell? ⟨wc.heap.size, 0, none⟩ = some (.pointer (some ⟨x, 0, none⟩)) ∧ W.cell? ⟨wc.heap.size, 1, none⟩ = some (.int .i64 D.side)) (first | exact ⟨k2, b0, b1⟩ | exact ⟨Dk.cellB hb6 (by omega) k2, Dk.cellB hb6 (by omega) b0, Dk.cellB hb6 (by omega) b1⟩) (first
            | (go_at_call 52; refine (hsz1 _ hb5w.drew).mono ?_; clear hsz1; rintro r w6 ⟨rfl, h6⟩; have hb6 : Below W5.heap.size W5 w6 := h55.drew.trans h6))
          all_goals
            go_wp2
            go_meet
            case rel => exact ⟨by rw [show IntKind.u32.wrap (Sz : Int) = (Sz : Int) by rw [IntKind.wrap_u32]; exact hsc, d4], hb6⟩
        case rest =>
          obtain ⟨rfl, hb6⟩ := hcut
          have hb6c := hb5.trans (hb6.mono hb5.size)
          have hb6w := hb5w.trans (hb6.mono hb5w.size)
          have hr6 := hrs2 _ hb6c
          obtain ⟨l0, l1, l2, l3⟩ := hKK _ hb6c
          have b6 := hbx5.below hb6
          have m0 := b6.c0
          have m1 := b6.c1
          clear hsz1 e0 e1 e2 e3 k0 k1 k2 k3 b0 b1 hsc d4
          cases t2 with
          | true =>
            clear HT2 HBAD HRD1
            have r0 : wc.cell? ⟨w.heap.size, 0, none⟩ = some (.int .i64 0) := by rw [cell_of_row _ _ _ _ _ _ hr6]; rfl
            have r1 : wc.cell? ⟨w.heap.size, 1, none⟩ = some (.int .u32 0) := by rw [cell_of_row _ _ _ _ _ _ hr6]; rfl
            have r2 : wc.cell? ⟨w.heap.size, 2, none⟩ = some (.int .u32 0) := by rw [cell_of_row _ _ _ _ _ _ hr6]; rfl
            have r3 : wc.cell? ⟨w.heap.size, 3, none⟩ = some (.int .u32 0) := by rw [cell_of_row _ _ _ _ _ _ hr6]; rfl
            have rf0 : wc.frozen? ⟨w.heap.size, 0, none⟩ = false := frozen_of_row _ _ _ _ _ hr6
            have rf1 : wc.frozen? ⟨w.heap.size, 1, none⟩ = false := frozen_of_row _ _ _ _ _ hr6
            have rf2 : wc.frozen? ⟨w.heap.size, 2, none⟩ = false := frozen_of_row _ _ _ _ _ hr6
            have rf3 : wc.frozen? ⟨w.heap.size, 3, none⟩ = false := frozen_of_row _ _ _ _ _ hr6
            have HRX : Hid (wc.heap[w.heap.size]? = some (.cells #[.int .i64 0, .int .u32 0, .int .u32 0, .int .u32 0] 91 (0, 0))) := hr6
            clear l0 l1 l2 l3 b6 m0 m1 hKK hrs2 hr6 hb6 hb6c hbx5 hb5 hb5w h
            go_wp2
            have hfin := Dk.set4 (.int .i64 0) (.int .u32 0) (.int .u32 0) (.int .u32 0) (W := wc) HRX.out
            have hbf : Below w.heap.size w ((((wc.setCell ⟨w.heap.size, 0, none⟩ (.int .i64 0)).setCell ⟨w.heap.size, 1, none⟩ (.int .u32 0)).setCell ⟨w.heap.size, 2, none⟩ (.int .u32 0)).setCell ⟨w.heap.size, 3, none⟩ (.int .u32 0)) := (((hb6w.setCell (by simp) _).setCell (by simp) _).setCell (by simp) _).setCell (by simp) _
            have hload := Try.ret_head (H := ⟨0, 0, 0, 0⟩) hfin
            generalize ((((wc.setCell ⟨w.heap.size, 0, none⟩ (.int .i64 0)).setCell ⟨w.heap.size, 1, none⟩ (.int .u32 0)).setCell ⟨w.heap.size, 2, none⟩ (.int .u32 0)).setCell ⟨w.heap.size, 3, none⟩ (.int .u32 0)) = W9 at *
            refine bodyPost_ret (v := .tuple #[Dk.hdV ⟨0, 0, 0, 0⟩, .bool false]) (by simp [results, Try.results72, asAddr, hload]) rfl ?_
            exact ⟨rfl, hbf⟩
          | false =>
            have hle : D.size ≤ Sz := by
              have h1 := HT2.out
              have h2 : ¬ ((Sz : Int) < (D.size : Int)) := of_decide_eq_false h1.symm
              omega
            have hrd6 := HRD1.out hle _ hb6w
            have hne : fnv ((area s.view s.n D.side).take D.size) ≠ D.sum := by
              rcases HBAD.out with c | ⟨-, c⟩
              · omega
              · exact c
            clear HT2 HBAD HRD1
            go_upto_region 11 with (first
              | (go_at_call 51; refine hrd6.mono ?_; clear hrd6; rintro r w7 ⟨g, rfl, hg7, hr7, h7⟩)
              | fail)
            have hb7c := hb6c.trans (h7.mono hb6c.size)
            have hb7w := hb6w.trans (h7.mono hb6w.size)
            obtain ⟨n0, n1, n2, n3⟩ := hKK _ hb7c
            have hsrc := Dk.src_row hr7 D.size
            have hlt : ((area s.view s.n D.side).take D.size).length = D.size := by rw [List.length_take]; omega
            rw [hlt] at hsrc
            have hsm := fun n => Try.sum_any (hsrc.below (Dk.belowN w7 n)) (by rw [hlt]; omega)
            obtain ⟨F, hF⟩ : ∃ F, F = fnv ((area s.view s.n D.side).take D.size) := ⟨_, rfl⟩
            rw [← hF] at hsm hne
            have ne1 : ((F : Int) == (D.sum : Int)) = false := by simp; omega
            have ne2 : ((F : Int) != (D.sum : Int)) = true := by simp; omega
            have ne3 : ¬ (F : Int) = (D.sum : Int) := by omega
            clear hF hne
            have hre7 := hrs2 _ hb7c
            have r0 : w7.cell? ⟨w.heap.size, 0, none⟩ = some (.int .i64 0) := by rw [cell_of_row _ _ _ _ _ _ hre7]; rfl
            have r1 : w7.cell? ⟨w.heap.size, 1, none⟩ = some (.int .u32 0) := by rw [cell_of_row _ _ _ _ _ _ hre7]; rfl
            have r2 : w7.cell? ⟨w.heap.size, 2, none⟩ = some (.int .u32 0) := by rw [cell_of_row _ _ _ _ _ _ hre7]; rfl
            have r3 : w7.cell? ⟨w.heap.size, 3, none⟩ = some (.int .u32 0) := by rw [cell_of_row _ _ _ _ _ _ hre7]; rfl
            have rf0 : w7.frozen? ⟨w.heap.size, 0, none⟩ = false := frozen_of_row _ _ _ _ _ hre7
            have rf1 : w7.frozen? ⟨w.heap.size, 1, none⟩ = false := frozen_of_row _ _ _ _ _ hre7
            have rf2 : w7.frozen? ⟨w.heap.size, 2, none⟩ = false := frozen_of_row _ _ _ _ _ hre7
            have rf3 : w7.frozen? ⟨w.heap.size, 3, none⟩ = false := frozen_of_row _ _ _ _ _ hre7
            have HR7 : Hid (w7.heap[w.heap.size]? = some (.cells #[.int .i64 0, .int .u32 0, .int .u32 0, .int .u32 0] 91 (0, 0))) := hre7
            clear hre7 hsrc hr7 hlt hal hKK hrs2 hb6 hb6c hb6w hb5 hb5w hbx5 b6 m0 m1 l0 l1 l2 l3 hr6
            go_quiet ((go_at_call 74; exact Calls.quiet_of_same (hsm _)))
            clear hsm
            go_wp2
            have hfin := Dk.set4 (.int .i64 0) (.int .u32 0) (.int .u32 0) (.int .u32 0) (W := (w7.drewN nq)) HR7.out
            have hbf : Below w.heap.size w (((((w7.drewN nq).setCell ⟨w.heap.size, 0, none⟩ (.int .i64 0)).setCell ⟨w.heap.size, 1, none⟩ (.int .u32 0)).setCell ⟨w.heap.size, 2, none⟩ (.int .u32 0)).setCell ⟨w.heap.size, 3, none⟩ (.int .u32 0)) := ((((hb7w.trans ((Dk.belowN w7 nq).mono hb7w.size)).setCell (by simp) _).setCell (by simp) _).setCell (by simp) _).setCell (by simp) _
            have hload := Try.ret_head (H := ⟨0, 0, 0, 0⟩) hfin
            generalize (((((w7.drewN nq).setCell ⟨w.heap.size, 0, none⟩ (.int .i64 0)).setCell ⟨w.heap.size, 1, none⟩ (.int .u32 0)).setCell ⟨w.heap.size, 2, none⟩ (.int .u32 0)).setCell ⟨w.heap.size, 3, none⟩ (.int .u32 0)) = W9 at *
            refine bodyPost_ret (v := .tuple #[Dk.hdV ⟨0, 0, 0, 0⟩, .bool false]) (by simp [results, Try.results72, asAddr, hload]) rfl ?_
            exact ⟨rfl, hbf⟩
theorem Try.headIn_full {w : World} {own : Nat → Prop} {x : Nat} {s : DS} (h : Try.Dsk w own x s) (hd : s.dead = false) (hn : 8 ≤ s.n) (k : Nat) (hk : k ≤ 1) :
    Calls Try.prog 72 #[.pointer (some ⟨x, 0, none⟩), .int .i64 k] w fun r w' => r = .returned (.tuple #[Dk.hdV (Dk.hdO2 (headIn s.view s.n k)), .bool (headIn s.view s.n k).isSome]) ∧ Below w.heap.size w w' := by
  cases hH : headIn s.view s.n k with
  | none => exact Try.headIn_none h hd hn k hk hH
  | some H => exact Try.headIn_any h hd hn k hk (some H) (.inr ⟨H, rfl, hH⟩)
end Go.Proofs
namespace Go.Proofs
open Go.RowKit Go.Dk
theorem Dk.headIn_small {v : List UInt8} {n k : Nat} {G : Hd} (e : headIn v n k = some G) : G.side ≤ 1 ∧ G.size ≤ 64 * half n ∧ G.gen ≤ 999999999 := by
  obtain ⟨-, h1, -, h2, -, -, h3, -⟩ := headIn_some e
  exact ⟨h1, h3, h2⟩
theorem Dk.counting_small {v : List UInt8} {n : Nat} {H : Hd} (e : counting v n = some H) : H.side ≤ 1 ∧ H.size ≤ 64 * half n ∧ H.gen ≤ 999999999 := by
  unfold counting at e
  cases e0 : headIn v n 0 with
  | none =>
    rw [e0] at e
    exact Dk.headIn_small e
  | some a =>
    cases e1 : headIn v n 1 with
    | none =>
      rw [e0, e1] at e
      cases e
      exact Dk.headIn_small e0
    | some b =>
      rw [e0, e1] at e
      simp only at e
      split at e
      · cases e; exact Dk.headIn_small e0
      · cases e; exact Dk.headIn_small e1
set_option maxRecDepth 20000 in
set_option maxHeartbeats 1000000 in
theorem Try.counting_full {w : World} {own : Nat → Prop} {x : Nat} {s : DS} (h : Try.Dsk w own x s) (hd : s.dead = false) (hn : 8 ≤ s.n) (a b : Option Hd) (ha : headIn s.view s.n 0 = a) (hb : headIn s.view s.n 1 = b) :
    Calls Try.prog 46 #[.pointer (some ⟨x, 0, none⟩)] w fun r w' => r = .returned (.tuple #[Dk.hdV (Dk.hdO2 (Dk.heads a b)), .bool (Dk.heads a b).isSome]) ∧ Below w.heap.size w w' := by
  have hi : ∀ W, Below w.heap.size w W → ∀ (k : Nat) (o : Option Hd), k ≤ 1 → headIn s.view s.n k = o → Calls Try.prog 72 #[.pointer (some ⟨x, 0, none⟩), .int .i64 k] W fun r w' => r = .returned (.tuple #[.agg #[.int .i64 (Dk.hdO2 o).side, .int .u32 (Dk.hdO2 o).gen, .int .u32 (Dk.hdO2 o).size, .int .u32 (Dk.hdO2 o).sum], .bool o.isSome]) ∧ Below W.heap.size W w' := fun W hW k o hk ho => by
    subst ho
    exact Try.headIn_full (h.below hW) hd hn k hk
  have hb0 := Dk.belowA w (Dk.hdO ⟨0, 0, 0, 0⟩ 91)
  have hr0 := heap_alloc_new w (Dk.hdO ⟨0, 0, 0, 0⟩ 91)
  have hi0 := hi _ hb0 0 a (by omega) ha
  obtain ⟨A, hA⟩ : ∃ A, A = Dk.hdO2 a := ⟨_, rfl⟩
  obtain ⟨B, hB⟩ : ∃ B, B = Dk.hdO2 b := ⟨_, rfl⟩
  rw [← hA] at hi0
  have hi1 : ∀ W, Below w.heap.size w W → Calls Try.prog 72 #[.pointer (some ⟨x, 0, none⟩), .int .i64 1] W _ := fun W hW => hi W hW 1 b (by omega) hb
  rw [← hB] at hi1
  obtain ⟨R, hR⟩ : ∃ R, R = Dk.hdO2 (Dk.heads a b) := ⟨_, rfl⟩
  obtain ⟨t, ht⟩ : ∃ t, t = (Dk.heads a b).isSome := ⟨_, rfl⟩
  obtain ⟨ta, hta⟩ : ∃ t, t = a.isSome := ⟨_, rfl⟩
  obtain ⟨tb, htb⟩ : ∃ t, t = b.isSome := ⟨_, rfl⟩
  rw [← hta] at hi0
  rw [← htb] at hi1
  have hcase : (ta = true ∧ tb = false ∧ R = A ∧ t = true) ∨ (ta = true ∧ tb = true ∧ B.gen < A.gen ∧ R = A ∧ t = true) ∨ (ta = true ∧ tb = true ∧ ¬ B.gen < A.gen ∧ R = B ∧ t = true) ∨ (ta = false ∧ R = B ∧ t = tb) := by
    cases a <;> cases b
    · exact .inr (.inr (.inr ⟨hta, by rw [hR, hB]; rfl, by rw [ht, htb]; rfl⟩))
    · exact .inr (.inr (.inr ⟨hta, by rw [hR, hB]; rfl, by rw [ht, htb]; rfl⟩))
    · exact .inl ⟨hta, htb, by rw [hR, hA]; rfl, ht⟩
    · rename_i a b
      by_cases hg : b.gen < a.gen
      · exact .inr (.inl ⟨hta, htb, by rw [hA, hB]; exact hg, by rw [hR, hA]; simp [Dk.heads, hg, Dk.hdO2], by rw [ht]; simp [Dk.heads, hg]⟩)
      · exact .inr (.inr (.inl ⟨hta, htb, by rw [hA, hB]; exact hg, by rw [hR, hB]; simp [Dk.heads, hg, Dk.hdO2], by rw [ht]; simp [Dk.heads, hg]⟩))
  rw [← hR, ← ht]
  clear hR ht hta htb hA hB ha hb hi h
  unfold Dk.hdO at hb0 hr0
  go_enter Try.func46, Try.ntmps46
  go_upto_region 2 with (first
    | (go_at_call 72; refine hi0.mono ?_; clear hi0; rintro r w2 ⟨rfl, h2⟩)
    | fail)
  have hb2 : Below w.heap.size w w2 := hb0.trans (h2.mono hb0.size)
  have hr2 := (h2.block _ (by simp)).trans hr0
  have hs2 : w.heap.size < w2.heap.size := Dk.block_lt hr2
  have hg3 := heap_alloc_new w2 (Dk.hdO A 91)
  have hb3 := Dk.belowA w2 (Dk.hdO A 91)
  have hb3w := hb2.trans (hb3.mono hb2.size)
  have hr3 := (hb3.block _ hs2).trans hr2
  unfold Dk.hdO at hb3 hg3 hb3w hr3
  generalize hW3 : w2.alloc (.cells #[.int .i64 A.side, .int .u32 A.gen, .int .u32 A.size, .int .u32 A.sum] 91) = W3 at *
  have hi1' := hi1 _ hb3w
  have hs3 : W3.heap.size = w2.heap.size + 1 := by rw [← hW3]; simp
  clear hi1 hb0 hr0 h2 hb2 hr2 hb3 hW3
  go_upto_region 3 with (first
    | (go_at_call 72; refine hi1'.mono ?_; clear hi1'; rintro r w4 ⟨rfl, h4⟩)
    | fail)
  have hb4 : Below w.heap.size w w4 := hb3w.trans (h4.mono hb3w.size)
  have hg4 := (h4.block _ (Dk.block_lt hg3)).trans hg3
  have hr4 := (h4.block _ (Dk.block_lt hr3)).trans hr3
  have hs4 := h4.size
  have hg5 := heap_alloc_new w4 (Dk.hdO B 91)
  have hb5 := Dk.belowA w4 (Dk.hdO B 91)
  have hb5w := hb4.trans (hb5.mono hb4.size)
  have hr5 := (hb5.block _ (Dk.block_lt hr4)).trans hr4
  have ha5 := (hb5.block _ (Dk.block_lt hg4)).trans hg4
  have hne : w.heap.size ≠ w2.heap.size := by omega
  have hne4 : w.heap.size ≠ w4.heap.size := by omega
  unfold Dk.hdO at hb5 hg5 hb5w hr5 ha5
  generalize hW5 : w4.alloc (.cells #[.int .i64 B.side, .int .u32 B.gen, .int .u32 B.size, .int .u32 B.sum] 91) = W5 at *
  obtain ⟨a0, a1, a2, a3⟩ := Try.head_cells (H := A) ha5
  obtain ⟨c0, c1, c2, c3⟩ := Try.head_cells (H := B) hg5
  obtain ⟨r0, r1, r2, r3⟩ := Try.head_cells (H := ⟨0, 0, 0, 0⟩) hr5
  have rf0 : W5.frozen? ⟨w.heap.size, 0, none⟩ = false := frozen_of_row _ _ _ _ _ hr5
  have rf1 : W5.frozen? ⟨w.heap.size, 1, none⟩ = false := frozen_of_row _ _ _ _ _ hr5
  have rf2 : W5.frozen? ⟨w.heap.size, 2, none⟩ = false := frozen_of_row _ _ _ _ _ hr5
  have rf3 : W5.frozen? ⟨w.heap.size, 3, none⟩ = false := frozen_of_row _ _ _ _ _ hr5
  have hset : ∀ H : Hd, (loadVar 91 ⟨w.heap.size, 0, none⟩).run Try.prog ((((W5.setCell ⟨w.heap.size, 0, none⟩ (.int .i64 H.side)).setCell ⟨w.heap.size, 1, none⟩ (.int .u32 H.gen)).setCell ⟨w.heap.size, 2, none⟩ (.int .u32 H.size)).setCell ⟨w.heap.size, 3, none⟩ (.int .u32 H.sum)) = .ok (Dk.hdV H) ((((W5.setCell ⟨w.heap.size, 0, none⟩ (.int .i64 H.side)).setCell ⟨w.heap.size, 1, none⟩ (.int .u32 H.gen)).setCell ⟨w.heap.size, 2, none⟩ (.int .u32 H.size)).setCell ⟨w.heap.size, 3, none⟩ (.int .u32 H.sum)) ∧ Below w.heap.size w ((((W5.setCell ⟨w.heap.size, 0, none⟩ (.int .i64 H.side)).setCell ⟨w.heap.size, 1, none⟩ (.int .u32 H.gen)).setCell ⟨w.heap.size, 2, none⟩ (.int .u32 H.size)).setCell ⟨w.heap.size, 3, none⟩ (.int .u32 H.sum)) := fun H =>
    ⟨Try.ret_head (Dk.set4 _ _ _ _ hr5), (((hb5w.setCell (by simp) _).setCell (by simp) _).setCell (by simp) _).setCell (by simp) _⟩
  clear hr5 ha5 hg5 hg4 hr4 hg3 hr3 hW5 h4
  rcases hcase with ⟨rfl, rfl, rfl, rfl⟩ | ⟨rfl, rfl, hg, rfl, rfl⟩ | ⟨rfl, rfl, hg, rfl, rfl⟩ | ⟨rfl, rfl, rfl⟩
  · obtain ⟨hl, hbf⟩ := hset R
    clear hset
    go_wp2
    refine bodyPost_ret (v := .tuple #[Dk.hdV R, .bool true]) (by simp [results, Try.results46, asAddr, hl]) rfl ?_
    exact ⟨rfl, hbf⟩
  · obtain ⟨hl, hbf⟩ := hset R
    clear hset
    have qg : (B.gen : Int) < (R.gen : Int) := by omega
    have qd : decide ((B.gen : Int) < (R.gen : Int)) = true := by simp; omega
    go_wp2
    refine bodyPost_ret (v := .tuple #[Dk.hdV R, .bool true]) (by simp [results, Try.results46, asAddr, hl]) rfl ?_
    exact ⟨rfl, hbf⟩
  · obtain ⟨hl, hbf⟩ := hset R
    clear hset
    have qg : ¬ (R.gen : Int) < (A.gen : Int) := by omega
    have qd : decide ((R.gen : Int) < (A.gen : Int)) = false := by simp; omega
    go_wp2
    refine bodyPost_ret (v := .tuple #[Dk.hdV R, .bool true]) (by simp [results, Try.results46, asAddr, hl]) rfl ?_
    exact ⟨rfl, hbf⟩
  · obtain ⟨hl, hbf⟩ := hset R
    clear hset
    go_wp2
    refine bodyPost_ret (v := .tuple #[Dk.hdV R, .bool t]) (by simp [results, Try.results46, asAddr, hl]) rfl ?_
    exact ⟨rfl, hbf⟩
set_option maxRecDepth 20000 in
set_option maxHeartbeats 1000000 in
theorem Try.open_full {w : World} {own : Nat → Prop} {x : Nat} {s : DS} (h : Try.Dsk w own x s) (hd : s.dead = false) (hn : 8 ≤ s.n) (a b : Option Hd) (ha : headIn s.view s.n 0 = a) (hb : headIn s.view s.n 1 = b) (H : Hd) (hH : Dk.heads a b = some H) (h1 : H.side ≤ 1) (h2 : H.size ≤ 64 * half s.n) :
    Calls Try.prog 16 #[.pointer (some ⟨x, 0, none⟩)] w fun r w' => ∃ y sn rv, r = .returned (.tuple #[.pointer (some ⟨y, 0, none⟩), sn, rv, .int .i64 0]) ∧ Try.Opened w w' x s H y sn rv := by
  obtain ⟨hvl, hn0, hn1⟩ := h.len
  have hhl := Dk.half_le hn1
  have hal := Dk.area_len (side := H.side) hvl (by omega) h1
  have hpw := Try.powered_any h
  rw [hd] at hpw
  have hco := Try.counting_full h hd hn a b ha hb
  rw [hH] at hco
  have hop : ∀ W, Below w.heap.size w W → Calls Try.prog 47 #[.pointer (some ⟨x, 0, none⟩), Dk.hdV H] W _ := fun W hW => Try.opened_any (h.below hW) H (by omega)
  have hsz : ∀ W, Below w.heap.size w W → Calls Try.prog 52 #[.agg #[.pointer (some ⟨x, 0, none⟩), .int .i64 H.side]] W _ := fun W hW => Try.asize_any (h.below hW) (by omega) H.side
  have hrd : ∀ W, Below w.heap.size w W → Calls Try.prog 51 #[.agg #[.pointer (some ⟨x, 0, none⟩), .int .i64 H.side], .int .i64 (64 * half s.n : Nat)] W _ := fun W hW => Try.aread_any (h.below hW) hd (by omega) H.side h1 (64 * half s.n) (Nat.le_refl _)
  rw [List.take_of_length_le (by omega)] at hrd
  obtain ⟨R, hR⟩ : ∃ R, R = area s.view s.n H.side := ⟨_, rfl⟩
  rw [← hR] at hrd hal
  have hcu : ∀ W g, Dk.Row W g R → Calls Try.prog 53 #[.slice (some ⟨g, 0, none⟩) R.length R.length, .int .i64 H.size] W _ := fun W g hg => Try.cut_any hg (by omega) H.size (by omega)
  rw [hal] at hcu
  generalize hS : 64 * half s.n = S at *
  have HR : Hid (R = area s.view s.n H.side) := hR
  have HA : Hid (R.length = S) := hal
  clear h hH ha hb hvl hR hal
  unfold Dk.hdV at hop hco
  unfold Dk.hdO2 at hco
  have q1 : (H.size : Int) ≤ (S : Int) := by omega
  go_enter Try.func16, Try.ntmps16
  go_upto_region 7 with (first
    | (go_at_call 45; refine hpw.mono ?_; clear hpw; rintro r w2 ⟨rfl, rfl⟩)
    | (go_at_call 46; refine hco.mono ?_; clear hco; rintro r w3 ⟨rfl, h3⟩; have h3a := fun o => h3.alloc (B := w2.heap.size) h3.size o)
    | (go_at_call 47; refine (hop _ (h3a _)).mono ?_; clear hop; rintro r w4 ⟨y, rfl, hy4, hj4, h4⟩)
    | fail)
  have hb4 : Below w2.heap.size w2 w4 := (h3a _).trans (h4.mono (h3a _).size)
  have hy0 : w2.heap.size ≤ y := Nat.le_trans (h3a _).size hy4
  have hyl : y < w4.heap.size := Dk.block_lt hj4
  obtain ⟨c0, c1, c2, c3, c4⟩ := hj4.c
  clear h3 h3a h4 hy4
  go_cut [9, 10] (fun r b wx => b = .bool true ∧ ∃ g, r = .slice (some ⟨g, 0, none⟩) S S ∧ w4.heap.size ≤ g ∧ wx.heap[g]? = some (.cells (Lib.byteCells R).toArray 5 (0, 0)) ∧ Below w4.heap.size w4 wx)
  case first =>
    have h44 := Below.refl w4.heap.size w4
    go_region_held3 (fun W => W.cell? ⟨y, 0, none⟩ = some (.pointer (some ⟨x, 0, none⟩)) ∧ W.cell? ⟨y, 1, none⟩ = some (.int .i64 H.side)) (first | exact ⟨c0, c1⟩ | exact ⟨Dk.cellB hb6 hyl c0, Dk.cellB hb6 hyl c1⟩ | exact ⟨Dk.cellB hb5 hyl c0, Dk.cellB hb5 hyl c1⟩) (first
      | (go_at_call 52; refine (hsz _ hb4.drew).mono ?_; clear hsz; rintro r w5 ⟨rfl, h5⟩; have hb5 : Below w4.heap.size w4 w5 := h44.drew.trans h5)
      | (go_at_call 51; refine (hrd _ (hb4.trans (hb5.mono hb4.size))).mono ?_; clear hrd; rintro r w6 ⟨g, rfl, hg6, hr6, h6⟩; have hb6 : Below w4.heap.size w4 w6 := hb5.trans (h6.mono hb5.size)))
    all_goals
      go_wp2
      go_meet
      case rel => exact ⟨rfl, g, rfl, Nat.le_trans hb5.size hg6, hr6, hb6⟩
  case rest =>
    obtain ⟨rfl, g, rfl, hg, hrow, hb6⟩ := hcut
    clear hsz hrd c0 c1 c2 c3 c4
    have hj6 := hj4.below hb6
    have hb6w := hb4.trans (hb6.mono hb4.size)
    obtain ⟨c0, c1, c2, c3, c4⟩ := hj6.c
    have q2 : (0 : Int) ≤ (H.size : Int) := by omega
    have hR6 := Dk.row_row hrow
    go_wp2
    go_quiet (fail)
    have hcu6 := hcu (wc.drewN nq) g (hR6.below (Dk.belowN wc nq))
    have hbN : Below w4.heap.size w4 (wc.drewN nq) := hb6.trans ((Dk.belowN wc nq).mono hb6.size)
    obtain ⟨E, hE⟩ : ∃ E, E = (cut R H.size).2 := ⟨_, rfl⟩
    obtain ⟨D, hD⟩ : ∃ D, D = (cut R H.size).1 := ⟨_, rfl⟩
    rw [← hE, ← hD] at hcu6
    have HE : Hid (E = (cut R H.size).2) := hE
    have HD : Hid (D = (cut R H.size).1) := hD
    have hR7 := hR6.below (Dk.belowN wc nq)
    have HRW : Hid ((wc.drewN nq).heap[g]? = some (.cells (Lib.byteCells R).toArray 5 (0, 0))) := hrow
    generalize wc.drewN nq = W6 at *
    clear hcu hE hD c0 c1 c2 c3 c4 hrow hj6 hb6w
    have hj6 := hj4.below hbN
    obtain ⟨c0, c1, c2, c3, c4⟩ := hj6.c
    go_wp2_with (first
      | (go_at_call 53; refine hcu6.mono ?_; clear hcu6; rintro r w8 ⟨v, rfl, hv8, h8⟩; have hj8 := hj6.below h8; obtain ⟨e0, e1, e2, e3, e4⟩ := hj8.c; have ef := hj8.fr 3)
      | fail)
    have hgW : g < W6.heap.size := hR7.lt
    have hyW : y < W6.heap.size := Nat.lt_of_lt_of_le hyl hbN.size
    have hb8 : Below w4.heap.size w4 w8 := hbN.trans (h8.mono hbN.size)
    have hoth := fun k (hk : k ≠ y) => Below.heap_setCell w8 ⟨y, 3, none⟩ (.int .i64 E) k hk
    have hjF : Try.Jn (w8.setCell ⟨y, 3, none⟩ (.int .i64 E)) y x H.side H.gen E s.falls := heap_setCell_same w8 y 3 _ _ (.int .i64 E) hj8
    have hbF : Below w2.heap.size w2 (w8.setCell ⟨y, 3, none⟩ (.int .i64 E)) := (hb4.trans (hb8.mono hb4.size)).setCell hy0 _
    have hRF : (w8.setCell ⟨y, 3, none⟩ (.int .i64 E)).heap[g]? = some (.cells (Lib.byteCells R).toArray 5 (0, 0)) := (hoth g (by omega)).trans ((h8.block g hgW).trans HRW.out)
    have hvF : (w8.setCell ⟨y, 3, none⟩ (.int .i64 E)).ownsRow w2.heap.size 22 1 v D.length (Dk.recCs g H.size D) := by
      have h9 := Dk.row_heap (w' := w8.setCell ⟨y, 3, none⟩ (.int .i64 E)) hv8 fun k e => hoth k (by have := (hv8.lt k e).1; omega)
      refine ⟨h9.1, h9.2.imp id ?_⟩
      rintro ⟨g9, cap, cur, e1, e2, e3⟩
      exact ⟨g9, cap, cur, e1, Nat.le_trans (Nat.le_trans hb4.size hbN.size) e2, e3⟩
    refine bodyPost_ret (v := .tuple #[.pointer (some ⟨y, 0, none⟩), .slice (some ⟨g, 0, none⟩) H.size H.size, v, .int .i64 0]) (by simp [results, Try.results16]) rfl ?_
    refine ⟨y, _, v, rfl, ⟨g, Nat.le_trans hb4.size hg, ?_, rfl, ?_⟩, hy0, ?_, hbF⟩
    · rw [← HR.out]; exact hRF
    · rw [← HR.out, ← HD.out]; exact hvF
    · rw [← HR.out, ← HE.out]; exact hjF
theorem Try.heads_counting (s : DS) : Dk.heads (headIn s.view s.n 0) (headIn s.view s.n 1) = counting s.view s.n := by
  unfold Dk.heads counting
  cases headIn s.view s.n 0 <;> cases headIn s.view s.n 1 <;> rfl
set_option maxRecDepth 20000 in
set_option maxHeartbeats 1000000 in
theorem Try.open_none {w : World} {own : Nat → Prop} {x : Nat} {s : DS} (h : Try.Dsk w own x s) (hd : s.dead = false) (hn : 8 ≤ s.n) (hc : counting s.view s.n = none) :
    Calls Try.prog 16 #[.pointer (some ⟨x, 0, none⟩)] w fun r w' => r = .returned (.tuple #[.pointer none, .slice none 0 0, .slice none 0 0, .int .i64 50]) ∧ Below w.heap.size w w' ∧ w.heap.size < w'.heap.size := by
  have hpw := Try.powered_any h
  rw [hd] at hpw
  have hco := Try.counting_full h hd hn _ _ rfl rfl
  rw [Try.heads_counting, hc] at hco
  unfold Dk.hdV Dk.hdO2 at hco
  have ha : ∀ W, Below w.heap.size w W → Below w.heap.size w (W.alloc (.cells #[.int .i64 0, .int .u32 0, .int .u32 0, .int .u32 0] 91)) := fun W hW => hW.alloc hW.size _
  clear h
  go_enter Try.func16, Try.ntmps16
  go_wp2_with (first
    | (go_at_call 45; refine hpw.mono ?_; clear hpw; rintro r w2 ⟨rfl, e5⟩; have e6 := e5.symm; clear e5; subst e6)
    | (go_at_call 46; refine hco.mono ?_; clear hco; rintro r w3 ⟨rfl, h3⟩)
    | fail)
  refine bodyPost_ret (v := .tuple #[.pointer none, .slice none 0 0, .slice none 0 0, .int .i64 50]) (by simp [results, Try.results16]) rfl ?_
  exact ⟨rfl, ha _ h3, by have := h3.size; simp; omega⟩
/-- Open of any disk that has power. -/
theorem Try.open_disk {w : World} {own : Nat → Prop} {x : Nat} {s : DS} (h : Try.Dsk w own x s) (hd : s.dead = false) (hn : 8 ≤ s.n) :
    Calls Try.prog 16 #[.pointer (some ⟨x, 0, none⟩)] w fun r w' => (counting s.view s.n = none ∧ r = .returned (.tuple #[.pointer none, .slice none 0 0, .slice none 0 0, .int .i64 50]) ∧ Below w.heap.size w w' ∧ w.heap.size < w'.heap.size) ∨ (∃ H y sn rv, counting s.view s.n = some H ∧ r = .returned (.tuple #[.pointer (some ⟨y, 0, none⟩), sn, rv, .int .i64 0]) ∧ Try.Opened w w' x s H y sn rv) := by
  cases hc : counting s.view s.n with
  | none => exact (Try.open_none h hd hn hc).mono fun r w' ⟨h1, h2⟩ => .inl ⟨rfl, h1, h2⟩
  | some H =>
    have hs := Dk.counting_small hc
    exact (Try.open_full h hd hn _ _ rfl rfl H (by rw [Try.heads_counting, hc]) hs.1 hs.2.1).mono fun r w' ⟨y, sn, rv, h1, h2⟩ => .inr ⟨H, y, sn, rv, rfl, h1, h2⟩
end Go.Proofs
