/-
  headIn: a block of noughts; a right head.
-/
import Derived.Test.YtbnokhaimcpggaaEr
import Derived.StillTailTactics
namespace Go.Dk
theorem of_lt (b : List UInt8) : (Hd.of b).side < 256 ∧ (Hd.of b).gen < 4294967296 ∧ (Hd.of b).size < 4294967296 ∧ (Hd.of b).sum < 4294967296 := by
  have h : ∀ k, num ((b.drop k).take 4) < 4294967296 := fun k => by
    have h1 := num_lt ((b.drop k).take 4)
    have h2 : ((b.drop k).take 4).length ≤ 4 := by rw [List.length_take]; omega
    have h3 : 256 ^ ((b.drop k).take 4).length ≤ 256 ^ 4 := Nat.pow_le_pow_right (by omega) h2
    have : (256 : Nat) ^ 4 = 4294967296 := by decide
    omega
  exact ⟨UInt8.toNat_lt _, h 8, h 12, h 16⟩
theorem headIn_some {v : List UInt8} {n k : Nat} {H : Hd} (h : headIn v n k = some H) : H = Hd.of (blk v k) ∧ H.side ≤ 1 ∧ 1 ≤ H.gen ∧ H.gen ≤ 999999999 ∧ H.gen % 2 = k ∧ H.bytes = blk v k ∧ H.size ≤ 64 * half n ∧ fnv ((area v n H.side).take H.size) = H.sum := by
  unfold headIn at h
  cases hs : headS (blk v k) k with
  | none => rw [hs] at h; cases h
  | some H' =>
    rw [hs] at h
    unfold headS at hs
    split at hs
    · cases hs
    · rename_i h1
      simp only at h
      split at h
      · cases h
      · rename_i h2
        split at h
        · cases h
        · rename_i h3
          have e1 := Option.some.inj h
          have e2 := Option.some.inj hs
          subst e1
          subst e2
          simp only [not_or, Nat.not_lt, Decidable.not_not] at h1 h2 h3
          exact ⟨rfl, h1.1, h1.2.1, h1.2.2.1, h1.2.2.2.1, h1.2.2.2.2, h2, h3⟩
end Go.Dk
namespace Go.Proofs
open Go.RowKit Go.Dk
theorem Try.ret_head {W : World} {b : Nat} {H : Hd} (h : W.heap[b]? = some (Dk.hdO H 91)) : (loadVar 91 ⟨b, 0, none⟩).run Try.prog W = .ok (Dk.hdV H) W :=
  run_loadVar_mid (P := Try.prog) W b 0 91 [.int .i64 H.side, .int .u32 H.gen, .int .u32 H.size, .int .u32 H.sum] _ (fun j v hj => by rw [Nat.zero_add, cell_of_row _ _ _ _ _ _ h]; simpa using hj) Try.underlying91 rfl (by kernel_rfl)
theorem Dk.set4 {W : World} {b : Nat} {T : TypeId} {a0 a1 a2 a3 : Value} (v0 v1 v2 v3 : Value) (h : W.heap[b]? = some (.cells #[a0, a1, a2, a3] T (0, 0))) :
    ((((W.setCell ⟨b, 0, none⟩ v0).setCell ⟨b, 1, none⟩ v1).setCell ⟨b, 2, none⟩ v2).setCell ⟨b, 3, none⟩ v3).heap[b]? = some (.cells #[v0, v1, v2, v3] T (0, 0)) :=
  heap_setCell_same _ b 3 _ _ v3 (heap_setCell_same _ b 2 _ _ v2 (heap_setCell_same _ b 1 _ _ v1 (heap_setCell_same W b 0 _ _ v0 h)))
theorem Dk.wp_callP {P : Program} {o : Oper} {a : Act} {w : World} {K : Act → World → Prop} {Q : Exit → Act → World → Prop} (f : FuncId) (args : Array Value) (hrun : (execOp a.eval o).run P w = .ok (.enter f args) w) {R : Ending → World → Prop}
    (hc : Calls P f args w R) (h : ∀ e w', R e w' → ∃ v, e = .returned v ∧ K (a.put o.dst v) w') : o.wp P a w K Q := by
  unfold Oper.wp
  rw [hrun, Oper.upon_enter]
  refine hc.mono fun e w'' hh => ?_
  obtain ⟨v, rfl, h1⟩ := h e w'' hh
  exact h1
/-- The block that was read. -/
def Try.Q4 (G : Nat) (B : List UInt8) (W : World) : Prop := W.heap[G]? = some (.cells (Lib.byteCells B).toArray 5 (0, 0))
theorem Try.Q4.below {G : Nat} {B : List UInt8} {W W' : World} (h : Try.Q4 G B W) (hb : Below W.heap.size W W') : Try.Q4 G B W' := (hb.block _ (Dk.block_lt h)).trans h
theorem Try.Q4.alloc {G : Nat} {B : List UInt8} {W : World} (h : Try.Q4 G B W) (o : Obj) : Try.Q4 G B (W.alloc o) := h.below (Dk.belowA W o)
theorem Try.Q4.drew {G : Nat} {B : List UInt8} {W : World} (h : Try.Q4 G B W) : Try.Q4 G B W.drew := h
theorem Try.Q4.c6 {G : Nat} {B : List UInt8} {W : World} (h : Try.Q4 G B W) (hB : B.length = 64) : W.cell? ⟨G, 6, none⟩ = some (.int .u8 ((Hd.of B).side : Nat)) := by
  rw [cell_of_row _ _ _ _ _ _ h, List.getElem?_toArray, Dk.byteCell (by omega)]
  simp [Hd.of, List.getD, List.getElem?_eq_getElem (show 6 < B.length by omega)]
theorem Try.Q4.num {G : Nat} {B : List UInt8} {W : World} (h : Try.Q4 G B W) (hB : B.length = 64) (o c : Nat) (ho : o + 4 ≤ 64) : Calls Try.prog 91 #[.slice (some ⟨G, o, none⟩) 4 c] W fun e w' => e = .returned (.int .u32 (num ((B.drop o).take 4))) ∧ w' = W :=
  Try.number_any ((Dk.row_row h).sub o 4 c (by omega)) (by rw [List.length_take]; omega)
set_option maxRecDepth 20000 in
set_option maxHeartbeats 2000000 in
/-- The walk up to the head's own test. -/
theorem Try.headIn_any {w : World} {own : Nat → Prop} {x : Nat} {s : DS} (h : Try.Dsk w own x s) (hd : s.dead = false) (hn : 8 ≤ s.n) (k : Nat) (hk : k ≤ 1) (o : Option Hd) (ho : (o = none ∧ (Hd.of (blk s.view k)).side ≤ 1 ∧ (Hd.of (blk s.view k)).gen < 1) ∨ (∃ H, o = some H ∧ headIn s.view s.n k = some H)) :
    Calls Try.prog 72 #[.pointer (some ⟨x, 0, none⟩), .int .i64 k] w fun r w' => r = .returned (match o with | none => .tuple #[Dk.hdV ⟨0, 0, 0, 0⟩, .bool false] | some H => .tuple #[Dk.hdV H, .bool true]) ∧ Below w.heap.size w w' := by
  obtain ⟨hvl, hn0, hn1⟩ := h.len
  have hbl := blk_length hvl (show k < s.n by omega)
  have hrd : ∀ W, Below w.heap.size w W → Calls Try.prog 32 #[.pointer (some ⟨x, 0, none⟩), .int .i64 k] W _ := fun W hW => by
    obtain ⟨l, t, V, hm, hf⟩ := (h.below hW).ex
    exact Try.read_ok hm rfl hd k (by omega)
  obtain ⟨B, hB⟩ : ∃ B, B = blk s.view k := ⟨_, rfl⟩
  rw [← hB] at hbl hrd
  have hol := of_lt B
  obtain ⟨D, hD⟩ : ∃ D, D = Hd.of B := ⟨_, rfl⟩
  have hb0 := Dk.belowA w (Dk.hdO ⟨0, 0, 0, 0⟩ 91)
  have hres0 := heap_alloc_new w (Dk.hdO ⟨0, 0, 0, 0⟩ 91)
  have hres0 := heap_alloc_new w (Dk.hdO ⟨0, 0, 0, 0⟩ 91)
  unfold Dk.hdO at hb0 hres0
  have n8 : ∀ W, Try.Q4 (w.heap.size + 1) B W → ∀ c, Calls Try.prog 91 #[.slice (some ⟨w.heap.size + 1, 8, none⟩) 4 c] W fun e w' => e = .returned (.int .u32 D.gen) ∧ w' = W := fun W hW c => by rw [hD]; exact Try.Q4.num hW hbl 8 c (by omega)
  have n12 : ∀ W, Try.Q4 (w.heap.size + 1) B W → ∀ c, Calls Try.prog 91 #[.slice (some ⟨w.heap.size + 1, 12, none⟩) 4 c] W fun e w' => e = .returned (.int .u32 D.size) ∧ w' = W := fun W hW c => by rw [hD]; exact Try.Q4.num hW hbl 12 c (by omega)
  have n16 : ∀ W, Try.Q4 (w.heap.size + 1) B W → ∀ c, Calls Try.prog 91 #[.slice (some ⟨w.heap.size + 1, 16, none⟩) 4 c] W fun e w' => e = .returned (.int .u32 D.sum) ∧ w' = W := fun W hW c => by rw [hD]; exact Try.Q4.num hW hbl 16 c (by omega)
  have hc6 : ∀ W, Try.Q4 (w.heap.size + 1) B W → W.cell? ⟨w.heap.size + 1, 6, none⟩ = some (.int .u8 (D.side : Nat)) := fun W hW => by rw [hD]; exact hW.c6 hbl
  rw [← hB, ← hD] at ho
  rw [← hD] at hol
  have HD : Hid (D = Hd.of B) := hD
  have HB : Hid (B = blk s.view k) := hB
  clear hB hD
  have hrd0 := hrd _ hb0
  go_enter Try.func72, Try.ntmps72
  go_wp2_with (go_at_call 32; refine hrd0.mono ?_; clear hrd0; rintro r w2 ⟨rfl, h2, hb2⟩)
  have q2 : Try.Q4 (w.heap.size + 1) B w2 := by have := h2; simp at this; exact this
  have hsz2 : w.heap.size + 1 < w2.heap.size := Dk.block_lt q2
  have hbw2 : Below w.heap.size w w2 := hb0.trans (hb2.mono (by simp))
  have hre2 := (hb2.block _ (by simp)).trans hres0
  clear h2 hb2 hres0 hb0
  go_cut [8] (fun p wx => ∃ Hb, p = .pointer (some ⟨Hb, 0, none⟩) ∧ w.heap.size + 1 < Hb ∧ wx.heap[Hb]? = some (Dk.hdO D 91) ∧ Try.Q4 (w.heap.size + 1) B wx ∧ wx.heap[w.heap.size]? = some (Dk.hdO ⟨0, 0, 0, 0⟩ 91) ∧ Below w.heap.size w wx)
  case first =>
    have qd := q2.drew
    have c6 := hc6 _ q2
    have qa := (q2.drew).alloc (.cells #[.int .i64 0, .int .u32 0, .int .u32 0, .int .u32 0] 91)
    have ca := hc6 _ qa
    have hdb := (Below.refl w2.heap.size w2).drew
    go_region_held3 (fun W => W.cell? ⟨w.heap.size + 1, 6, none⟩ = some (.int .u8 (D.side : Nat)) ∧ Try.Q4 (w.heap.size + 1) B W) (first | exact ⟨c6, qd⟩ | exact ⟨ca, qa⟩ | assumption | exact ⟨hc6 _ ((q2.drew).alloc _), (q2.drew).alloc _⟩) (first
      | (go_at_call 91; refine (n8 _ (by assumption) _).mono ?_; clear n8; rintro r w4 ⟨rfl, rfl⟩)
      | (go_at_call 91; refine (n12 _ (by assumption) _).mono ?_; clear n12; rintro r w4 ⟨rfl, rfl⟩)
      | (go_at_call 91; refine (n16 _ (by assumption) _).mono ?_; clear n16; rintro r w4 ⟨rfl, rfl⟩))
    all_goals
      go_wp2
      go_meet
      case rel =>
        have u1 : IntKind.i64.wrap (D.side : Int) = (D.side : Int) := by rw [IntKind.wrap_i64]; omega
        rw [u1]
        exact ⟨w2.heap.size, rfl, hsz2, heap_alloc_new w2 _, q2.alloc _, ((Dk.belowA w2 _).block _ (by omega)).trans hre2, (hbw2.trans ((Dk.belowA w2 _).mono hbw2.size)).drew⟩
  case rest =>
    obtain ⟨Hb, rfl, hHb, hh, q3, hre3, hb3⟩ := hcut
    clear n8 n12 n16 hre2 hbw2 q2 hsz2
    unfold Dk.hdO at hh hre3
    have e0 : wc.cell? ⟨Hb, 0, none⟩ = some (.int .i64 D.side) := by rw [cell_of_row _ _ _ _ _ _ hh]; rfl
    have e1 : wc.cell? ⟨Hb, 1, none⟩ = some (.int .u32 D.gen) := by rw [cell_of_row _ _ _ _ _ _ hh]; rfl
    have e2 : wc.cell? ⟨Hb, 2, none⟩ = some (.int .u32 D.size) := by rw [cell_of_row _ _ _ _ _ _ hh]; rfl
    have e3 : wc.cell? ⟨Hb, 3, none⟩ = some (.int .u32 D.sum) := by rw [cell_of_row _ _ _ _ _ _ hh]; rfl
    have r0 : wc.cell? ⟨w.heap.size, 0, none⟩ = some (.int .i64 0) := by rw [cell_of_row _ _ _ _ _ _ hre3]; rfl
    have r1 : wc.cell? ⟨w.heap.size, 1, none⟩ = some (.int .u32 0) := by rw [cell_of_row _ _ _ _ _ _ hre3]; rfl
    have r2 : wc.cell? ⟨w.heap.size, 2, none⟩ = some (.int .u32 0) := by rw [cell_of_row _ _ _ _ _ _ hre3]; rfl
    have r3 : wc.cell? ⟨w.heap.size, 3, none⟩ = some (.int .u32 0) := by rw [cell_of_row _ _ _ _ _ _ hre3]; rfl
    have rf : ∀ j, wc.frozen? ⟨w.heap.size, j, none⟩ = false := fun j => frozen_of_row _ _ _ _ _ hre3
    rcases ho with ⟨rfl, ho1, ho2⟩ | ⟨H, rfl, hH⟩
    · have d1 : decide ((1 : Int) < (D.side : Int)) = false := by simp; omega
      have d2 : decide ((D.gen : Int) < 1) = true := by simp; omega
      have rf0 := rf 0
      have rf1 := rf 1
      have rf2 := rf 2
      have rf3 := rf 3
      have hbn := fun n => (Dk.belowN wc n)
      clear hh q3 hc6 hrd h HD HB
      go_wp2
      go_quiet (fail)
      go_wp2
      have hfin := Dk.set4 (.int .i64 0) (.int .u32 0) (.int .u32 0) (.int .u32 0) (W := wc.drewN nq) hre3
      have hbf : Below w.heap.size w (((((wc.drewN nq).setCell ⟨w.heap.size, 0, none⟩ (.int .i64 0)).setCell ⟨w.heap.size, 1, none⟩ (.int .u32 0)).setCell ⟨w.heap.size, 2, none⟩ (.int .u32 0)).setCell ⟨w.heap.size, 3, none⟩ (.int .u32 0)) := ((((hb3.trans ((Dk.belowN wc nq).mono hb3.size)).setCell (by simp) _).setCell (by simp) _).setCell (by simp) _).setCell (by simp) _
      have hload := Try.ret_head (H := ⟨0, 0, 0, 0⟩) hfin
      generalize (((((wc.drewN nq).setCell ⟨w.heap.size, 0, none⟩ (.int .i64 0)).setCell ⟨w.heap.size, 1, none⟩ (.int .u32 0)).setCell ⟨w.heap.size, 2, none⟩ (.int .u32 0)).setCell ⟨w.heap.size, 3, none⟩ (.int .u32 0)) = W9 at *
      refine bodyPost_ret (v := .tuple #[Dk.hdV ⟨0, 0, 0, 0⟩, .bool false]) (by simp [results, Try.results72, asAddr, hload]) rfl ?_
      exact ⟨rfl, hbf⟩
    · obtain ⟨hHD, f1, f2, f3, f4, f5, f6, f7⟩ := headIn_some hH
      rw [← HB.out] at hHD f5
      rw [← HD.out] at hHD
      subst hHD
      have hsz1 : ∀ W, Below w.heap.size w W → Calls Try.prog 52 #[.agg #[.pointer (some ⟨x, 0, none⟩), .int .i64 H.side]] W _ := fun W hW => Try.asize_any (h.below hW) (by omega) H.side
      have hrd1 : ∀ W, Below w.heap.size w W → Calls Try.prog 51 #[.agg #[.pointer (some ⟨x, 0, none⟩), .int .i64 H.side], .int .i64 H.size] W _ := fun W hW => Try.aread_any (h.below hW) hd (by omega) H.side f1 H.size f6
      have hpl : ∀ W, Calls Try.prog 92 #[Dk.hdV H] W _ := fun W => Try.place_any W H (by omega)
      have hby : ∀ W, Calls Try.prog 93 #[Dk.hdV H] W _ := fun W => Try.hbytes_any W H f1 (by omega) (by omega) (by omega)
      rw [f4] at hpl
      rw [f5] at hby
      unfold Dk.hdV at hpl hby
      have hhl := Dk.half_le hn1
      have eqb := fun W d => Try.eq_block W d B B hbl hbl
      have eqm : ∀ W : World, (Op.equalIn 10000 134 (.agg (Lib.byteCells B).toArray) (.agg (Lib.byteCells B).toArray)).run Try.prog W = .ok true W := fun W => by
        have h9 := eqb W 9998
        rw [show decide (B = B) = true by simp] at h9
        exact h9
      clear eqb
      have d1 : decide ((1 : Int) < (H.side : Int)) = false := by simp; omega
      have d2 : decide ((H.gen : Int) < 1) = false := by simp; omega
      have d3 : decide ((999999999 : Int) < (H.gen : Int)) = false := by simp; omega
      have hra : wc.rangeAt (w.heap.size + 1) 0 (Lib.byteCells B) := fun j v hj => by rw [Nat.zero_add, cell_of_row _ _ _ _ _ _ q3, List.getElem?_toArray]; exact hj
      have hcl : (Lib.byteCells B).length = 64 := by rw [Dk.byteCells_len, hbl]
      have hin : (Try.prog.info? 134).map (·.size) = some (Lib.byteCells B).length := by rw [hcl]; exact Try.size_block
      have hun := Try.underlying134
      have hone := Dk.one_bytes B
      have harr : ∀ W : World, (Instr.arrayAt 134 (.slice (some ⟨w.heap.size + 1, 0, none⟩) 64 64)).run Try.prog W = .ok (.pointer (some ⟨w.heap.size + 1, 0, none⟩)) W := fun W => by kernel_rfl
      generalize hBB : Lib.byteCells B = BB at *
      go_wp2
      have hcc := Below.refl wc.heap.size wc
      have hHl := Dk.block_lt hh
      have hGl := Dk.block_lt q3
      have hKK : ∀ W, Below wc.heap.size wc W → W.cell? ⟨Hb, 0, none⟩ = some (.int .i64 H.side) ∧ W.cell? ⟨Hb, 1, none⟩ = some (.int .u32 H.gen) ∧ W.cell? ⟨Hb, 2, none⟩ = some (.int .u32 H.size) ∧ W.cell? ⟨Hb, 3, none⟩ = some (.int .u32 H.sum) ∧ W.rangeAt (w.heap.size + 1) 0 BB := fun W hW => ⟨Dk.cellB hW hHl e0, Dk.cellB hW hHl e1, Dk.cellB hW hHl e2, Dk.cellB hW hHl e3, fun j v hj => Dk.cellB hW hGl (hra j v hj)⟩
      have hrs : ∀ W, Below wc.heap.size wc W → W.heap[w.heap.size]? = some (.cells #[.int .i64 0, .int .u32 0, .int .u32 0, .int .u32 0] 91 (0, 0)) := fun W hW => (hW.block _ (by omega)).trans hre3
      go_cut [61] (fun c wx => c = .bool false ∧ Below wc.heap.size wc wx)
      case first =>
        clear hrd1 hsz1 hrd h hc6 r0 r1 r2 r3 rf
        refine wp_region_held_drew (S := fun W => W.cell? ⟨Hb, 0, none⟩ = some (.int .i64 H.side) ∧ W.cell? ⟨Hb, 1, none⟩ = some (.int .u32 H.gen) ∧ W.cell? ⟨Hb, 2, none⟩ = some (.int .u32 H.size) ∧ W.cell? ⟨Hb, 3, none⟩ = some (.int .u32 H.sum) ∧ W.rangeAt (w.heap.size + 1) 0 BB) (by kernel_rfl) (hKK _ hcc.drew) ?_
        intro hS
        (refine wpAnyH_take (i := 0) (v := ?_) rfl (by kernel_rfl) (by kernel_rfl) (by kernel_rfl) (fun _ _ _ h => h) (Or.inl ⟨by rfl, ?_⟩) (by assumption) ?_; rotate_left; (· (intro w hSw; (try dsimp only at hSw); go_simp; try with_reducible rfl)); (try simp only [Act.put, List.getElem_toArray, List.getElem_cons_zero, List.setIfInBounds_toArray, List.set_cons_zero, List.set_cons_succ]))
        (refine wpAnyH_take (i := 1) (v := ?_) rfl (by kernel_rfl) (by kernel_rfl) (by kernel_rfl) (fun _ _ _ h => h) (Or.inl ⟨by rfl, ?_⟩) (by assumption) ?_; rotate_left; (· (intro w hSw; (try dsimp only at hSw); go_simp; try with_reducible rfl)); (try simp only [Act.put, List.getElem_toArray, List.getElem_cons_zero, List.getElem_cons_succ, List.setIfInBounds_toArray, List.set_cons_zero, List.set_cons_succ]))
        (refine wpAnyH_take (i := 2) (v := ?_) rfl (by kernel_rfl) (by kernel_rfl) (by kernel_rfl) (fun _ _ _ h => h) (Or.inl ⟨by rfl, ?_⟩) (by assumption) ?_; rotate_left; (· (intro w hSw; (try dsimp only at hSw); go_simp; try with_reducible rfl)); (try simp only [Act.put, List.getElem_toArray, List.getElem_cons_zero, List.getElem_cons_succ, List.setIfInBounds_toArray, List.set_cons_zero, List.set_cons_succ]))
        (refine wpAnyH_take (i := 3) (v := ?_) rfl (by kernel_rfl) (by kernel_rfl) (by kernel_rfl) (fun _ _ _ h => h) (Or.inl ⟨by rfl, ?_⟩) (by assumption) ?_; rotate_left; (· (intro w hSw; (try dsimp only at hSw); go_simp; try with_reducible rfl)); (try simp only [Act.put, List.getElem_toArray, List.getElem_cons_zero, List.getElem_cons_succ, List.setIfInBounds_toArray, List.set_cons_zero, List.set_cons_succ]))
        (refine wpAnyH_take (i := 4) (v := ?_) rfl (by kernel_rfl) (by kernel_rfl) (by kernel_rfl) (fun _ _ _ h => h) (Or.inl ⟨by rfl, ?_⟩) (by assumption) ?_; rotate_left; (· (intro w hSw; (try dsimp only at hSw); go_simp; try with_reducible rfl)); (try simp only [Act.put, List.getElem_toArray, List.getElem_cons_zero, List.getElem_cons_succ, List.setIfInBounds_toArray, List.set_cons_zero, List.set_cons_succ]))
        (refine wpAnyH_take (i := 5) (v := ?_) rfl (by kernel_rfl) (by kernel_rfl) (by kernel_rfl) (fun _ _ _ h => h) (Or.inl ⟨by rfl, ?_⟩) (by assumption) ?_; rotate_left; (· (intro w hSw; (try dsimp only at hSw); go_simp; try with_reducible rfl)); (try simp only [Act.put, List.getElem_toArray, List.getElem_cons_zero, List.getElem_cons_succ, List.setIfInBounds_toArray, List.set_cons_zero, List.set_cons_succ]))
        (refine wpAnyH_take (i := 6) (v := ?_) rfl (by kernel_rfl) (by kernel_rfl) (by kernel_rfl) (fun _ _ _ h => h) (Or.inl ⟨by rfl, ?_⟩) (by assumption) ?_; rotate_left; (· (intro w hSw; (try dsimp only at hSw); go_simp; try with_reducible rfl)); (try simp only [Act.put, List.getElem_toArray, List.getElem_cons_zero, List.getElem_cons_succ, List.setIfInBounds_toArray, List.set_cons_zero, List.set_cons_succ]))
        (refine wpAnyH_take (i := 7) (v := ?_) rfl (by kernel_rfl) (by kernel_rfl) (by kernel_rfl) (fun _ _ _ h => h) (Or.inl ⟨by rfl, ?_⟩) (by assumption) ?_; rotate_left; (· (intro w hSw; (try dsimp only at hSw); go_simp; try with_reducible rfl)); (try simp only [Act.put, List.getElem_toArray, List.getElem_cons_zero, List.getElem_cons_succ, List.setIfInBounds_toArray, List.set_cons_zero, List.set_cons_succ]))
        (refine wpAnyH_take (i := 8) (v := ?_) rfl (by kernel_rfl) (by kernel_rfl) (by kernel_rfl) (fun _ _ _ h => h) (Or.inl ⟨by rfl, ?_⟩) (by assumption) ?_; rotate_left; (· (intro w hSw; (try dsimp only at hSw); go_simp; try with_reducible rfl)); (try simp only [Act.put, List.getElem_toArray, List.getElem_cons_zero, List.getElem_cons_succ, List.setIfInBounds_toArray, List.set_cons_zero, List.set_cons_succ]))
        (refine wpAnyH_take (i := 9) (v := ?_) rfl (by kernel_rfl) (by kernel_rfl) (by kernel_rfl) (fun _ _ _ h => h) (Or.inl ⟨by rfl, ?_⟩) (by assumption) ?_; rotate_left; (· (intro w hSw; (try dsimp only at hSw); go_simp; try with_reducible rfl)); (try simp only [Act.put, List.getElem_toArray, List.getElem_cons_zero, List.getElem_cons_succ, List.setIfInBounds_toArray, List.set_cons_zero, List.set_cons_succ]))
        (refine wpAnyH_take (i := 10) (v := ?_) rfl (by kernel_rfl) (by kernel_rfl) (by kernel_rfl) (fun _ _ _ h => h) (Or.inl ⟨by rfl, ?_⟩) (by assumption) ?_; rotate_left; (· (intro w hSw; (try dsimp only at hSw); go_simp; try with_reducible rfl)); (try simp only [Act.put, List.getElem_toArray, List.getElem_cons_zero, List.getElem_cons_succ, List.setIfInBounds_toArray, List.set_cons_zero, List.set_cons_succ]))
        (refine wpAnyH_take (i := 11) (v := ?_) rfl (by kernel_rfl) (by kernel_rfl) (by kernel_rfl) (fun _ _ _ h => h) (Or.inl ⟨by rfl, ?_⟩) (by assumption) ?_; rotate_left; (· (intro w hSw; (try dsimp only at hSw); go_simp; try with_reducible rfl)); (try simp only [Act.put, List.getElem_toArray, List.getElem_cons_zero, List.getElem_cons_succ, List.setIfInBounds_toArray, List.set_cons_zero, List.set_cons_succ]))
        (refine wpAnyH_take (i := 12) (v := ?_) rfl (by kernel_rfl) (by kernel_rfl) (by kernel_rfl) (fun _ _ _ h => h) (Or.inl ⟨by rfl, ?_⟩) (by assumption) ?_; rotate_left; (· (intro w hSw; (try dsimp only at hSw); go_simp; try with_reducible rfl)); (try simp only [Act.put, List.getElem_toArray, List.getElem_cons_zero, List.getElem_cons_succ, List.setIfInBounds_toArray, List.set_cons_zero, List.set_cons_succ]))
        (refine wpAnyH_take (i := 13) (v := ?_) rfl (by kernel_rfl) (by kernel_rfl) (by kernel_rfl) (fun _ _ _ h => h) (Or.inl ⟨by rfl, ?_⟩) (by assumption) ?_; rotate_left; (· (intro w hSw; (try dsimp only at hSw); go_simp; try with_reducible rfl)); (try simp only [Act.put, List.getElem_toArray, List.getElem_cons_zero, List.getElem_cons_succ, List.setIfInBounds_toArray, List.set_cons_zero, List.set_cons_succ]))
        (refine wpAnyH_take (i := 14) (v := ?_) rfl (by kernel_rfl) (by kernel_rfl) (by kernel_rfl) (fun _ _ _ h => h) (Or.inl ⟨by rfl, ?_⟩) (by assumption) ?_; rotate_left; (· (intro w hSw; (try dsimp only at hSw); go_simp; try with_reducible rfl)); (try simp only [Act.put, List.getElem_toArray, List.getElem_cons_zero, List.getElem_cons_succ, List.setIfInBounds_toArray, List.set_cons_zero, List.set_cons_succ]))
        (refine wpAnyH_take (i := 16) (v := ?_) rfl (by kernel_rfl) (by kernel_rfl) (by kernel_rfl) (fun _ _ _ h => h) (Or.inl ⟨by rfl, ?_⟩) (by assumption) ?_; rotate_left; (· (intro w hSw; (try dsimp only at hSw); go_simp; try with_reducible rfl)); (try simp only [Act.put, List.getElem_toArray, List.getElem_cons_zero, List.getElem_cons_succ, List.setIfInBounds_toArray, List.set_cons_zero, List.set_cons_succ]))
        refine wpAnyH_ready (rs := [15]) (by kernel_rfl) (by simp) ?_
        refine AllReadyH.cons rfl (fun K hK => ?_) AllReadyH.nil
        rw [if_pos (by rfl)]
        refine Dk.wp_callP 92 #[.agg #[.int .i64 H.side, .int .u32 H.gen, .int .u32 H.size, .int .u32 H.sum]] (by kernel_rfl) (hpl _) ?_
        rintro r w5 ⟨rfl, h5⟩
        have hb5 : Below wc.heap.size wc w5 := hcc.drew.trans h5
        refine ⟨_, rfl, hK.out _ _ (hKK _ hb5) (fun hS5 => ?_)⟩
        clear hK K hpl hS
        try simp only [Act.put, List.getElem_toArray, List.getElem_cons_zero, List.getElem_cons_succ, List.setIfInBounds_toArray, List.set_cons_zero, List.set_cons_succ]
        (refine wpAnyH_take (i := 17) (v := ?_) rfl (by kernel_rfl) (by kernel_rfl) (by kernel_rfl) (fun _ _ _ h => h) (Or.inl ⟨by rfl, ?_⟩) (by assumption) ?_; rotate_left; (· (intro w hSw; (try dsimp only at hSw); go_simp; try with_reducible rfl)); (try simp only [Act.put, List.getElem_toArray, List.getElem_cons_zero, List.getElem_cons_succ, List.setIfInBounds_toArray, List.set_cons_zero, List.set_cons_succ]))
        (refine wpAnyH_take (i := 18) (v := ?_) rfl (by kernel_rfl) (by kernel_rfl) (by kernel_rfl) (fun _ _ _ h => h) (Or.inl ⟨by rfl, ?_⟩) (by assumption) ?_; rotate_left; (· (intro w hSw; (try dsimp only at hSw); go_simp; try with_reducible rfl)); (try simp only [Act.put, List.getElem_toArray, List.getElem_cons_zero, List.getElem_cons_succ, List.setIfInBounds_toArray, List.set_cons_zero, List.set_cons_succ]))
        (refine wpAnyH_take (i := 19) (v := ?_) rfl (by kernel_rfl) (by kernel_rfl) (by kernel_rfl) (fun _ _ _ h => h) (Or.inl ⟨by rfl, ?_⟩) (by assumption) ?_; rotate_left; (· (intro w hSw; (try dsimp only at hSw); go_simp; try with_reducible rfl)); (try simp only [Act.put, List.getElem_toArray, List.getElem_cons_zero, List.getElem_cons_succ, List.setIfInBounds_toArray, List.set_cons_zero, List.set_cons_succ]))
        (refine wpAnyH_take (i := 20) (v := ?_) rfl (by kernel_rfl) (by kernel_rfl) (by kernel_rfl) (fun _ _ _ h => h) (Or.inl ⟨by rfl, ?_⟩) (by assumption) ?_; rotate_left; (· (intro w hSw; (try dsimp only at hSw); go_simp; try with_reducible rfl)); (try simp only [Act.put, List.getElem_toArray, List.getElem_cons_zero, List.getElem_cons_succ, List.setIfInBounds_toArray, List.set_cons_zero, List.set_cons_succ]))
        (refine wpAnyH_take (i := 22) (v := ?_) rfl (by kernel_rfl) (by kernel_rfl) (by kernel_rfl) (fun _ _ _ h => h) (Or.inl ⟨by rfl, ?_⟩) (by assumption) ?_; rotate_left; (· (intro w hSw; (try dsimp only at hSw); go_simp; try with_reducible rfl)); (try simp only [Act.put, List.getElem_toArray, List.getElem_cons_zero, List.getElem_cons_succ, List.setIfInBounds_toArray, List.set_cons_zero, List.set_cons_succ]))
        refine wpAnyH_take (i := 23) (v := .pointer (some ⟨w.heap.size + 1, 0, none⟩)) rfl (by kernel_rfl) (by kernel_rfl) (by kernel_rfl) (fun _ _ _ h => h) (Or.inl ⟨by rfl, fun w _ => by kernel_rfl⟩) (by assumption) ?_
        try simp only [Act.put, List.getElem_toArray, List.getElem_cons_zero, List.getElem_cons_succ, List.setIfInBounds_toArray, List.set_cons_zero, List.set_cons_succ]
        refine wpAnyH_take (i := 24) (v := .agg BB.toArray) rfl (by kernel_rfl) (by kernel_rfl) (by kernel_rfl) (fun _ _ _ h => h) (yieldsIf_load_mid (by rfl) 134 (.tmp 58) rfl (w.heap.size + 1) 0 rfl BB _ (fun w h => h.2.2.2.2) hun rfl hin) (by assumption) ?_
        try simp only [Act.put, List.getElem_toArray, List.getElem_cons_zero, List.getElem_cons_succ, List.setIfInBounds_toArray, List.set_cons_zero, List.set_cons_succ]
        refine wpAnyH_ready (rs := [21]) (by kernel_rfl) (by simp) ?_
        refine AllReadyH.cons rfl (fun K hK => ?_) AllReadyH.nil
        rw [if_pos (by rfl)]
        refine Dk.wp_callP 93 #[.agg #[.int .i64 H.side, .int .u32 H.gen, .int .u32 H.size, .int .u32 H.sum]] (by kernel_rfl) (hby _) ?_
        rintro r w6 ⟨rfl, h6⟩
        have hb6 : Below wc.heap.size wc w6 := hb5.trans (h6.mono hb5.size)
        refine ⟨_, rfl, hK.out _ _ (hKK _ hb6) (fun hS6 => ?_)⟩
        clear hK K hby hS5
        try simp only [Act.put, List.getElem_toArray, List.getElem_cons_zero, List.getElem_cons_succ, List.setIfInBounds_toArray, List.set_cons_zero, List.set_cons_succ]
        refine wpAnyH_take (i := 25) (v := .bool false) rfl (by kernel_rfl) (by kernel_rfl) (by kernel_rfl) (fun _ _ _ h => h) (Or.inl ⟨by rfl, fun w7 _ => ?_⟩) (by assumption) ?_
        · go_simp
        try simp only [Act.put, List.getElem_toArray, List.getElem_cons_zero, List.getElem_cons_succ, List.setIfInBounds_toArray, List.set_cons_zero, List.set_cons_succ]
        (refine wpAnyH_take (i := 26) (v := ?_) rfl (by kernel_rfl) (by kernel_rfl) (by kernel_rfl) (fun _ _ _ h => h) (Or.inl ⟨by rfl, ?_⟩) (by assumption) ?_; rotate_left; (· (intro w hSw; (try dsimp only at hSw); go_simp; try with_reducible rfl)); (try simp only [Act.put, List.getElem_toArray, List.getElem_cons_zero, List.getElem_cons_succ, List.setIfInBounds_toArray, List.set_cons_zero, List.set_cons_succ]))
        refine wpAnyH_done (by kernel_rfl) ?_ _
        go_wp2
        go_meet
        case rel => exact ⟨rfl, hb6⟩
      case rest =>
        obtain ⟨rfl, hb4⟩ := hcut
        clear e0 e1 e2 e3 r0 r1 r2 r3 rf hpl hby harr eqm hra hin hun hone hrd d1 d2 d3
        have hb4w : Below w.heap.size w wc := hb3.trans (hb4.mono hb3.size)
        obtain ⟨e0, e1, e2, e3, -⟩ := hKK _ hb4
        have hbx5 : Try.Box (wc.alloc (.cells #[.pointer (some ⟨x, 0, none⟩), .int .i64 H.side] 98)) wc.heap.size x H.side := heap_alloc_new wc _
        have hb5 := Dk.belowA wc (.cells #[.pointer (some ⟨x, 0, none⟩), .int .i64 H.side] 98)
        have hb5c := hb4.trans (hb5.mono hb4.size)
        have hb5w := hb4w.trans (hb5.mono hb4w.size)
        have hHb4 : Hb < wc.heap.size := Nat.lt_of_lt_of_le hHl hb4.size
        have hsc : ((64 * half s.n : Nat) : Int) % 4294967296 = ((64 * half s.n : Nat) : Int) := by omega
        have hfS : ¬ (64 * half s.n : Nat) < H.size := by omega
        generalize hSz : 64 * half s.n = Sz at *
        have d4 : decide ((Sz : Int) < (H.size : Int)) = false := by simp; omega
        have d5 : decide (Sz < H.size) = false := by simp; omega
        go_upto_region 8 with (fail)
        generalize hW5 : wc.alloc (.cells #[.pointer (some ⟨x, 0, none⟩), .int .i64 H.side] 98) = W5 at *
        have hs5 : W5.heap.size = wc.heap.size + 1 := by rw [← hW5]; simp
        obtain ⟨k0, k1, k2, k3, -⟩ := hKK _ hb5c
        have b0 := hbx5.c0
        have b1 := hbx5.c1
        go_cut [72] (fun c wx => c = .bool false ∧ Below W5.heap.size W5 wx)
        case first =>
          have h55 := Below.refl W5.heap.size W5
          go_region_held3 (fun W => W.cell? ⟨Hb, 2, none⟩ = some (.int .u32 H.size) ∧ W.cell? ⟨wc.heap.size, 0, none⟩ = some (.pointer (some ⟨x, 0, none⟩)) ∧ W.cell? ⟨wc.heap.size, 1, none⟩ = some (.int .i64 H.side)) (first | exact ⟨k2, b0, b1⟩ | exact ⟨Dk.cellB hb6 (by omega) k2, Dk.cellB hb6 (by omega) b0, Dk.cellB hb6 (by omega) b1⟩) (first
            | (go_at_call 52; refine (hsz1 _ hb5w.drew).mono ?_; clear hsz1; rintro r w6 ⟨rfl, h6⟩; have hb6 : Below W5.heap.size W5 w6 := h55.drew.trans h6))
          all_goals
            go_wp2
            go_meet
            case rel => exact ⟨by rw [show IntKind.u32.wrap (Sz : Int) = (Sz : Int) by rw [IntKind.wrap_u32]; exact hsc, d4], hb6⟩
        case rest =>
          obtain ⟨rfl, hb6⟩ := hcut
          have hb6c := hb5c.trans (hb6.mono hb5c.size)
          have hb6w := hb5w.trans (hb6.mono hb5w.size)
          obtain ⟨l0, l1, l2, l3, -⟩ := hKK _ hb6c
          have b6 := hbx5.below hb6
          have m0 := b6.c0
          have m1 := b6.c1
          have hrd6 := hrd1 _ hb6w
          clear hrd1 hsz1 e0 e1 e2 e3 k0 k1 k2 k3 b0 b1 hsc
          go_upto_region 11 with (first
            | (go_at_call 51; refine hrd6.mono ?_; clear hrd6; rintro r w7 ⟨g, rfl, hg7, hr7, h7⟩)
            | fail)
          have hb7c := hb6c.trans (h7.mono hb6c.size)
          have hb7w := hb6w.trans (h7.mono hb6w.size)
          obtain ⟨n0, n1, n2, n3, -⟩ := hKK _ hb7c
          have hal := Dk.area_len (side := H.side) hvl (by omega) f1
          have hsrc := Dk.src_row hr7 H.size
          have hlt : ((area s.view s.n H.side).take H.size).length = H.size := by rw [List.length_take]; omega
          rw [hlt] at hsrc
          have hsm := fun n => Try.sum_any (hsrc.below (Dk.belowN w7 n)) (by rw [hlt]; omega)
          rw [f7] at hsm
          have hre7 := hrs _ hb7c
          have r0 : w7.cell? ⟨w.heap.size, 0, none⟩ = some (.int .i64 0) := by rw [cell_of_row _ _ _ _ _ _ hre7]; rfl
          have r1 : w7.cell? ⟨w.heap.size, 1, none⟩ = some (.int .u32 0) := by rw [cell_of_row _ _ _ _ _ _ hre7]; rfl
          have r2 : w7.cell? ⟨w.heap.size, 2, none⟩ = some (.int .u32 0) := by rw [cell_of_row _ _ _ _ _ _ hre7]; rfl
          have r3 : w7.cell? ⟨w.heap.size, 3, none⟩ = some (.int .u32 0) := by rw [cell_of_row _ _ _ _ _ _ hre7]; rfl
          have rf0 : w7.frozen? ⟨w.heap.size, 0, none⟩ = false := frozen_of_row _ _ _ _ _ hre7
          have rf1 : w7.frozen? ⟨w.heap.size, 1, none⟩ = false := frozen_of_row _ _ _ _ _ hre7
          have rf2 : w7.frozen? ⟨w.heap.size, 2, none⟩ = false := frozen_of_row _ _ _ _ _ hre7
          have rf3 : w7.frozen? ⟨w.heap.size, 3, none⟩ = false := frozen_of_row _ _ _ _ _ hre7
          have HR7 : Hid (w7.heap[w.heap.size]? = some (.cells #[.int .i64 0, .int .u32 0, .int .u32 0, .int .u32 0] 91 (0, 0))) := hre7
          clear hre7 hsrc hr7 hlt hal hKK hrs hh q3 hb6 hb6c hb6w hb5 hb5c hb5w hb4 hb4w hbx5 b6 m0 m1 l0 l1 l2 l3 hre3
          go_quiet ((go_at_call 74; exact Calls.quiet_of_same (hsm _)))
          clear hsm
          go_wp2
          have hfin := Dk.set4 (.int .i64 H.side) (.int .u32 H.gen) (.int .u32 H.size) (.int .u32 H.sum) (W := w7.drewN nq) HR7.out
          have hbf : Below w.heap.size w (((((w7.drewN nq).setCell ⟨w.heap.size, 0, none⟩ (.int .i64 H.side)).setCell ⟨w.heap.size, 1, none⟩ (.int .u32 H.gen)).setCell ⟨w.heap.size, 2, none⟩ (.int .u32 H.size)).setCell ⟨w.heap.size, 3, none⟩ (.int .u32 H.sum)) := ((((hb7w.trans ((Dk.belowN w7 nq).mono hb7w.size)).setCell (by simp) _).setCell (by simp) _).setCell (by simp) _).setCell (by simp) _
          have hload := Try.ret_head (H := H) hfin
          generalize (((((w7.drewN nq).setCell ⟨w.heap.size, 0, none⟩ (.int .i64 H.side)).setCell ⟨w.heap.size, 1, none⟩ (.int .u32 H.gen)).setCell ⟨w.heap.size, 2, none⟩ (.int .u32 H.size)).setCell ⟨w.heap.size, 3, none⟩ (.int .u32 H.sum)) = W9 at *
          refine bodyPost_ret (v := .tuple #[Dk.hdV H, .bool true]) (by simp [results, Try.results72, asAddr, hload]) rfl ?_
          exact ⟨rfl, hbf⟩
end Go.Proofs
