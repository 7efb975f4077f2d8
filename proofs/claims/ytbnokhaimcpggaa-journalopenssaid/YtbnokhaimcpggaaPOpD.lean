/-
  Laid together by packg.py of OpD.
-/
import Derived.Test.YtbnokhaimcpggaaRaE
import Derived.Deep.Onto
namespace Go.Proofs
open Go.RowKit Go.Dk
theorem Try.rNew_no (w : World) (n : Int) (h : ¬ (8 ≤ n ∧ n ≤ 4096)) :
    Calls Try.prog 19 #[.int .i64 n] w fun e w' => e = .returned (.tuple #[.pointer none, .int .i64 1]) ∧ w' = w := by
  have H : Hid (¬ (8 ≤ n ∧ n ≤ 4096)) := h
  clear h
  by_cases h0 : n < 8
  · go_enter Try.func19, Try.ntmps19
    go_wp2
    go_ret2
    exact ⟨rfl, rfl⟩
  · have h1 : (4096 : Int) < n := by have := H.out; omega
    go_enter Try.func19, Try.ntmps19
    go_wp2
    go_ret2
    exact ⟨rfl, rfl⟩
theorem Try.new_no (w : World) (n : Int) (h : ¬ (8 ≤ n ∧ n ≤ 4096)) :
    Calls Try.prog 14 #[.int .i64 n] w fun e w' => e = .returned (.tuple #[.pointer none, .int .i64 1]) ∧ w' = w := by
  have H : Hid (¬ (8 ≤ n ∧ n ≤ 4096)) := h
  clear h
  by_cases h0 : n < 8
  · go_enter Try.func14, Try.ntmps14
    go_wp2
    go_ret2
    exact ⟨rfl, rfl⟩
  · have h1 : (4096 : Int) < n := by have := H.out; omega
    go_enter Try.func14, Try.ntmps14
    go_wp2
    go_ret2
    exact ⟨rfl, rfl⟩
theorem Dk.blk_new {n i : Nat} (h : i < n) : blk (List.replicate (64 * n) 0) i = List.replicate 64 0 := by
  unfold blk
  rw [List.drop_replicate, List.take_replicate]
  congr 1
  omega
theorem Dk.strs_new (n : Nat) : Dk.strs n (List.replicate (64 * n) 0) = List.replicate n (.string ⟨(List.replicate 64 (0 : UInt8)).toArray⟩) := by
  apply List.ext_getElem?
  intro i
  by_cases h : i < n
  · rw [Dk.strs_at _ h, Dk.blk_new h, List.getElem?_replicate, if_pos h]
  · rw [List.getElem?_eq_none (by rw [Dk.strs_len]; omega), List.getElem?_eq_none (by simp; omega)]
theorem Try.info_s : (Try.prog.info? 9).map (fun i => (i.zero, i.size, i.bytes)) = some (some (.string ⟨#[]⟩), 1, 16) := by kernel_rfl
structure Try.RNewOk (w : World) (n : Nat) (e : Ending) (w' : World) : Prop where
  ex : ∃ x Lv, e = .returned (.tuple #[.pointer (some ⟨x, 0, none⟩), .int .i64 0]) ∧ Try.Rfm w' x Lv (.slice none 0 0) 0 0 0 (Dk.new n) ∧ Below w.heap.size w w' ∧ w.heap.size ≤ x ∧ ∀ j, Lv.ownBlock = some j → w.heap.size ≤ j
set_option maxRecDepth 4000 in
set_option maxHeartbeats 4000000 in
theorem Try.rNew_ok (w : World) (n : Nat) (h8 : 8 ≤ n) (hn : n ≤ 4096) :
    Calls Try.prog 19 #[.int .i64 n] w fun e w' => Try.RNewOk w n e w' := by
  have q0 : ¬ (n : Int) < 8 := by omega
  have q1 : ¬ (4096 : Int) < (n : Int) := by omega
  have Hn : Hid (8 ≤ n ∧ n ≤ 4096) := ⟨h8, hn⟩
  have hmk := Try.run_make64
  have hcv : ∀ W : World, (convert 22 9 (.slice (some ⟨W.heap.size, 0, none⟩) 64 64)).run Try.prog (W.alloc (.cells (Lib.byteCells (List.replicate 64 0)).toArray 5)) = .ok (.string ⟨(List.replicate 64 0).toArray⟩) (W.alloc (.cells (Lib.byteCells (List.replicate 64 0)).toArray 5)) := fun W => Try.convY (heap_alloc_new W _) (by simp)
  obtain ⟨z, hz⟩ : ∃ z : ByteArray, z = ⟨(List.replicate 64 (0 : UInt8)).toArray⟩ := ⟨_, rfl⟩
  obtain ⟨zc, hzc⟩ : ∃ zc : List Value, zc = Lib.byteCells (List.replicate 64 0) := ⟨_, rfl⟩
  rw [← hz, ← hzc] at hcv
  rw [← hzc] at hmk
  have hcv2 : ∀ d : Obj, (convert 22 9 (.slice (some ⟨w.heap.size + 1, 0, none⟩) 64 64)).run Try.prog ((w.alloc d).alloc (.cells zc.toArray 5)) = .ok (.string z) ((w.alloc d).alloc (.cells zc.toArray 5)) := fun d => by
    have := hcv (w.alloc d)
    rwa [World.size_alloc] at this
  have Hz : Hid (z = ⟨(List.replicate 64 (0 : UInt8)).toArray⟩) := hz
  clear hz hzc h8 hn
  go_enter Try.func19, Try.ntmps19
  go_upto_region 6 with fail
  generalize hW0 : (w.alloc (Obj.cells #[.slice none 0 0, .slice none 0 0, .bool true, .bool false, .int .i64 0, .int .i64 0, .int .i64 0, .int .i64 0, .int .i64 0, .int .i64 0] 58)).alloc _ = W0
  have hb0 : Below w.heap.size w W0 := by rw [← hW0]; exact ((Below.refl _ w).alloc (Nat.le_refl _) _).alloc (by simp) _
  have hx0 : W0.heap[w.heap.size]? = some (.cells #[.slice none 0 0, .slice none 0 0, .bool true, .bool false, .int .i64 0, .int .i64 0, .int .i64 0, .int .i64 0, .int .i64 0, .int .i64 0] 58 (0, 0)) := by
    rw [← hW0]; exact (heap_alloc_old _ _ (by simp)).trans (heap_alloc_new w _)
  obtain ⟨x, hx⟩ : ∃ x, x = w.heap.size := ⟨_, rfl⟩
  rw [← hx] at hx0 ⊢
  have Hx : Hid (x = w.heap.size) := hx
  have Hb0 : Hid (Below w.heap.size w W0) := hb0
  have HX0 : Hid (W0.heap[x]? = some (.cells #[.slice none 0 0, .slice none 0 0, .bool true, .bool false, .int .i64 0, .int .i64 0, .int .i64 0, .int .i64 0, .int .i64 0, .int .i64 0] 58 (0, 0))) := hx0
  obtain ⟨i0, hi0, hz0, hz1, hz2⟩ := info_parts Try.info_s
  clear hW0 hb0 hx0 hx hmk hcv hcv2
  go_loopw [6] (fun i wr => ∃ (j : Nat) (Lv : Value), j ≤ n ∧ i = .int .i64 (j : Nat) ∧ wr.heap[x]? = some (.cells #[Lv, .slice none 0 0, .bool true, .bool false, .int .i64 0, .int .i64 0, .int .i64 0, .int .i64 0, .int .i64 0, .int .i64 0] 58 (0, 0)) ∧ wr.ownsRow (x + 1) 9 1 Lv j (List.replicate j (.string z)) ∧ Below w.heap.size w wr) (fun i _ => n - (intOf i).toNat)
  case atStart => exact ⟨0, _, Nat.zero_le _, rfl, HX0.out, World.ownsRow_nil _ _ _ _, Hb0.out⟩
  case round =>
    obtain ⟨j, Lv, hj, rfl, hbx, hrow, hbel⟩ := hrel
    clear HX0 Hb0
    have c0 : wr.cell? ⟨x, 0, none⟩ = some Lv := cell_of_row wr x 0 _ _ _ hbx
    have Hrow : Hid (wr.ownsRow (x + 1) 9 1 Lv j (List.replicate j (.string z))) := hrow
    have Hbx : Hid (wr.heap[x]? = some (.cells #[Lv, .slice none 0 0, .bool true, .bool false, .int .i64 0, .int .i64 0, .int .i64 0, .int .i64 0, .int .i64 0, .int .i64 0] 58 (0, 0))) := hbx
    have Hbel : Hid (Below w.heap.size w wr) := hbel
    have Hxl : Hid (x < wr.heap.size) := Dk.block_lt hbx
    clear hrow hbx hbel
    by_cases hjn : j < n
    · have q2 : (j : Int) < (n : Int) := by omega
      go_wp2_with (first
        | (at_builtin; refine wpList_append_lies _ rfl _ _ 53 rfl (x + 1) 9 i0 _ 1 16 Try.underlying53 hi0 hz0 hz1 hz2 rfl (by omega) Lv j (List.replicate j (.string z)) rfl (Dk.row_heap Hrow.out fun k e => heap_alloc_old wr _ (Hrow.out.lt k e).2) ⟨wr.heap.size, 0, none⟩ 1 1 [.string z] rfl rfl (World.news_of_block (heap_alloc_new wr _)) (by simp [Value.oneCell']) (by have := Hn.out; omega) (by unfold maxLen; omega) (by have := Hn.out; omega) (by have := Hxl.out; simp; omega) _ rfl ?_; intro g cap w2 h1 h2 h3 h4; have e1 : w2.heap[x]? = _ := ((h2.block x (by have := Hxl.out; simp; omega) (fun e => by have := (Hrow.out.lt x e.symm).1; omega)).trans (heap_alloc_old wr _ Hxl.out)).trans Hbx.out; have k0 := cell_of_row w2 x 0 _ _ _ e1; have f0 := frozen_of_row w2 x 0 _ _ e1)
        | fail)
      have e2 := heap_setCell_same w2 x 0 _ _ (.slice (some ⟨g, 0, none⟩) (j + 1) cap) e1
      have hgx : g ≠ x := fun e => by have := (h1.lt g rfl).1; omega
      have h5 : (w2.setCell ⟨x, 0, none⟩ (.slice (some ⟨g, 0, none⟩) (j + 1) cap)).ownsRow (x + 1) 9 1 (.slice (some ⟨g, 0, none⟩) (j + 1) cap) (j + 1) (List.replicate (j + 1) (.string z)) := by
        rw [List.replicate_succ']
        exact Dk.row_heap h1 fun k e => Below.heap_setCell w2 ⟨x, 0, none⟩ _ k (by cases e; exact hgx)
      have hb2 : Below w.heap.size w (w2.setCell ⟨x, 0, none⟩ (.slice (some ⟨g, 0, none⟩) (j + 1) cap)) := ((Hbel.out.alloc Hbel.out.size _).grown h2 (by have := Hbel.out.size; simp; omega) (fun k e => by have := (Hrow.out.lt k e).1; have := Hx.out; omega)).setCell (p := ⟨x, 0, none⟩) (by have := Hx.out; show _ ≤ x; omega) _
      clear h1 h2 h3 h4 k0 f0 e1 hgx c0
      go_roundw
      case rel => exact ⟨j + 1, _, by omega, by go_num, e2, h5, hb2⟩
      case measure => simp [intOf]; omega
    · have q2 : ¬ (j : Int) < (n : Int) := by omega
      have hjj : j = n := by omega
      subst hjj
      go_wp2
      go_ret2
      refine ⟨x, Lv, rfl, ⟨Hbx.out, (fun e => by cases e), ?_, World.ownsRow_nil _ _ _ _, fun k e => ?_, (fun k e => by cases e), ?_, GoodW.nil _, ?_, Hn.out.2, Nat.zero_le _⟩, Hbel.out, Nat.le_of_eq Hx.out.symm, fun k e => ?_⟩
      · show wr.ownsRow 0 _ 1 Lv j (Dk.strs j (List.replicate (64 * j) 0))
        rw [Dk.strs_new, ← Hz.out]
        have h1 := Hrow.out
        exact ⟨h1.1, h1.2.elim Or.inl fun ⟨g, c, cur, q1, q2, q3⟩ => Or.inr ⟨g, c, cur, q1, Nat.zero_le _, q3⟩⟩
      · have := (Hrow.out.lt k e).1; omega
      · show (List.replicate (64 * j) (0 : UInt8)).length = _; simp; rfl
      · show 0 < j; have := Hn.out; omega
      · have := (Hrow.out.lt k e).1; have := Hx.out; omega
end Go.Proofs
