/-
  A head's bytes and place.
-/
import Derived.Test.YtbnokhaimcpggaaEn
import Derived.Lib.LazyBuf
namespace Go.Proofs
open Go.RowKit Go.Dk
theorem Try.alloc64 (w : World) : (Instr.alloc 134 true (.tuple #[])).run Try.prog w = .ok (.pointer (some ⟨w.heap.size, 0, none⟩)) (w.alloc (.cells (Lib.byteCells (List.replicate 64 0)).toArray 134)) := by kernel_rfl
theorem Try.size_block : (Try.prog.info? 134).map (·.size) = some 64 := by kernel_rfl
theorem Try.size_u8 (w : World) : (Go.sizeOf 5).run Try.prog w = .ok 1 w := by kernel_rfl
/-- A number's bytes into a row, whatever the block's kind. -/
theorem Try.put_in {w : World} {g o n c : Nat} {C : List Value} {T : TypeId} (x : Nat) (_hx : x < 4294967296) (hg : w.heap[g]? = some (.cells C.toArray T (0, 0))) (hC : o + n ≤ C.length) (hn : n ≤ 4) :
    Calls Try.prog 80 #[.slice (some ⟨g, o, none⟩) n c, .int .u32 x] w fun e w' => (∃ v, e = .returned v) ∧ w' = w.setCells g o (Lib.byteCells (le n x)) := by
  go_enter Try.func80, Try.ntmps80
  go_wp2
  go_loopw [7] (fun i wr => ∃ k : Nat, k ≤ n ∧ i = .int .i64 k ∧ wr = w.setCells g o (Lib.byteCells ((le n x).take k))) (fun i _ => n - (intOf i).toNat)
  case atStart => exact ⟨0, by omega, rfl, by simp [Lib.byteCells, World.setCells]⟩
  case round =>
    obtain ⟨k, hk, rfl, rfl⟩ := hrel
    by_cases hkm : k < n
    · have q0 : (k : Int) < (n : Int) := by omega
      have hg2 := Dk.heap_setCells g T (Lib.byteCells ((le n x).take k)) o w C hg (by rw [Dk.byteCells_len, List.length_take, le_len]; omega)
      have hC2 := Dk.splice_len (C := C) (o := o) (vs := Lib.byteCells ((le n x).take k)) (by rw [Dk.byteCells_len, List.length_take, le_len]; omega)
      obtain ⟨W2, hW2⟩ : ∃ W2, W2 = w.setCells g o (Lib.byteCells ((le n x).take k)) := ⟨_, rfl⟩
      obtain ⟨C2, hC3⟩ : ∃ C2, C2 = Dk.splice C o (Lib.byteCells ((le n x).take k)) := ⟨_, rfl⟩
      rw [← hC3] at hC2
      rw [← hW2, ← hC3] at hg2
      have hf : W2.frozen? ⟨g, o + k, none⟩ = false := frozen_of_row _ _ _ _ _ hg2
      obtain ⟨u, hc⟩ : ∃ u, W2.cell? ⟨g, o + k, none⟩ = some u := by
        rw [cell_of_row _ _ _ _ _ _ hg2]
        exact ⟨_, Array.getElem?_eq_getElem (by simp; omega)⟩
      rw [hW2] at hf hc
      clear hC3 hC2 hg2 hW2
      go_wp2
      go_roundw
      case rel => 
        refine ⟨k + 1, by omega, by go_num, ?_⟩
        have h1 := le_get n x k hkm
        have h2 : (le n x).take (k + 1) = (le n x).take k ++ [UInt8.ofNat (x / 256 ^ k)] := by
          rw [List.take_add_one, h1]; rfl
        have h3 : (UInt8.ofNat (x / 256 ^ k)).toNat = x / 256 ^ k % 256 := UInt8.toNat_ofNat'
        have h4 : ((x : Int) / 2 ^ (8 * k) % 256) = ((x / 256 ^ k % 256 : Nat) : Int) := by
          rw [show (256 : Nat) ^ k = 2 ^ (8 * k) by rw [Nat.pow_mul]]
          simp
        rw [h2, h4]
        simp only [Lib.byteCells, List.map_append, List.map_cons, List.map_nil, h3]
        rw [Dk.setCells_snoc, List.length_map, List.length_take, le_len, Nat.min_eq_left hk]
      case measure => simp [intOf]; omega
    · have q0 : ¬ (k : Int) < (n : Int) := by omega
      have hkk : k = n := by omega
      subst hkk
      go_wp2
      go_end0
      exact ⟨⟨_, rfl⟩, by rw [List.take_of_length_le (by rw [le_len]; omega)]⟩
/-- A head as it is handed on. -/
def Dk.hdV (h : Hd) : Value := .agg #[.int .i64 h.side, .int .u32 h.gen, .int .u32 h.size, .int .u32 h.sum]
def Dk.hdO (h : Hd) (T : TypeId) : Obj := .cells #[.int .i64 h.side, .int .u32 h.gen, .int .u32 h.size, .int .u32 h.sum] T
set_option maxRecDepth 20000 in
set_option maxHeartbeats 1000000 in
theorem Try.place_any (w : World) (h : Hd) (hg : h.gen < 4294967296) :
    Calls Try.prog 92 #[Dk.hdV h] w fun e w' => e = .returned (.int .i64 (h.gen % 2 : Nat)) ∧ Below w.heap.size w w' := by
  have hb := Dk.belowA w (Dk.hdO h 91)
  obtain ⟨P, hP⟩ : ∃ P, P = h.gen % 2 := ⟨_, rfl⟩
  have q : ((h.gen : Nat) : Int) % 2 = (P : Int) := by omega
  rw [← hP]
  clear hP
  unfold Dk.hdV
  unfold Dk.hdO at hb
  go_enter Try.func92, Try.ntmps92
  go_wp2
  go_ret
  exact ⟨rfl, hb⟩
theorem Dk.hd_cells (h : Hd) (hs : h.side ≤ 1) : Dk.splice (Dk.splice (Dk.splice ((Dk.splice (Lib.byteCells (List.replicate 64 0)) 0 ((⟨#[116, 111, 99, 115, 105, 110]⟩ : ByteArray).data.toList.map fun x => Value.int .u8 (x.toNat : Int))).set 6 (.int .u8 h.side)) 8 (Lib.byteCells (le 4 h.gen))) 12 (Lib.byteCells (le 4 h.size))) 16 (Lib.byteCells (le 4 h.sum)) = Lib.byteCells h.bytes := by
  have e : Value.int .u8 (h.side : Int) = Value.int .u8 ((UInt8.ofNat h.side).toNat : Int) := by
    rcases (show h.side = 0 ∨ h.side = 1 by omega) with e | e <;> rw [e] <;> rfl
  rw [e]
  rfl
theorem Try.box_hd (w : World) (h : Hd) : (Instr.box 91 (.agg #[.int .i64 h.side, .int .u32 h.gen, .int .u32 h.size, .int .u32 h.sum])).run Try.prog w = .ok (.pointer (some ⟨w.heap.size, 0, none⟩)) (w.alloc (.cells #[.int .i64 h.side, .int .u32 h.gen, .int .u32 h.size, .int .u32 h.sum] 91)) := by kernel_rfl
/-- While a head's bytes are laid. -/
structure Try.Lay (w : World) (h : Hd) (Z : List Value) (W : World) (C : List Value) : Prop where
  g : W.heap[w.heap.size + 2]? = some (.cells C.toArray 134 (0, 0))
  a : W.heap[w.heap.size + 1]? = some (.cells Z.toArray 134 (0, 0))
  box : W.heap[w.heap.size]? = some (Dk.hdO h 91)
  bel : Below w.heap.size w W
theorem Try.Lay.drew {w : World} {h : Hd} {Z C : List Value} {W : World} (l : Try.Lay w h Z W C) : Try.Lay w h Z W.drew C := ⟨l.g, l.a, l.box, l.bel.drew⟩
theorem Try.Lay.set {w : World} {h : Hd} {Z C : List Value} {W : World} (l : Try.Lay w h Z W C) (o : Nat) (vs : List Value) (hl : o + vs.length ≤ C.length) : Try.Lay w h Z (W.setCells (w.heap.size + 2) o vs) (Dk.splice C o vs) := by
  obtain ⟨h1, h2, h3, h4, h5⟩ := Dk.setCells_same (w.heap.size + 2) vs o W
  exact ⟨Dk.heap_setCells _ _ vs o W C l.g hl, (h5 _ (by omega)).trans l.a, (h5 _ (by omega)).trans l.box, Dk.belowS l.bel (by omega)⟩
theorem Try.Lay.one {w : World} {h : Hd} {Z C : List Value} {W : World} (l : Try.Lay w h Z W C) (o : Nat) (v : Value) : Try.Lay w h Z (W.setCell ⟨w.heap.size + 2, o, none⟩ v) (C.set o v) := by
  have h5 := fun k (hk : k ≠ w.heap.size + 2) => Below.heap_setCell W ⟨w.heap.size + 2, o, none⟩ v k hk
  have := heap_setCell_same W (w.heap.size + 2) o _ _ v l.g
  refine ⟨by rw [this]; simp, (h5 _ (by omega)).trans l.a, (h5 _ (by omega)).trans l.box, l.bel.setCell (by simp) _⟩
theorem Try.Lay.cells {w : World} {h : Hd} {Z C : List Value} {W : World} (l : Try.Lay w h Z W C) : W.cell? ⟨w.heap.size, 0, none⟩ = some (.int .i64 h.side) ∧ W.cell? ⟨w.heap.size, 1, none⟩ = some (.int .u32 h.gen) ∧ W.cell? ⟨w.heap.size, 2, none⟩ = some (.int .u32 h.size) ∧ W.cell? ⟨w.heap.size, 3, none⟩ = some (.int .u32 h.sum) := by
  refine ⟨?_, ?_, ?_, ?_⟩ <;> (rw [cell_of_row _ _ _ _ _ _ l.box]; rfl)
set_option maxRecDepth 20000 in
set_option maxHeartbeats 1000000 in
theorem Try.hbytes_any (w : World) (h : Hd) (hs : h.side ≤ 1) (h1 : h.gen < 4294967296) (h2 : h.size < 4294967296) (h3 : h.sum < 4294967296) :
    Calls Try.prog 93 #[Dk.hdV h] w fun e w' => e = .returned (.agg (Lib.byteCells h.bytes).toArray) ∧ Below w.heap.size w w' := by
  obtain ⟨Z, hZ⟩ : ∃ Z, Z = Lib.byteCells (List.replicate 64 0) := ⟨_, rfl⟩
  have hal := Try.alloc64
  rw [← hZ] at hal
  have hZl : Z.length = 64 := by rw [hZ]; rfl
  obtain ⟨W0, hW0⟩ : ∃ W0, W0 = w.alloc (Dk.hdO h 91) := ⟨_, rfl⟩
  obtain ⟨W1, hW1⟩ : ∃ W1, W1 = W0.alloc (.cells Z.toArray 134) := ⟨_, rfl⟩
  obtain ⟨W2, hW2⟩ : ∃ W2, W2 = W1.alloc (.cells Z.toArray 134) := ⟨_, rfl⟩
  have s0 : W0.heap.size = w.heap.size + 1 := by rw [hW0]; simp
  have s1 : W1.heap.size = w.heap.size + 2 := by rw [hW1]; simp [s0]
  have s2 : W2.heap.size = w.heap.size + 3 := by rw [hW2]; simp [s1]
  have hal0 := hal W0
  rw [← hW1, s0] at hal0
  rw [hW0] at hal0
  unfold Dk.hdO at hal0
  have hal1 := hal W1
  rw [← hW2, s1] at hal1
  have b0 : Below w.heap.size w W0 := by rw [hW0]; exact Dk.belowA _ _
  have b1 : Below w.heap.size w W1 := b0.trans (by rw [hW1]; exact (Dk.belowA _ _).mono (by omega))
  have b2 : Below w.heap.size w W2 := b1.trans (by rw [hW2]; exact (Dk.belowA _ _).mono (by omega))
  have box2 : W2.heap[w.heap.size]? = some (Dk.hdO h 91) := by
    rw [hW2, Below.heap_alloc _ _ _ (by omega), hW1, Below.heap_alloc _ _ _ (by omega), hW0]; exact heap_alloc_new w _
  have a2 : W2.heap[w.heap.size + 1]? = some (.cells Z.toArray 134 (0, 0)) := by
    rw [hW2, Below.heap_alloc _ _ _ (by omega), hW1, ← s0]; exact heap_alloc_new W0 _
  have g2 : W2.heap[w.heap.size + 2]? = some (.cells Z.toArray 134 (0, 0)) := by
    rw [hW2, ← s1]; exact heap_alloc_new W1 _
  obtain ⟨M, hM⟩ : ∃ M, M = ((⟨#[116, 111, 99, 115, 105, 110]⟩ : ByteArray).data.toList.map fun x => Value.int .u8 (x.toNat : Int)) := ⟨_, rfl⟩
  have hMl : M.length = 6 := by rw [hM]; rfl
  have hcp := Go.run_copy_string (P := Try.prog) W2 22 9 3 5 (w.heap.size + 2) 0 64 64 (⟨#[116, 111, 99, 115, 105, 110]⟩ : ByteArray) Try.underlying22 Try.size_u8 (by decide)
    (fun j hj => by rw [cell_of_row _ _ _ _ _ _ g2, List.getElem?_toArray, List.getElem?_eq_getElem (by rw [hZl]; have : j < 6 := hj; omega)]; rfl) (fun j _ => frozen_of_row _ _ _ _ _ g2)
  rw [← hM] at hcp
  have hfin := Dk.hd_cells h hs
  rw [← hZ, ← hM] at hfin
  have l2 : Try.Lay w h Z W2 Z := ⟨g2, a2, box2, b2⟩
  have l3 := l2.set 0 M (by omega)
  have hC3 : (Dk.splice Z 0 M).length = 64 := by rw [Dk.splice_len (by omega), hZl]
  have l4 := l3.one 6 (.int .u8 h.side)
  have f3 : (W2.setCells (w.heap.size + 2) 0 M).frozen? ⟨w.heap.size + 2, 6, none⟩ = false := frozen_of_row _ _ _ _ _ l3.g
  obtain ⟨u, c3⟩ : ∃ u, (W2.setCells (w.heap.size + 2) 0 M).cell? ⟨w.heap.size + 2, 6, none⟩ = some u := ⟨_, by rw [cell_of_row _ _ _ _ _ _ l3.g, List.getElem?_toArray, List.getElem?_eq_getElem (by omega)]⟩
  have e3 := l3.cells.1
  have qs : (h.side : Int) % 256 = h.side := by omega
  obtain ⟨W4, hW4⟩ : ∃ W4, W4 = (W2.setCells (w.heap.size + 2) 0 M).setCell ⟨w.heap.size + 2, 6, none⟩ (.int .u8 h.side) := ⟨_, rfl⟩
  obtain ⟨C4, hC4⟩ : ∃ C4, C4 = (Dk.splice Z 0 M).set 6 (.int .u8 h.side) := ⟨_, rfl⟩
  have hC4l : C4.length = 64 := by rw [hC4, List.length_set, hC3]
  rw [← hW4, ← hC4] at l4
  rw [← hC4] at hfin
  have HW4 : Hid (W4 = (W2.setCells (w.heap.size + 2) 0 M).setCell ⟨w.heap.size + 2, 6, none⟩ (.int .u8 h.side)) := hW4
  have hp := fun (W : World) (C : List Value) (l : Try.Lay w h Z W C) (hC : C.length = 64) (o x c : Nat) (ho : o + 4 ≤ 64) (hx : x < 4294967296) => Try.put_in (n := 4) (o := o) (c := c) x hx l.g (by omega) (by omega)
  have hs5 : ∀ (C : List Value) (o x : Nat), C.length = 64 → o + 4 ≤ 64 → o + (Lib.byteCells (le 4 x)).length ≤ C.length := fun C o x h1 h2 => by rw [Dk.byteCells_len, le_len]; omega
  have hsl : ∀ (C : List Value) (o x : Nat), C.length = 64 → o + 4 ≤ 64 → (Dk.splice C o (Lib.byteCells (le 4 x))).length = 64 := fun C o x h1 h2 => by rw [Dk.splice_len (hs5 C o x h1 h2), h1]
  generalize hW3 : W2.setCells (w.heap.size + 2) 0 M = W3 at *
  clear hM hMl hW0 hal b0 b1 b2 box2 a2 g2 l2 hC4 hC3 s0 s1 s2 hW1 hW2 hZ hW4
  unfold Dk.hdV
  unfold Dk.hdO at *
  go_enter Try.func93, Try.ntmps93
  go_upto_region 0 with (fail)
  refine wp_region_lit ?_
  refine wpList_plain rfl fun K hK => Dk.wp_box 91 (.tmp 0) rfl rfl (Try.box_hd w h) (hK _ _ ?_)
  refine Dk.wpList_alloc rfl 134 rfl hal0 ?_
  simp only [Act.put, List.setIfInBounds_toArray, List.set_cons_zero, List.set_cons_succ]
  go_upto_region 1 with (fail)
  refine wp_region_lit ?_
  refine Dk.wpList_alloc rfl 134 rfl hal1 ?_
  simp only [Act.put, List.setIfInBounds_toArray, List.set_cons_zero, List.set_cons_succ]
  go_wp2_with (first
    | (at_builtin; refine wpList_copy_runI _ rfl _ _ 22 9 rfl _ _ rfl rfl hcp ?_)
    | fail)
  rw [← HW4.out]
  obtain ⟨e40, e41, e42, e43⟩ := l4.cells
  clear hal0 hal1 hcp l3 c3 f3 e3 hW3
  go_region_with (first
    | (go_at_call 80; refine (hp _ _ l4.drew hC4l 8 h.gen _ (by omega) h1).mono ?_; rintro e w5 ⟨⟨_, rfl⟩, rfl⟩)
    | fail)
  all_goals
    have l5 := l4.drew.set 8 (Lib.byteCells (le 4 h.gen)) (hs5 _ _ _ hC4l (by omega))
    have hC5 := hsl C4 8 h.gen hC4l (by omega)
    generalize W4.drew.setCells (w.heap.size + 2) 8 (Lib.byteCells (le 4 h.gen)) = W5 at *
    generalize Dk.splice C4 8 (Lib.byteCells (le 4 h.gen)) = C5 at *
    clear e40 e41 e42 e43 l4 HW4 hC4l
    obtain ⟨e40, e41, e42, e43⟩ := l5.cells
    go_wp2
    go_region_with (first
      | (go_at_call 80; refine (hp _ _ l5.drew hC5 12 h.size _ (by omega) h2).mono ?_; rintro e w6 ⟨⟨_, rfl⟩, rfl⟩)
      | fail)
  all_goals
    have l6 := l5.drew.set 12 (Lib.byteCells (le 4 h.size)) (hs5 _ _ _ hC5 (by omega))
    have hC6 := hsl C5 12 h.size hC5 (by omega)
    generalize W5.drew.setCells (w.heap.size + 2) 12 (Lib.byteCells (le 4 h.size)) = W6 at *
    generalize Dk.splice C5 12 (Lib.byteCells (le 4 h.size)) = C6 at *
    clear e40 e41 e42 e43 l5 hC5
    obtain ⟨e40, e41, e42, e43⟩ := l6.cells
    go_wp2
    go_region_with (first
      | (go_at_call 80; refine (hp _ _ l6.drew hC6 16 h.sum _ (by omega) h3).mono ?_; rintro e w7 ⟨⟨_, rfl⟩, rfl⟩)
      | fail)
  all_goals
    have l7 := l6.drew.set 16 (Lib.byteCells (le 4 h.sum)) (hs5 _ _ _ hC6 (by omega))
    have hC7 := hsl C6 16 h.sum hC6 (by omega)
    generalize W6.drew.setCells (w.heap.size + 2) 16 (Lib.byteCells (le 4 h.sum)) = W7 at *
    rw [hfin] at l7 hC7
    clear e40 e41 e42 e43 l6 hC6 hp hs5 hsl hfin
    have HB : Hid (Try.Lay w h Z W7 (Lib.byteCells h.bytes)) := l7
    have hone : ∀ u ∈ Lib.byteCells h.bytes, u.oneCell' = true := fun u hu => by obtain ⟨c, _, rfl⟩ := List.mem_map.1 hu; rfl
    have hth : W7.there (w.heap.size + 1) 0 (Lib.byteCells h.bytes).toArray.size := fun j hj => ⟨by rw [Nat.zero_add, cell_of_row _ _ _ _ _ _ l7.a, List.getElem?_toArray, List.getElem?_eq_getElem (by simp at hj; omega)]; rfl, frozen_of_row _ _ _ _ _ l7.a⟩
    have hra : W7.rangeAt (w.heap.size + 2) 0 (Lib.byteCells h.bytes) := fun j v hj => by rw [Nat.zero_add, cell_of_row _ _ _ _ _ _ l7.g, List.getElem?_toArray]; exact hj
    have hA := Dk.heap_setCells (w.heap.size + 1) 134 (Lib.byteCells h.bytes) 0 W7 Z l7.a (by omega)
    have hsp : Dk.splice Z 0 (Lib.byteCells h.bytes) = Lib.byteCells h.bytes := by
      unfold Dk.splice
      rw [List.take_zero, List.nil_append, List.drop_of_length_le (by omega), List.append_nil]
    rw [hsp] at hA
    have hbel : Below w.heap.size w (W7.setCells (w.heap.size + 1) 0 (Lib.byteCells h.bytes)) := Dk.belowS l7.bel (by omega)
    have hra2 : (W7.setCells (w.heap.size + 1) 0 (Lib.byteCells h.bytes)).rangeAt (w.heap.size + 1) 0 (Lib.byteCells h.bytes) := fun j v hj => by rw [Nat.zero_add, cell_of_row _ _ _ _ _ _ hA, List.getElem?_toArray]; exact hj
    have hload := run_loadVar_mid (P := Try.prog) (W7.setCells (w.heap.size + 1) 0 (Lib.byteCells h.bytes)) (w.heap.size + 1) 0 134 (Lib.byteCells h.bytes) _ hra2 Try.underlying134 rfl (by rw [hC7]; exact Try.size_block)
    generalize hBB : Lib.byteCells h.bytes = BB at *
    clear l7
    go_upto_region 7 with (fail)
    refine wp_region_lit ?_
    refine wpList_load_mid rfl 134 (.tmp 3) rfl (w.heap.size + 2) 0 rfl BB _ hra Try.underlying134 rfl (by rw [hC7]; exact Try.size_block) ?_
    refine wpList_store_mid rfl 134 (.tmp 2) (.tmp 22) rfl (w.heap.size + 1) 0 BB.toArray rfl rfl hth (by rw [List.size_toArray, hC7]; exact Try.size_block) (all_oneCell_toArray hone) ?_
    simp only [Act.put, List.setIfInBounds_toArray, List.set_cons_zero, List.set_cons_succ]
    go_wp2
    refine bodyPost_ret (v := .agg BB.toArray) (by simp [results, Try.results93, asAddr, hload]) rfl ?_
    exact ⟨by rw [hBB], hbel⟩
end Go.Proofs
