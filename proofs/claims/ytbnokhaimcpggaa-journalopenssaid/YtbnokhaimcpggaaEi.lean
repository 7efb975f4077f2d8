/-
  unflagged.
-/
import Derived.Test.YtbnokhaimcpggaaEh
namespace Go.Proofs
open Go.RowKit Go.Dk
theorem Try.run_makeC (c : Nat) (hc : c < 1000000) (h7 : 7 ≤ c) (w : World) : (Instr.makeSlice 22 (.int .i64 7) (.int .i64 c)).run Try.prog w = .ok (.slice (some ⟨w.heap.size, 0, none⟩) 7 c) (w.alloc (.cells (Lib.byteCells (List.replicate c 0)).toArray 5)) := by
  obtain ⟨i0, hi0, hz0, hz1, hz2⟩ := info_parts Try.info_u8
  have := run_make (P := Try.prog) w 22 5 i0 _ Try.underlying22 hi0 hz0 .i64 .i64 7 c (by omega) (by omega) (by rw [hz2]; omega) (by omega)
  rw [this, hz1]
  have e := Dk.made (Z := (Value.int .u8 0).cells) c (.int .u8 0) (by decide) (fun j hj => by
    have : j = 0 := by simp [Value.cells] at hj; omega
    subst this; rfl)
  rw [Dk.zeros] at e
  rw [← e, show ((c : Int)).toNat = c from rfl, Nat.mul_one]
  rfl
theorem Dk.Src.below {w w' : World} {v : Value} {b : List UInt8} (h : Dk.Src w v b) (hb : Below w.heap.size w w') : Dk.Src w' v b := by
  obtain ⟨ad, cap, e, h1⟩ := h
  refine ⟨ad, cap, e, h1.imp id ?_⟩
  rintro ⟨sb, so, e1, h2, h3⟩
  exact ⟨sb, so, e1, Nat.lt_of_lt_of_le h2 hb.size, fun j u hj => Dk.cellB hb h2 (h3 j u hj)⟩
theorem Dk.ofRow {w : World} {B : Nat} {T : TypeId} {v : Value} {n : Nat} {b : List UInt8} (h : w.ownsRow B T 1 v n (Lib.byteCells b)) : Dk.Src w v b := by
  have hl := h.1
  rw [Dk.byteCells_len, Nat.mul_one] at hl
  rcases h.2 with ⟨e1, e2⟩ | ⟨g, cap, cur, e1, hb, hg, hcap, hmax, hcs, htk⟩
  · have : b = [] := List.eq_nil_of_length_eq_zero (by omega)
    subst this
    exact ⟨none, 0, by rw [e1]; rfl, .inl rfl⟩
  · refine ⟨some ⟨g, 0, none⟩, cap, by rw [e1, hl], .inr ⟨g, 0, rfl, Dk.block_lt hg, fun j u hj => ?_⟩⟩
    rw [Nat.zero_add, cell_of_row _ _ _ _ _ _ hg, ← Array.getElem?_toList]
    rw [← htk, List.getElem?_take] at hj
    split at hj
    · exact hj
    · cases hj
theorem Dk.belowS {w w' : World} {B g o : Nat} {vs : List Value} (h : Below B w w') (hg : B ≤ g) : Below B w (w'.setCells g o vs) := by
  obtain ⟨h1, h2, h3, h4, h5⟩ := Dk.setCells_same g vs o w'
  exact h.trans ⟨h1, h2, h3, by rw [h4]; exact Nat.le_refl _, fun k hk => h5 k (by omega)⟩
theorem Dk.unflag_cells {C : List UInt8} {L F : Nat} (hC : C = List.replicate (7 + L) 0) : (Dk.splice (Dk.splice (Lib.byteCells C) 1 (Lib.byteCells (le 2 L))) 3 (Lib.byteCells (le 4 F))).take 7 = Lib.byteCells (0 :: (le 2 L ++ le 4 F)) := by
  subst hC
  rw [Nat.add_comm 7 L]
  simp only [Dk.splice, Lib.byteCells, le, List.replicate_succ, List.map_cons, List.map_nil, List.length_cons, List.length_nil, List.take_succ_cons, List.take_zero, List.drop_succ_cons, List.drop_zero, List.cons_append, List.nil_append]
set_option maxRecDepth 20000 in
set_option maxHeartbeats 1000000 in
theorem Try.unflagged_any {w : World} {v : Value} {b : List UInt8} (h : Dk.Src w v b) (h0 : 0 < b.length) (hb : b.length ≤ 6000) :
    Calls Try.prog 56 #[v] w fun e w' => ∃ v', e = .returned v' ∧ Dk.Src w' v' (unflag b) ∧ Below w.heap.size w w' := by
  have hsum := fun W (hW : Below w.heap.size w W) => Try.sum_any (h.below hW) (by omega)
  obtain ⟨ad, cap, rfl, h1⟩ := h
  obtain ⟨sb, so, rfl, hsb, hcl⟩ := h1.resolve_left (by rintro rfl; simp at h0)
  clear h1
  have hF := fnv_lt b
  obtain ⟨L, hL⟩ : ∃ L, L = b.length := ⟨_, rfl⟩
  obtain ⟨F, hFF⟩ : ∃ F, F = fnv b := ⟨_, rfl⟩
  rw [← hFF] at hF hsum
  rw [← hL] at h0 hb hsum ⊢
  have hmk := Try.run_makeC (7 + L) (by omega) (by omega) w
  rw [show ((7 + L : Nat) : Int) = 7 + (L : Int) by omega] at hmk
  have qc : (L : Int) % 4294967296 = L := by omega
  obtain ⟨C, hC⟩ : ∃ C, C = List.replicate (7 + L) (0 : UInt8) := ⟨_, rfl⟩
  rw [← hC] at hmk
  have hCl : C.length = 7 + L := by rw [hC]; simp
  obtain ⟨W1, hW1⟩ : ∃ W1, W1 = w.alloc (.cells (Lib.byteCells C).toArray 5) := ⟨_, rfl⟩
  rw [← hW1] at hmk
  have hb1 : Below w.heap.size w W1 := by rw [hW1]; exact Dk.belowA _ _
  have hg1 : W1.heap[w.heap.size]? = some (.cells (Lib.byteCells C).toArray 5 (0, 0)) := by rw [hW1]; exact heap_alloc_new w _
  have hp1 := fun c => Try.put_any (n := 2) (o := 1) (c := c) L (by omega) hg1 (by rw [Dk.byteCells_len]; omega) (by omega)
  have hg2 := Dk.heap_setCells w.heap.size 5 (Lib.byteCells (le 2 L)) 1 W1 _ hg1 (by rw [Dk.byteCells_len, Dk.byteCells_len, le_len]; omega)
  have hb2 : Below w.heap.size w (W1.setCells w.heap.size 1 (Lib.byteCells (le 2 L))) := Dk.belowS hb1 (Nat.le_refl _)
  have hC2 : (Dk.splice (Lib.byteCells C) 1 (Lib.byteCells (le 2 L))).length = 7 + L := by rw [Dk.splice_len (by rw [Dk.byteCells_len, Dk.byteCells_len, le_len]; omega), Dk.byteCells_len, hCl]
  generalize hW2 : W1.setCells w.heap.size 1 (Lib.byteCells (le 2 L)) = W2 at *
  have hp2 := fun (W : World) (hW : W.heap = W2.heap) (c : Nat) => Try.put_any (w := W) (n := 4) (o := 3) (c := c) F hF (by rw [hW]; exact hg2) (by omega) (by omega)
  have hown := fun (W : World) (hW : W.heap = W2.heap) => (show (W.setCells w.heap.size 3 (Lib.byteCells (le 4 F))).ownsRow w.heap.size 5 1 (.slice (some ⟨w.heap.size, 0, none⟩) 7 (7 + L)) 7 (Lib.byteCells (0 :: (le 2 L ++ le 4 F))) from by
    have hg3 := Dk.heap_setCells w.heap.size 5 (Lib.byteCells (le 4 F)) 3 W _ (by rw [hW]; exact hg2) (by rw [Dk.byteCells_len, le_len, hC2]; omega)
    refine ⟨by simp [Dk.byteCells_len, le_len], .inr ⟨w.heap.size, 7 + L, _, rfl, Nat.le_refl _, hg3, by omega, by unfold maxLen; omega, ?_, ?_⟩⟩
    · rw [List.size_toArray, Dk.splice_len (by rw [Dk.byteCells_len, le_len, hC2]; omega), hC2, Nat.mul_one]
    · exact Dk.unflag_cells hC)
  have HL : Hid (L = b.length) := hL
  have HF : Hid (F = fnv b) := hFF
  have q7 : (7 : Nat) ≤ 7 + L := by omega
  have hnl : (Lib.byteCells b).length = L := by rw [Dk.byteCells_len, hL]
  have HN : Hid ((Lib.byteCells b).length = L) := hnl
  obtain ⟨i0, hi0, hz0, hz1, hz2⟩ := info_parts Try.info_u8
  clear hW1 hW2 hL hFF hC hb1 hg1 hC2 hg2 hnl hCl
  have q9 : 7 + (L : Int) = ((7 + L : Nat) : Int) := by omega
  rw [q9] at hmk
  generalize 7 + L = LL at *
  go_enter Try.func56, Try.ntmps56
  go_wp2_with (first
    | (refine Dk.wpList_make rfl 22 (.const (.int .i64 7)) (.tmp 6) rfl rfl rfl hmk ?_)
    | (go_at_call 80; refine (hp1 _).mono ?_; clear hp1; rintro e w2 ⟨⟨_, rfl⟩, rfl⟩)
    | fail)
  go_region_with (first
    | (go_at_call 74; refine (hsum _ (by first | exact hb2 | exact hb2.drew)).mono ?_; rintro e w3 ⟨rfl, rfl⟩)
    | (go_at_call 80; refine (hp2 _ (by rfl) _).mono ?_; rintro e w4 ⟨⟨_, rfl⟩, rfl⟩)
    | fail)
  all_goals
    have hw3 := hown w2.drew rfl
    have hb3 : Below w.heap.size w (w2.drew.setCells w.heap.size 3 (Lib.byteCells (le 4 F))) := Dk.belowS hb2.drew (Nat.le_refl _)
    clear hsum hp2 hown hmk
    generalize w2.drew.setCells w.heap.size 3 (Lib.byteCells (le 4 F)) = W3 at *
    have hsz := hb3.size
    go_wp2_with (first
      | (at_builtin; go_loud (refine wpList_append_own _ rfl _ _ 22 rfl w.heap.size 5 i0 _ 1 1 Try.underlying22 hi0 hz0 hz1 hz2 rfl (by omega) _ 7 (Lib.byteCells (0 :: (le 2 L ++ le 4 F))) rfl hw3 ⟨sb, so, none⟩ L cap (Lib.byteCells b) rfl (by rw [HN.out, Nat.mul_one]) (fun j u hj => by rw [Addr.add_mid]; exact Dk.cellB hb3 hsb (hcl j u hj)) (fun u hu => by obtain ⟨c, _, rfl⟩ := List.mem_map.1 hu; rfl) (by unfold maxLen; omega) (by omega) (by omega) ?_; intro v' w5 hown hgrow _))
      | fail)
    go_ret
    refine ⟨_, rfl, ?_, ?_⟩
    · have e : Lib.byteCells (0 :: (le 2 L ++ le 4 F)) ++ Lib.byteCells b = Lib.byteCells (unflag b) := by
        rw [HL.out, HF.out]
        simp only [unflag, Lib.byteCells, ← List.map_append, List.cons_append, List.append_assoc]
      rw [e] at hown
      exact Dk.ofRow hown
    · exact hb3.trans ((Below.refl w.heap.size W3).grown hgrow (by omega) (fun k hk => (hw3.lt k hk).1))
end Go.Proofs
