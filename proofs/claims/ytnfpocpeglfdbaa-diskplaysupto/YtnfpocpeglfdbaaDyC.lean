/-
  The document's disk: the power fails.
-/
import Derived.Test.YtnfpocpeglfdbaaDyB
import Derived.Test.YtnfpocpeglfdbaaLq
import Derived.BigRegion
namespace Go.Proofs
open Go.RowKit Go.Dk
theorem Try.Rfm.drewN {w : World} {x : Nat} {Lv Wv : Value} {left k t : Int} {s : DS} (h : Try.Rfm w x Lv Wv left k t s) (n : Nat) : Try.Rfm (w.drewN n) x Lv Wv left k t s := h.keep fun _ _ => rfl
/-- A block's text is set. -/
theorem Try.Rfm.setL {w : World} {x : Nat} {Lv Wv : Value} {left k t : Int} {s : DS} (h : Try.Rfm w x Lv Wv left k t s) {g : Nat} (hg : Lv.ownBlock = some g) {a : Nat} (ha : a < s.n) (b : List UInt8) (hb : b.length ≤ 64) : Try.Rfm (w.setCell ⟨g, a, none⟩ (.string ⟨(b ++ (blk s.L a).drop b.length).toArray⟩)) x Lv Wv left k t { s with L := put s.L a b } := by
  have hot : ∀ j, j ≠ g → (w.setCell ⟨g, a, none⟩ (.string ⟨(b ++ (blk s.L a).drop b.length).toArray⟩)).heap[j]? = w.heap[j]? := fun j hj => Below.heap_setCell w ⟨g, a, none⟩ _ j hj
  refine ⟨(hot x (h.lx g hg).symm).trans h.hx, h.hf, ?_, Dk.row_heap h.wr fun j e => hot j fun e2 => (h.wx j e).2 (by rw [e2]; exact hg), h.lx, h.wx, ?_, h.good, h.n0, h.n1, h.w1⟩
  · show (w.setCell _ _).ownsRow 0 _ 1 Lv s.n (Dk.strs s.n (put s.L a b))
    rw [Dk.strs_put h.lL ha hb]
    exact Dk.row_set h.lr hg a _
  · show (put s.L a b).length = _
    rw [length_put (by rw [h.lL]; omega)]
    exact h.lL
theorem Dk.ba_size (l : List UInt8) : (ByteArray.mk l.toArray).size = l.length := by simp [ByteArray.size]
theorem Dk.cat_take (a b : List UInt8) (T : Nat) (_ha : T ≤ a.length) (_hb : T ≤ b.length) : (ByteArray.mk a.toArray).extract 0 T ++ (ByteArray.mk b.toArray).extract T (ByteArray.mk b.toArray).size = ⟨(a.take T ++ b.drop T).toArray⟩ := by
  apply ByteArray.ext
  apply Array.ext'
  simp [ByteArray.size]
  exact List.take_of_length_le (by simp)
theorem Dk.failL_at {L : List UInt8} {W : List Wr} {j : Nat} {p : Wr} {ke to2 : Int} (hp : W[j]? = some p) (hj : j = ke.toNat) : failL L W ke to2 = put (sink L (W.take j)) p.1 (p.2.take (tornN to2)) := by
  have hl := (List.getElem?_eq_some_iff.1 hp).1
  have hk : kept ke W.length = j := by unfold kept; omega
  unfold failL
  rw [hk, List.drop_eq_getElem_cons hl]
  have : W[j] = p := by have := (List.getElem?_eq_some_iff.1 hp).2; exact this
  simp only [this]
theorem Dk.failL_all {L : List UInt8} {W : List Wr} {ke to2 : Int} (hj : W.length ≤ ke.toNat) : failL L W ke to2 = sink L W := by
  have hk : kept ke W.length = W.length := by unfold kept; omega
  unfold failL
  rw [hk, List.drop_length, List.take_length]
/-- No writes are left. -/
theorem Try.Rfm.setW {w : World} {x : Nat} {Lv Wv : Value} {left k t : Int} {s : DS} (h : Try.Rfm w x Lv Wv left k t s) : Try.Rfm (w.setCell ⟨x, 1, none⟩ (.slice none 0 0)) x Lv (.slice none 0 0) left k t { s with W := [] } := by
  have hx2 := heap_setCell_same w x 1 _ 69 (.slice none 0 0) h.hx
  have hot : ∀ k, k ≠ x → (w.setCell ⟨x, 1, none⟩ (.slice none 0 0)).heap[k]? = w.heap[k]? := fun k hk => Below.heap_setCell w ⟨x, 1, none⟩ _ k hk
  exact ⟨hx2, h.hf, Dk.row_heap h.lr fun j e => hot j (h.lx j e), World.ownsRow_nil _ _ _ _, h.lx, fun k e => (by cases e), h.lL, GoodW.nil _, h.n0, h.n1, Nat.zero_le _⟩
theorem Try.Rfm.fallen {w : World} {x : Nat} {Lv Wv : Value} {left k t : Int} {s : DS} (h : Try.Rfm w x Lv Wv left k t s) (f : Int) (hf : f = (s.falls : Int) + 1) : Try.Rfm ((((w.setCell ⟨x, 1, none⟩ (.slice none 0 0)).setCell ⟨x, 3, none⟩ (.bool false)).setCell ⟨x, 2, none⟩ (.bool false)).setCell ⟨x, 9, none⟩ (.int .i64 f)) x Lv (.slice none 0 0) left k t { s with W := [], dead := true, fset := false, fl := 0, fk := 0, ft := 0, falls := s.falls + 1 } := by
  have h1 := h.setW.set 3 (.bool false) (left' := left) (k' := k) (t' := t) (s' := { s with W := [], fset := false, fl := 0, fk := 0, ft := 0 }) rfl (fun e => by cases e) rfl rfl rfl
  have h2 := h1.set 2 (.bool false) (left' := left) (k' := k) (t' := t) (s' := { s with W := [], dead := true, fset := false, fl := 0, fk := 0, ft := 0 }) rfl (fun e => by cases e) rfl rfl rfl
  exact h2.set 9 (.int .i64 f) (left' := left) (k' := k) (t' := t) (s' := { s with W := [], dead := true, fset := false, fl := 0, fk := 0, ft := 0, falls := s.falls + 1 }) (by rw [hf]; rfl) (fun e => by cases e) rfl rfl rfl
set_option maxRecDepth 4000 in
set_option maxHeartbeats 4000000 in
theorem Try.rFalls1 {w : World} {x : Nat} {Lv Wv : Value} {left k t : Int} {s : DS} (h : Try.Rfm w x Lv Wv left k t s) (hfl : s.falls < 1000000000) (ke to2 : Int) :
    Calls Try.prog 35 #[.pointer (some ⟨x, 0, none⟩), .agg #[.int .i64 ke, .int .i64 to2]] w fun e w' => (∃ v, e = .returned v) ∧ Try.Rfm w' x Lv (.slice none 0 0) left k t (s.fail ke to2) ∧ Dk.Wo (fun j => j = x ∨ Lv.ownBlock = some j) w w' := by
  obtain ⟨W, hW⟩ : ∃ W : World, W = w.alloc (.cells #[.int .i64 ke, .int .i64 to2] 31) := ⟨_, rfl⟩
  have hb : Below w.heap.size w W := by rw [hW]; exact (Below.refl _ w).alloc (Nat.le_refl _) _
  have hbox : W.heap[w.heap.size]? = some (.cells #[.int .i64 ke, .int .i64 to2] 31 (0, 0)) := by rw [hW]; exact heap_alloc_new w _
  have hM := h.keep fun j e => hb.block j (h.foot_lt j e)
  have hft := h.foot_lt
  obtain ⟨wa, wc, hWv, -⟩ := Dk.rowForm h.wr
  obtain ⟨m, hm⟩ : ∃ m, m = s.W.length := ⟨_, rfl⟩
  have Hm : Hid (m = s.W.length) := hm
  have hm1 : m ≤ 1000000 := by rw [hm]; exact h.w1
  have HM : Hid (Try.Rfm W x Lv Wv left k t s) := hM
  have Hbox : Hid (W.heap[w.heap.size]? = some (.cells #[.int .i64 ke, .int .i64 to2] 31 (0, 0))) := hbox
  have Hb : Hid (Below w.heap.size w W) := hb
  have HW : Hid (W = w.alloc (.cells #[.int .i64 ke, .int .i64 to2] 31)) := hW
  have Hft : Hid (∀ j, Dk.rfoot x Lv Wv j → j < w.heap.size) := hft
  have Hfl : Hid (s.falls < 1000000000) := hfl
  obtain ⟨bx, hbx⟩ : ∃ bx, bx = w.heap.size := ⟨_, rfl⟩
  have Hbx : Hid (bx = w.heap.size) := hbx
  subst hWv
  clear h hM hb hbox hW hft hm hfl
  go_enter Try.func35, Try.ntmps35
  go_upto_region 2 with fail
  rw [← HW.out, ← hbx]
  rw [← hbx] at Hbox
  clear HW hbx
  go_loopw [4, 5, 6] (fun i _ _ wr => ∃ j : Nat, j ≤ m ∧ j ≤ ke.toNat ∧ i = .int .i64 j ∧ Try.Rfm wr x Lv (.slice wa s.W.length wc) left k t { s with L := sink s.L (s.W.take j) } ∧ wr.heap[bx]? = some (.cells #[.int .i64 ke, .int .i64 to2] 31 (0, 0)) ∧ Dk.Wo (fun j => j = x ∨ Lv.ownBlock = some j) w wr) (fun i _ _ _ => m - (intOf i).toNat)
  case atStart => exact ⟨0, Nat.zero_le _, Nat.zero_le _, rfl, HM.out, Hbox.out, (Dk.Wo.refl _ w).below Hb.out (Nat.le_refl _)⟩
  case round =>
    obtain ⟨j, hj, hjk, rfl, hM, hbox, hwo⟩ := hrel
    clear HM Hbox Hb
    obtain ⟨c0, c1, -⟩ := hM.c
    by_cases hjm : j < m
    · have q0 : (j : Int) < (s.W.length : Int) := by have := Hm.out; omega
      have q00 : (0 : Int) ≤ (j : Int) := by omega
      obtain ⟨p, hp⟩ : ∃ p, s.W[j]? = some p := ⟨_, List.getElem?_eq_getElem (by rw [← Hm.out]; exact hjm)⟩
      obtain ⟨hp1, hp2⟩ := hM.good p (List.mem_of_getElem? hp)
      obtain ⟨wg, wc', e, d1, d2⟩ := Dk.pcell hM.wr hp
      cases e
      obtain ⟨g, cap, rfl, l1, l2⟩ := Dk.scell hM.lr hp1
      have HMr : Hid (Try.Rfm wr x (.slice (some ⟨g, 0, none⟩) s.n cap) (.slice (some ⟨wg, 0, none⟩) s.W.length wc) left k t { s with L := sink s.L (s.W.take j) }) := hM
      have Hp : Hid (s.W[j]? = some p) := hp
      have Hwo : Hid (Dk.Wo (fun j => j = x ∨ (Value.slice (some ⟨g, 0, none⟩) s.n cap).ownBlock = some j) w wr) := hwo
      clear hM hp hwo
      go_upto_region 5 with fail
      have Hjk : Hid (j ≤ ke.toNat) := hjk
      generalize hW1 : wr.alloc (Obj.cells #[Value.int .i64 (p.1 : Nat), Value.string ⟨p.2.toArray⟩] 82) = W1
      have hb1 : Below wr.heap.size wr W1 := by rw [← hW1]; exact (Below.refl _ wr).alloc (Nat.le_refl _) _
      have hv1 : W1.heap[wr.heap.size]? = some (.cells #[.int .i64 (p.1 : Nat), .string ⟨p.2.toArray⟩] 82 (0, 0)) := by rw [← hW1]; exact heap_alloc_new wr _
      have hM1 := HMr.out.keep fun j e => hb1.block j (HMr.out.foot_lt j e)
      have hbox1 : W1.heap[bx]? = some (.cells #[.int .i64 ke, .int .i64 to2] 31 (0, 0)) := (hb1.block bx (Dk.block_lt hbox)).trans hbox
      have hwo1 := Hwo.out.below hb1 Hwo.out.size
      have Hlg : Hid (g ≠ x ∧ g ≠ bx) := ⟨hM1.lx g rfl, by have := Hft.out g (.inr (.inl rfl)); have := Hbx.out; omega⟩
      generalize wr.heap.size = vb at *
      have v0 : W1.cell? ⟨vb, 0, none⟩ = some (.int .i64 (p.1 : Nat)) := cell_of_row W1 vb 0 _ _ _ hv1
      have v1 : W1.cell? ⟨vb, 1, none⟩ = some (.string ⟨p.2.toArray⟩) := cell_of_row W1 vb 1 _ _ _ hv1
      have b0 : W1.cell? ⟨bx, 0, none⟩ = some (.int .i64 ke) := cell_of_row W1 bx 0 _ _ _ hbox1
      have b1 : W1.cell? ⟨bx, 1, none⟩ = some (.int .i64 to2) := cell_of_row W1 bx 1 _ _ _ hbox1
      obtain ⟨k0, -⟩ := hM1.c
      obtain ⟨g', cap', e, l3, l4⟩ := Dk.scell hM1.lr hp1
      cases e
      have hp1s : p.1 < s.n := hp1
      have q3 : (p.1 : Int) < (s.n : Int) := by omega
      have q4 : (0 : Int) ≤ (p.1 : Int) := by omega
      have Hl64 : Hid (p.2.length = 64 ∧ (blk (sink s.L (s.W.take j)) p.1).length = 64) := ⟨hp2, blk_length hM1.lL hp1⟩
      have HM1 : Hid (Try.Rfm W1 x (.slice (some ⟨g, 0, none⟩) s.n cap) (.slice (some ⟨wg, 0, none⟩) s.W.length wc) left k t { s with L := sink s.L (s.W.take j) }) := hM1
      have Hbox1 : Hid (W1.heap[bx]? = some (.cells #[.int .i64 ke, .int .i64 to2] 31 (0, 0))) := hbox1
      have Hwo1 : Hid (Dk.Wo (fun j => j = x ∨ (Value.slice (some ⟨g, 0, none⟩) s.n cap).ownBlock = some j) w W1) := hwo1
      have Hp1 : Hid (p.1 < s.n) := hp1
      clear hM1 hbox1 hwo1 hv1 hb1 hW1 hbox HMr Hwo l1 l2 d1 d2 c0 c1 hp2 hp1 hp1s hjk
      by_cases hke : (j : Int) < ke
      · have hset := fun nq => (HM1.out.drewN nq).setL (g := g) rfl (a := p.1) Hp1.out p.2 (by rw [Hl64.out.1]; omega)
        have hsx : p.2 ++ (blk (sink s.L (s.W.take j)) p.1).drop p.2.length = p.2 := by rw [List.drop_of_length_le (by have := Hl64.out; omega), List.append_nil]
        simp only [hsx] at hset
        have Hset : Hid (∀ nq, Try.Rfm ((W1.drewN nq).setCell ⟨g, p.1, none⟩ (.string ⟨p.2.toArray⟩)) x (.slice (some ⟨g, 0, none⟩) s.n cap) (.slice (some ⟨wg, 0, none⟩) s.W.length wc) left k t { s with L := sink s.L (s.W.take (j + 1)) }) := fun nq => by
          have := hset nq
          rw [List.take_add_one, Hp.out]
          show Try.Rfm _ _ _ _ _ _ _ { s with L := sink s.L (s.W.take j ++ [p]) }
          rw [sink_one]
          exact this
        clear hset hsx
        go_wp2
        (refine Go.Lq.wp_region_last 9 (by kernel_rfl) (by kernel_rfl) ?_; dsimp only [List.dropLast]; (repeat (quiet_step (fail))); refine wpQuiet_nil ?_; intro _ hw'; obtain ⟨nq, hw''⟩ := hw'; subst hw''; refine Go.Lq.wpOp_last rfl rfl ?_; unfold Oper.wp; go_simp)
        go_wp2
        go_roundw
        case rel => exact ⟨j + 1, by omega, by omega, by go_num, Hset.out _, (Below.heap_setCell _ _ _ _ (by exact fun e => Hlg.out.2 e.symm)).trans Hbox1.out, (Hwo1.out.drewN _).setCell g p.1 _ (.inl (.inr rfl))⟩
        case measure => simp [intOf]; omega
      · have Hjke : Hid (j = ke.toNat) := by show _ = _; have := Hjk.out; omega
        by_cases ht0 : to2 < 0
        · have hS : (p.2.take 0 ++ ((blk (sink s.L (s.W.take j)) p.1).drop (p.2.take 0).length)) = (p.2.take 0 ++ (blk (sink s.L (s.W.take j)) p.1).drop 0) := by rw [List.length_take, Hl64.out.1, Nat.min_eq_left (by omega)]
          have hcat : (ByteArray.mk p.2.toArray).extract 0 0 ++ (ByteArray.mk (blk (sink s.L (s.W.take j)) p.1).toArray).extract 0 (ByteArray.mk (blk (sink s.L (s.W.take j)) p.1).toArray).size = ⟨(p.2.take 0 ++ (blk (sink s.L (s.W.take j)) p.1).drop 0).toArray⟩ := Dk.cat_take p.2 (blk (sink s.L (s.W.take j)) p.1) 0 (by rw [Hl64.out.1]; omega) (by rw [Hl64.out.2]; omega)
          have hz1 : (ByteArray.mk p.2.toArray).size = 64 := by rw [← Hl64.out.1]; exact Dk.ba_size _
          have hz2 : (ByteArray.mk (blk (sink s.L (s.W.take j)) p.1).toArray).size = 64 := by rw [← Hl64.out.2]; exact Dk.ba_size _
          have HF : Hid (failL s.L s.W ke to2 = put (sink s.L (s.W.take j)) p.1 (p.2.take 0)) := by
            show _ = _
            rw [show p.2.take 0 = p.2.take (tornN to2) by rw [show tornN to2 = 0 by unfold tornN; omega]]
            exact Dk.failL_at Hp.out Hjke.out
          go_wp2
          (refine Go.Lq.wp_region_last 22 (by kernel_rfl) (by kernel_rfl) ?_; dsimp only [List.dropLast]; (repeat (quiet_step (fail))); refine wpQuiet_nil ?_; intro _ hw'; obtain ⟨nq, hw''⟩ := hw'; subst hw''; refine Go.Lq.wpOp_last rfl rfl ?_; unfold Oper.wp; go_simp)
          go_upto_region 13 with fail
          rw [hz2] at hcat
          rw [show (ByteArray.mk (blk (sink s.L (s.W.take j)) p.1).toArray).extract 0 64 = ⟨(p.2.take 0 ++ (blk (sink s.L (s.W.take j)) p.1).drop 0).toArray⟩ from by first | exact hcat | (apply ByteArray.ext; apply Array.ext'; simp; (try rw [List.take_of_length_le (by have := Hl64.out; omega)]); (try rw [List.drop_of_length_le (by have := Hl64.out; omega)]); (try simp); (try exact Nat.le_of_eq Hl64.out.2))]
          have hM2 := (HM1.out.drewN nq).setL (g := g) rfl (a := p.1) Hp1.out (p.2.take 0) (by rw [List.length_take, Hl64.out.1]; omega)
          rw [hS] at hM2
          have hwo2 := (Hwo1.out.drewN nq).setCell g p.1 (.string ⟨(p.2.take 0 ++ (blk (sink s.L (s.W.take j)) p.1).drop 0).toArray⟩) (.inl (.inr rfl))
          generalize (W1.drewN nq).setCell ⟨g, p.1, none⟩ (.string ⟨(p.2.take 0 ++ (blk (sink s.L (s.W.take j)) p.1).drop 0).toArray⟩) = W2 at *
          clear hcat hz1 hz2 hS HM1 Hwo1 l3 l4 k0 v0 v1 b0 b1 Hbox1
          obtain ⟨-, e1, e2, e3, -, -, -, -, -, e8⟩ := hM2.c
          have f1 := frozen_of_row _ x 1 _ _ hM2.hx
          have f2 := frozen_of_row _ x 2 _ _ hM2.hx
          have f3 := frozen_of_row _ x 3 _ _ hM2.hx
          have f8 := frozen_of_row _ x 9 _ _ hM2.hx
          have hfw : wrap64 ((s.falls : Int) + 1) = (s.falls : Int) + 1 := by have := Hfl.out; unfold wrap64; omega
          have hff := hM2.fallen ((s.falls : Int) + 1) rfl
          have Hfin : Hid (Try.Rfm ((((W2.setCell ⟨x, 1, none⟩ (.slice none 0 0)).setCell ⟨x, 3, none⟩ (.bool false)).setCell ⟨x, 2, none⟩ (.bool false)).setCell ⟨x, 9, none⟩ (.int .i64 ((s.falls : Int) + 1))) x (.slice (some ⟨g, 0, none⟩) s.n cap) (.slice none 0 0) left k t (s.fail ke to2)) := by
            show Try.Rfm _ _ _ _ _ _ _ _
            unfold DS.fail
            rw [HF.out]
            exact hff
          have HW2 : Hid (Dk.Wo (fun j => j = x ∨ (Value.slice (some ⟨g, 0, none⟩) s.n cap).ownBlock = some j) w ((((W2.setCell ⟨x, 1, none⟩ (.slice none 0 0)).setCell ⟨x, 3, none⟩ (.bool false)).setCell ⟨x, 2, none⟩ (.bool false)).setCell ⟨x, 9, none⟩ (.int .i64 ((s.falls : Int) + 1)))) := (((hwo2.setCell x 1 (.slice none 0 0) (.inl (.inl rfl))).setCell x 3 (.bool false) (.inl (.inl rfl))).setCell x 2 (.bool false) (.inl (.inl rfl))).setCell x 9 (.int .i64 ((s.falls : Int) + 1)) (.inl (.inl rfl))
          clear hM2 hff hwo2 HF
          go_wp2
          go_end0
          exact ⟨⟨_, rfl⟩, Hfin.out, HW2.out⟩
        · by_cases ht1 : (64 : Int) < to2
          · have hS : (p.2.take 64 ++ ((blk (sink s.L (s.W.take j)) p.1).drop (p.2.take 64).length)) = (p.2.take 64 ++ (blk (sink s.L (s.W.take j)) p.1).drop 64) := by rw [List.length_take, Hl64.out.1, Nat.min_eq_left (by omega)]
            have hcat : (ByteArray.mk p.2.toArray).extract 0 64 ++ (ByteArray.mk (blk (sink s.L (s.W.take j)) p.1).toArray).extract 64 (ByteArray.mk (blk (sink s.L (s.W.take j)) p.1).toArray).size = ⟨(p.2.take 64 ++ (blk (sink s.L (s.W.take j)) p.1).drop 64).toArray⟩ := Dk.cat_take p.2 (blk (sink s.L (s.W.take j)) p.1) 64 (by rw [Hl64.out.1]; omega) (by rw [Hl64.out.2]; omega)
            have hz1 : (ByteArray.mk p.2.toArray).size = 64 := by rw [← Hl64.out.1]; exact Dk.ba_size _
            have hz2 : (ByteArray.mk (blk (sink s.L (s.W.take j)) p.1).toArray).size = 64 := by rw [← Hl64.out.2]; exact Dk.ba_size _
            have HF : Hid (failL s.L s.W ke to2 = put (sink s.L (s.W.take j)) p.1 (p.2.take 64)) := by
              show _ = _
              rw [show p.2.take 64 = p.2.take (tornN to2) by rw [show tornN to2 = 64 by unfold tornN; omega]]
              exact Dk.failL_at Hp.out Hjke.out
            go_wp2
            (refine Go.Lq.wp_region_last 22 (by kernel_rfl) (by kernel_rfl) ?_; dsimp only [List.dropLast]; (repeat (quiet_step (fail))); refine wpQuiet_nil ?_; intro _ hw'; obtain ⟨nq, hw''⟩ := hw'; subst hw''; refine Go.Lq.wpOp_last rfl rfl ?_; unfold Oper.wp; go_simp)
            go_upto_region 13 with fail
            rw [hz2] at hcat
            rw [show (ByteArray.mk p.2.toArray).extract 0 64 = ⟨(p.2.take 64 ++ (blk (sink s.L (s.W.take j)) p.1).drop 64).toArray⟩ from by first | exact hcat | (apply ByteArray.ext; apply Array.ext'; simp; (try rw [List.take_of_length_le (by have := Hl64.out; omega)]); (try rw [List.drop_of_length_le (by have := Hl64.out; omega)]); (try simp); (try exact Nat.le_of_eq Hl64.out.2))]
            have hM2 := (HM1.out.drewN nq).setL (g := g) rfl (a := p.1) Hp1.out (p.2.take 64) (by rw [List.length_take, Hl64.out.1]; omega)
            rw [hS] at hM2
            have hwo2 := (Hwo1.out.drewN nq).setCell g p.1 (.string ⟨(p.2.take 64 ++ (blk (sink s.L (s.W.take j)) p.1).drop 64).toArray⟩) (.inl (.inr rfl))
            generalize (W1.drewN nq).setCell ⟨g, p.1, none⟩ (.string ⟨(p.2.take 64 ++ (blk (sink s.L (s.W.take j)) p.1).drop 64).toArray⟩) = W2 at *
            clear hcat hz1 hz2 hS HM1 Hwo1 l3 l4 k0 v0 v1 b0 b1 Hbox1
            obtain ⟨-, e1, e2, e3, -, -, -, -, -, e8⟩ := hM2.c
            have f1 := frozen_of_row _ x 1 _ _ hM2.hx
            have f2 := frozen_of_row _ x 2 _ _ hM2.hx
            have f3 := frozen_of_row _ x 3 _ _ hM2.hx
            have f8 := frozen_of_row _ x 9 _ _ hM2.hx
            have hfw : wrap64 ((s.falls : Int) + 1) = (s.falls : Int) + 1 := by have := Hfl.out; unfold wrap64; omega
            have hff := hM2.fallen ((s.falls : Int) + 1) rfl
            have Hfin : Hid (Try.Rfm ((((W2.setCell ⟨x, 1, none⟩ (.slice none 0 0)).setCell ⟨x, 3, none⟩ (.bool false)).setCell ⟨x, 2, none⟩ (.bool false)).setCell ⟨x, 9, none⟩ (.int .i64 ((s.falls : Int) + 1))) x (.slice (some ⟨g, 0, none⟩) s.n cap) (.slice none 0 0) left k t (s.fail ke to2)) := by
              show Try.Rfm _ _ _ _ _ _ _ _
              unfold DS.fail
              rw [HF.out]
              exact hff
            have HW2 : Hid (Dk.Wo (fun j => j = x ∨ (Value.slice (some ⟨g, 0, none⟩) s.n cap).ownBlock = some j) w ((((W2.setCell ⟨x, 1, none⟩ (.slice none 0 0)).setCell ⟨x, 3, none⟩ (.bool false)).setCell ⟨x, 2, none⟩ (.bool false)).setCell ⟨x, 9, none⟩ (.int .i64 ((s.falls : Int) + 1)))) := (((hwo2.setCell x 1 (.slice none 0 0) (.inl (.inl rfl))).setCell x 3 (.bool false) (.inl (.inl rfl))).setCell x 2 (.bool false) (.inl (.inl rfl))).setCell x 9 (.int .i64 ((s.falls : Int) + 1)) (.inl (.inl rfl))
            clear hM2 hff hwo2 HF
            go_wp2
            go_end0
            exact ⟨⟨_, rfl⟩, Hfin.out, HW2.out⟩
          · obtain ⟨T, rfl⟩ : ∃ T : Nat, to2 = (T : Int) := ⟨to2.toNat, by omega⟩
            have hS : (p.2.take T ++ ((blk (sink s.L (s.W.take j)) p.1).drop (p.2.take T).length)) = (p.2.take T ++ (blk (sink s.L (s.W.take j)) p.1).drop T) := by rw [List.length_take, Hl64.out.1, Nat.min_eq_left (by omega)]
            have hcat : (ByteArray.mk p.2.toArray).extract 0 T ++ (ByteArray.mk (blk (sink s.L (s.W.take j)) p.1).toArray).extract T (ByteArray.mk (blk (sink s.L (s.W.take j)) p.1).toArray).size = ⟨(p.2.take T ++ (blk (sink s.L (s.W.take j)) p.1).drop T).toArray⟩ := Dk.cat_take p.2 (blk (sink s.L (s.W.take j)) p.1) T (by rw [Hl64.out.1]; omega) (by rw [Hl64.out.2]; omega)
            have hz1 : (ByteArray.mk p.2.toArray).size = 64 := by rw [← Hl64.out.1]; exact Dk.ba_size _
            have hz2 : (ByteArray.mk (blk (sink s.L (s.W.take j)) p.1).toArray).size = 64 := by rw [← Hl64.out.2]; exact Dk.ba_size _
            have HF : Hid (failL s.L s.W ke (T : Int) = put (sink s.L (s.W.take j)) p.1 (p.2.take T)) := by
              show _ = _
              rw [show p.2.take T = p.2.take (tornN (T : Int)) by rw [show tornN (T : Int) = T by unfold tornN; omega]]
              exact Dk.failL_at Hp.out Hjke.out
            have q5 : (T : Int) ≤ 64 := by omega
            have q6 : (0 : Int) ≤ (T : Int) := by omega
            have q7 : T ≤ 64 := by omega
            go_wp2
            (refine Go.Lq.wp_region_last 22 (by kernel_rfl) (by kernel_rfl) ?_; dsimp only [List.dropLast]; (repeat (quiet_step (fail))); refine wpQuiet_nil ?_; intro _ hw'; obtain ⟨nq, hw''⟩ := hw'; subst hw''; refine Go.Lq.wpOp_last rfl rfl ?_; unfold Oper.wp; go_simp)
            go_upto_region 13 with fail
            rw [hz2] at hcat
            rw [show (ByteArray.mk p.2.toArray).extract 0 T ++ (ByteArray.mk (blk (sink s.L (s.W.take j)) p.1).toArray).extract T 64 = ⟨(p.2.take T ++ (blk (sink s.L (s.W.take j)) p.1).drop T).toArray⟩ from by first | exact hcat | (apply ByteArray.ext; apply Array.ext'; simp; (try rw [List.take_of_length_le (by have := Hl64.out; omega)]); (try rw [List.drop_of_length_le (by have := Hl64.out; omega)]); (try simp); (try exact Nat.le_of_eq Hl64.out.2))]
            have hM2 := (HM1.out.drewN nq).setL (g := g) rfl (a := p.1) Hp1.out (p.2.take T) (by rw [List.length_take, Hl64.out.1]; omega)
            rw [hS] at hM2
            have hwo2 := (Hwo1.out.drewN nq).setCell g p.1 (.string ⟨(p.2.take T ++ (blk (sink s.L (s.W.take j)) p.1).drop T).toArray⟩) (.inl (.inr rfl))
            generalize (W1.drewN nq).setCell ⟨g, p.1, none⟩ (.string ⟨(p.2.take T ++ (blk (sink s.L (s.W.take j)) p.1).drop T).toArray⟩) = W2 at *
            clear hcat hz1 hz2 hS HM1 Hwo1 l3 l4 k0 v0 v1 b0 b1 Hbox1
            obtain ⟨-, e1, e2, e3, -, -, -, -, -, e8⟩ := hM2.c
            have f1 := frozen_of_row _ x 1 _ _ hM2.hx
            have f2 := frozen_of_row _ x 2 _ _ hM2.hx
            have f3 := frozen_of_row _ x 3 _ _ hM2.hx
            have f8 := frozen_of_row _ x 9 _ _ hM2.hx
            have hfw : wrap64 ((s.falls : Int) + 1) = (s.falls : Int) + 1 := by have := Hfl.out; unfold wrap64; omega
            have hff := hM2.fallen ((s.falls : Int) + 1) rfl
            have Hfin : Hid (Try.Rfm ((((W2.setCell ⟨x, 1, none⟩ (.slice none 0 0)).setCell ⟨x, 3, none⟩ (.bool false)).setCell ⟨x, 2, none⟩ (.bool false)).setCell ⟨x, 9, none⟩ (.int .i64 ((s.falls : Int) + 1))) x (.slice (some ⟨g, 0, none⟩) s.n cap) (.slice none 0 0) left k t (s.fail ke (T : Int))) := by
              show Try.Rfm _ _ _ _ _ _ _ _
              unfold DS.fail
              rw [HF.out]
              exact hff
            have HW2 : Hid (Dk.Wo (fun j => j = x ∨ (Value.slice (some ⟨g, 0, none⟩) s.n cap).ownBlock = some j) w ((((W2.setCell ⟨x, 1, none⟩ (.slice none 0 0)).setCell ⟨x, 3, none⟩ (.bool false)).setCell ⟨x, 2, none⟩ (.bool false)).setCell ⟨x, 9, none⟩ (.int .i64 ((s.falls : Int) + 1)))) := (((hwo2.setCell x 1 (.slice none 0 0) (.inl (.inl rfl))).setCell x 3 (.bool false) (.inl (.inl rfl))).setCell x 2 (.bool false) (.inl (.inl rfl))).setCell x 9 (.int .i64 ((s.falls : Int) + 1)) (.inl (.inl rfl))
            clear hM2 hff hwo2 HF
            go_wp2
            go_end0
            exact ⟨⟨_, rfl⟩, Hfin.out, HW2.out⟩
    · have hjm' : j = m := by omega
      have hjW : s.W.length = j := by rw [← Hm.out]; omega
      have q0 : ¬ (j : Int) < (s.W.length : Int) := by omega
      have HF : Hid (failL s.L s.W ke to2 = sink s.L (s.W.take j)) := by
        show _ = _
        rw [Dk.failL_all (by omega), List.take_of_length_le (by omega)]
      obtain ⟨W2, hW2⟩ : ∃ W2 : World, W2 = wr := ⟨_, rfl⟩
      subst hW2
      have hM2 := hM
      have hwo2 := hwo
      clear hM hwo hbox hjm hjm'
      obtain ⟨-, e1, e2, e3, -, -, -, -, -, e8⟩ := hM2.c
      have f1 := frozen_of_row _ x 1 _ _ hM2.hx
      have f2 := frozen_of_row _ x 2 _ _ hM2.hx
      have f3 := frozen_of_row _ x 3 _ _ hM2.hx
      have f8 := frozen_of_row _ x 9 _ _ hM2.hx
      have hfw : wrap64 ((s.falls : Int) + 1) = (s.falls : Int) + 1 := by have := Hfl.out; unfold wrap64; omega
      have hff := hM2.fallen ((s.falls : Int) + 1) rfl
      have Hfin : Hid (Try.Rfm ((((W2.setCell ⟨x, 1, none⟩ (.slice none 0 0)).setCell ⟨x, 3, none⟩ (.bool false)).setCell ⟨x, 2, none⟩ (.bool false)).setCell ⟨x, 9, none⟩ (.int .i64 ((s.falls : Int) + 1))) x Lv (.slice none 0 0) left k t (s.fail ke to2)) := by
        show Try.Rfm _ _ _ _ _ _ _ _
        unfold DS.fail
        rw [HF.out]
        exact hff
      have HW2 : Hid (Dk.Wo (fun j => j = x ∨ Lv.ownBlock = some j) w ((((W2.setCell ⟨x, 1, none⟩ (.slice none 0 0)).setCell ⟨x, 3, none⟩ (.bool false)).setCell ⟨x, 2, none⟩ (.bool false)).setCell ⟨x, 9, none⟩ (.int .i64 ((s.falls : Int) + 1)))) := (((hwo2.setCell x 1 (.slice none 0 0) (.inl (.inl rfl))).setCell x 3 (.bool false) (.inl (.inl rfl))).setCell x 2 (.bool false) (.inl (.inl rfl))).setCell x 9 (.int .i64 ((s.falls : Int) + 1)) (.inl (.inl rfl))
      clear hM2 hff hwo2 HF
      go_wp2
      go_end0
      exact ⟨⟨_, rfl⟩, Hfin.out, HW2.out⟩
end Go.Proofs
