/-
  Laid together by packg.py of DyC DyD DyE.
-/
import Derived.Test.YtbnokhaimcpggaaDyB
import Derived.Test.YtbnokhaimcpggaaLq
import Derived.BigRegion
import Derived.Deep.AppendLies
namespace Go.Proofs
open Go.RowKit Go.Dk
theorem Try.Rfm.drewN {w : World} {x : Nat} {Lv Wv : Value} {left k t : Int} {s : DS} (h : Try.Rfm w x Lv Wv left k t s) (n : Nat) : Try.Rfm (w.drewN n) x Lv Wv left k t s := h.keep fun _ _ => rfl
/-- A block's text is set. -/
theorem Try.Rfm.setL {w : World} {x : Nat} {Lv Wv : Value} {left k t : Int} {s : DS} (h : Try.Rfm w x Lv Wv left k t s) {g : Nat} (hg : Lv.ownBlock = some g) {a : Nat} (ha : a < s.n) (b : List UInt8) (hb : b.length ≤ 64) : Try.Rfm (w.setCell ⟨g, a, none⟩ (.string ⟨(b ++ (blk s.L a).drop b.length).toArray⟩)) x Lv Wv left k t { s with L := put s.L a b } := by
  have hot : ∀ j, j ≠ g → (w.setCell ⟨g, a, none⟩ (.string ⟨(b ++ (blk s.L a).drop b.length).toArray⟩)).heap[j]? = w.heap[j]? := fun j hj => Below.heap_setCell w ⟨g, a, none⟩ _ j hj
  refine ⟨(hot x (h.lx g hg).symm).trans h.hx, h.hf, ?_, Dk.row_heap h.wr fun j e => hot j fun e2 => (h.wx j e).2 (by rw [e2]; exact hg), h.lx, h.wx, ?_, h.good, h.n0, h.n1, h.w1⟩
  · show (w.setCell _ _).ownsRow 0 _ 1 Lv s.n (Dk.strs s.n (put s.L a b))
    rw [Dk.strs_put h.lL ha hb]
    exact Dk.row_set h.lr hg a _
  · show (put s.L a b).length = _
    rw [length_put (by rw [h.lL]; omega)]
    exact h.lL
theorem Dk.ba_size (l : List UInt8) : (ByteArray.mk l.toArray).size = l.length := by simp [ByteArray.size]
theorem Dk.cat_take (a b : List UInt8) (T : Nat) (_ha : T ≤ a.length) (_hb : T ≤ b.length) : (ByteArray.mk a.toArray).extract 0 T ++ (ByteArray.mk b.toArray).extract T (ByteArray.mk b.toArray).size = ⟨(a.take T ++ b.drop T).toArray⟩ := by
  apply ByteArray.ext
  apply Array.ext'
  simp [ByteArray.size]
  exact List.take_of_length_le (by simp)
theorem Dk.failL_at {L : List UInt8} {W : List Wr} {j : Nat} {p : Wr} {ke to2 : Int} (hp : W[j]? = some p) (hj : j = ke.toNat) : failL L W ke to2 = put (sink L (W.take j)) p.1 (p.2.take (tornN to2)) := by
  have hl := (List.getElem?_eq_some_iff.1 hp).1
  have hk : kept ke W.length = j := by unfold kept; omega
  unfold failL
  rw [hk, List.drop_eq_getElem_cons hl]
  have : W[j] = p := by have := (List.getElem?_eq_some_iff.1 hp).2; exact this
  simp only [this]
theorem Dk.failL_all {L : List UInt8} {W : List Wr} {ke to2 : Int} (hj : W.length ≤ ke.toNat) : failL L W ke to2 = sink L W := by
  have hk : kept ke W.length = W.length := by unfold kept; omega
  unfold failL
  rw [hk, List.drop_length, List.take_length]
/-- No writes are left. -/
theorem Try.Rfm.setW {w : World} {x : Nat} {Lv Wv : Value} {left k t : Int} {s : DS} (h : Try.Rfm w x Lv Wv left k t s) : Try.Rfm (w.setCell ⟨x, 1, none⟩ (.slice none 0 0)) x Lv (.slice none 0 0) left k t { s with W := [] } := by
  have hx2 := heap_setCell_same w x 1 _ 58 (.slice none 0 0) h.hx
  have hot : ∀ k, k ≠ x → (w.setCell ⟨x, 1, none⟩ (.slice none 0 0)).heap[k]? = w.heap[k]? := fun k hk => Below.heap_setCell w ⟨x, 1, none⟩ _ k hk
  exact ⟨hx2, h.hf, Dk.row_heap h.lr fun j e => hot j (h.lx j e), World.ownsRow_nil _ _ _ _, h.lx, fun k e => (by cases e), h.lL, GoodW.nil _, h.n0, h.n1, Nat.zero_le _⟩
theorem Try.Rfm.fallen {w : World} {x : Nat} {Lv Wv : Value} {left k t : Int} {s : DS} (h : Try.Rfm w x Lv Wv left k t s) (f : Int) (hf : f = (s.falls : Int) + 1) : Try.Rfm ((((w.setCell ⟨x, 1, none⟩ (.slice none 0 0)).setCell ⟨x, 3, none⟩ (.bool false)).setCell ⟨x, 2, none⟩ (.bool false)).setCell ⟨x, 9, none⟩ (.int .i64 f)) x Lv (.slice none 0 0) left k t { s with W := [], dead := true, fset := false, fl := 0, fk := 0, ft := 0, falls := s.falls + 1 } := by
  have h1 := h.setW.set 3 (.bool false) (left' := left) (k' := k) (t' := t) (s' := { s with W := [], fset := false, fl := 0, fk := 0, ft := 0 }) rfl (fun e => by cases e) rfl rfl rfl
  have h2 := h1.set 2 (.bool false) (left' := left) (k' := k) (t' := t) (s' := { s with W := [], dead := true, fset := false, fl := 0, fk := 0, ft := 0 }) rfl (fun e => by cases e) rfl rfl rfl
  exact h2.set 9 (.int .i64 f) (left' := left) (k' := k) (t' := t) (s' := { s with W := [], dead := true, fset := false, fl := 0, fk := 0, ft := 0, falls := s.falls + 1 }) (by rw [hf]; rfl) (fun e => by cases e) rfl rfl rfl
set_option maxRecDepth 4000 in
set_option maxHeartbeats 4000000 in
theorem Try.rFalls1 {w : World} {x : Nat} {Lv Wv : Value} {left k t : Int} {s : DS} (h : Try.Rfm w x Lv Wv left k t s) (hfl : s.falls < 1000000000) (ke to2 : Int) :
    Calls Try.prog 22 #[.pointer (some ⟨x, 0, none⟩), .agg #[.int .i64 ke, .int .i64 to2]] w fun e w' => (∃ v, e = .returned v) ∧ Try.Rfm w' x Lv (.slice none 0 0) left k t (s.fail ke to2) ∧ Dk.Wo (fun j => j = x ∨ Lv.ownBlock = some j) w w' := by
  obtain ⟨W, hW⟩ : ∃ W : World, W = w.alloc (.cells #[.int .i64 ke, .int .i64 to2] 56) := ⟨_, rfl⟩
  have hb : Below w.heap.size w W := by rw [hW]; exact (Below.refl _ w).alloc (Nat.le_refl _) _
  have hbox : W.heap[w.heap.size]? = some (.cells #[.int .i64 ke, .int .i64 to2] 56 (0, 0)) := by rw [hW]; exact heap_alloc_new w _
  have hM := h.keep fun j e => hb.block j (h.foot_lt j e)
  have hft := h.foot_lt
  obtain ⟨wa, wc, hWv, -⟩ := Dk.rowForm h.wr
  obtain ⟨m, hm⟩ : ∃ m, m = s.W.length := ⟨_, rfl⟩
  have Hm : Hid (m = s.W.length) := hm
  have hm1 : m ≤ 1000000 := by rw [hm]; exact h.w1
  have HM : Hid (Try.Rfm W x Lv Wv left k t s) := hM
  have Hbox : Hid (W.heap[w.heap.size]? = some (.cells #[.int .i64 ke, .int .i64 to2] 56 (0, 0))) := hbox
  have Hb : Hid (Below w.heap.size w W) := hb
  have HW : Hid (W = w.alloc (.cells #[.int .i64 ke, .int .i64 to2] 56)) := hW
  have Hft : Hid (∀ j, Dk.rfoot x Lv Wv j → j < w.heap.size) := hft
  have Hfl : Hid (s.falls < 1000000000) := hfl
  obtain ⟨bx, hbx⟩ : ∃ bx, bx = w.heap.size := ⟨_, rfl⟩
  have Hbx : Hid (bx = w.heap.size) := hbx
  subst hWv
  clear h hM hb hbox hW hft hm hfl
  go_enter Try.func22, Try.ntmps22
  go_upto_region 2 with fail
  rw [← HW.out, ← hbx]
  rw [← hbx] at Hbox
  clear HW hbx
  go_loopw [4, 5, 6] (fun i _ _ wr => ∃ j : Nat, j ≤ m ∧ j ≤ ke.toNat ∧ i = .int .i64 j ∧ Try.Rfm wr x Lv (.slice wa s.W.length wc) left k t { s with L := sink s.L (s.W.take j) } ∧ wr.heap[bx]? = some (.cells #[.int .i64 ke, .int .i64 to2] 56 (0, 0)) ∧ Dk.Wo (fun j => j = x ∨ Lv.ownBlock = some j) w wr) (fun i _ _ _ => m - (intOf i).toNat)
  case atStart => exact ⟨0, Nat.zero_le _, Nat.zero_le _, rfl, HM.out, Hbox.out, (Dk.Wo.refl _ w).below Hb.out (Nat.le_refl _)⟩
  case round =>
    obtain ⟨j, hj, hjk, rfl, hM, hbox, hwo⟩ := hrel
    clear HM Hbox Hb
    obtain ⟨c0, c1, -⟩ := hM.c
    by_cases hjm : j < m
    · have q0 : (j : Int) < (s.W.length : Int) := by have := Hm.out; omega
      have q00 : (0 : Int) ≤ (j : Int) := by omega
      obtain ⟨p, hp⟩ : ∃ p, s.W[j]? = some p := ⟨_, List.getElem?_eq_getElem (by rw [← Hm.out]; exact hjm)⟩
      obtain ⟨hp1, hp2⟩ := hM.good p (List.mem_of_getElem? hp)
      obtain ⟨wg, wc', e, d1, d2⟩ := Dk.pcell hM.wr hp
      cases e
      obtain ⟨g, cap, rfl, l1, l2⟩ := Dk.scell hM.lr hp1
      have HMr : Hid (Try.Rfm wr x (.slice (some ⟨g, 0, none⟩) s.n cap) (.slice (some ⟨wg, 0, none⟩) s.W.length wc) left k t { s with L := sink s.L (s.W.take j) }) := hM
      have Hp : Hid (s.W[j]? = some p) := hp
      have Hwo : Hid (Dk.Wo (fun j => j = x ∨ (Value.slice (some ⟨g, 0, none⟩) s.n cap).ownBlock = some j) w wr) := hwo
      clear hM hp hwo
      go_upto_region 5 with fail
      have Hjk : Hid (j ≤ ke.toNat) := hjk
      generalize hW1 : wr.alloc (Obj.cells #[Value.int .i64 (p.1 : Nat), Value.string ⟨p.2.toArray⟩] 72) = W1
      have hb1 : Below wr.heap.size wr W1 := by rw [← hW1]; exact (Below.refl _ wr).alloc (Nat.le_refl _) _
      have hv1 : W1.heap[wr.heap.size]? = some (.cells #[.int .i64 (p.1 : Nat), .string ⟨p.2.toArray⟩] 72 (0, 0)) := by rw [← hW1]; exact heap_alloc_new wr _
      have hM1 := HMr.out.keep fun j e => hb1.block j (HMr.out.foot_lt j e)
      have hbox1 : W1.heap[bx]? = some (.cells #[.int .i64 ke, .int .i64 to2] 56 (0, 0)) := (hb1.block bx (Dk.block_lt hbox)).trans hbox
      have hwo1 := Hwo.out.below hb1 Hwo.out.size
      have Hlg : Hid (g ≠ x ∧ g ≠ bx) := ⟨hM1.lx g rfl, by have := Hft.out g (.inr (.inl rfl)); have := Hbx.out; omega⟩
      generalize wr.heap.size = vb at *
      have v0 : W1.cell? ⟨vb, 0, none⟩ = some (.int .i64 (p.1 : Nat)) := cell_of_row W1 vb 0 _ _ _ hv1
      have v1 : W1.cell? ⟨vb, 1, none⟩ = some (.string ⟨p.2.toArray⟩) := cell_of_row W1 vb 1 _ _ _ hv1
      have b0 : W1.cell? ⟨bx, 0, none⟩ = some (.int .i64 ke) := cell_of_row W1 bx 0 _ _ _ hbox1
      have b1 : W1.cell? ⟨bx, 1, none⟩ = some (.int .i64 to2) := cell_of_row W1 bx 1 _ _ _ hbox1
      obtain ⟨k0, -⟩ := hM1.c
      obtain ⟨g', cap', e, l3, l4⟩ := Dk.scell hM1.lr hp1
      cases e
      have hp1s : p.1 < s.n := hp1
      have q3 : (p.1 : Int) < (s.n : Int) := by omega
      have q4 : (0 : Int) ≤ (p.1 : Int) := by omega
      have Hl64 : Hid (p.2.length = 64 ∧ (blk (sink s.L (s.W.take j)) p.1).length = 64) := ⟨hp2, blk_length hM1.lL hp1⟩
      have HM1 : Hid (Try.Rfm W1 x (.slice (some ⟨g, 0, none⟩) s.n cap) (.slice (some ⟨wg, 0, none⟩) s.W.length wc) left k t { s with L := sink s.L (s.W.take j) }) := hM1
      have Hbox1 : Hid (W1.heap[bx]? = some (.cells #[.int .i64 ke, .int .i64 to2] 56 (0, 0))) := hbox1
      have Hwo1 : Hid (Dk.Wo (fun j => j = x ∨ (Value.slice (some ⟨g, 0, none⟩) s.n cap).ownBlock = some j) w W1) := hwo1
      have Hp1 : Hid (p.1 < s.n) := hp1
      clear hM1 hbox1 hwo1 hv1 hb1 hW1 hbox HMr Hwo l1 l2 d1 d2 c0 c1 hp2 hp1 hp1s hjk
      by_cases hke : (j : Int) < ke
      · have hset := fun nq => (HM1.out.drewN nq).setL (g := g) rfl (a := p.1) Hp1.out p.2 (by rw [Hl64.out.1]; omega)
        have hsx : p.2 ++ (blk (sink s.L (s.W.take j)) p.1).drop p.2.length = p.2 := by rw [List.drop_of_length_le (by have := Hl64.out; omega), List.append_nil]
        simp only [hsx] at hset
        have Hset : Hid (∀ nq, Try.Rfm ((W1.drewN nq).setCell ⟨g, p.1, none⟩ (.string ⟨p.2.toArray⟩)) x (.slice (some ⟨g, 0, none⟩) s.n cap) (.slice (some ⟨wg, 0, none⟩) s.W.length wc) left k t { s with L := sink s.L (s.W.take (j + 1)) }) := fun nq => by
          have := hset nq
          rw [List.take_add_one, Hp.out]
          show Try.Rfm _ _ _ _ _ _ _ { s with L := sink s.L (s.W.take j ++ [p]) }
          rw [sink_one]
          exact this
        clear hset hsx
        go_wp2
        (refine Go.Lq.wp_region_last 9 (by kernel_rfl) (by kernel_rfl) ?_; dsimp only [List.dropLast]; (repeat (quiet_step (fail))); refine wpQuiet_nil ?_; intro _ hw'; obtain ⟨nq, hw''⟩ := hw'; subst hw''; refine Go.Lq.wpOp_last rfl rfl ?_; unfold Oper.wp; go_simp)
        go_wp2
        go_roundw
        case rel => exact ⟨j + 1, by omega, by omega, by go_num, Hset.out _, (Below.heap_setCell _ _ _ _ (by exact fun e => Hlg.out.2 e.symm)).trans Hbox1.out, (Hwo1.out.drewN _).setCell g p.1 _ (.inl (.inr rfl))⟩
        case measure => simp [intOf]; omega
      · have Hjke : Hid (j = ke.toNat) := by show _ = _; have := Hjk.out; omega
        by_cases ht0 : to2 < 0
        · have hS : (p.2.take 0 ++ ((blk (sink s.L (s.W.take j)) p.1).drop (p.2.take 0).length)) = (p.2.take 0 ++ (blk (sink s.L (s.W.take j)) p.1).drop 0) := by rw [List.length_take, Hl64.out.1, Nat.min_eq_left (by omega)]
          have hcat : (ByteArray.mk p.2.toArray).extract 0 0 ++ (ByteArray.mk (blk (sink s.L (s.W.take j)) p.1).toArray).extract 0 (ByteArray.mk (blk (sink s.L (s.W.take j)) p.1).toArray).size = ⟨(p.2.take 0 ++ (blk (sink s.L (s.W.take j)) p.1).drop 0).toArray⟩ := Dk.cat_take p.2 (blk (sink s.L (s.W.take j)) p.1) 0 (by rw [Hl64.out.1]; omega) (by rw [Hl64.out.2]; omega)
          have hz1 : (ByteArray.mk p.2.toArray).size = 64 := by rw [← Hl64.out.1]; exact Dk.ba_size _
          have hz2 : (ByteArray.mk (blk (sink s.L (s.W.take j)) p.1).toArray).size = 64 := by rw [← Hl64.out.2]; exact Dk.ba_size _
          have HF : Hid (failL s.L s.W ke to2 = put (sink s.L (s.W.take j)) p.1 (p.2.take 0)) := by
            show _ = _
            rw [show p.2.take 0 = p.2.take (tornN to2) by rw [show tornN to2 = 0 by unfold tornN; omega]]
            exact Dk.failL_at Hp.out Hjke.out
          go_wp2
          (refine Go.Lq.wp_region_last 22 (by kernel_rfl) (by kernel_rfl) ?_; dsimp only [List.dropLast]; (repeat (quiet_step (fail))); refine wpQuiet_nil ?_; intro _ hw'; obtain ⟨nq, hw''⟩ := hw'; subst hw''; refine Go.Lq.wpOp_last rfl rfl ?_; unfold Oper.wp; go_simp)
          go_upto_region 13 with fail
          rw [hz2] at hcat
          rw [show (ByteArray.mk (blk (sink s.L (s.W.take j)) p.1).toArray).extract 0 64 = ⟨(p.2.take 0 ++ (blk (sink s.L (s.W.take j)) p.1).drop 0).toArray⟩ from by first | exact hcat | (apply ByteArray.ext; apply Array.ext'; simp; (try rw [List.take_of_length_le (by have := Hl64.out; omega)]); (try rw [List.drop_of_length_le (by have := Hl64.out; omega)]); (try simp); (try exact Nat.le_of_eq Hl64.out.2))]
          have hM2 := (HM1.out.drewN nq).setL (g := g) rfl (a := p.1) Hp1.out (p.2.take 0) (by rw [List.length_take, Hl64.out.1]; omega)
          rw [hS] at hM2
          have hwo2 := (Hwo1.out.drewN nq).setCell g p.1 (.string ⟨(p.2.take 0 ++ (blk (sink s.L (s.W.take j)) p.1).drop 0).toArray⟩) (.inl (.inr rfl))
          generalize (W1.drewN nq).setCell ⟨g, p.1, none⟩ (.string ⟨(p.2.take 0 ++ (blk (sink s.L (s.W.take j)) p.1).drop 0).toArray⟩) = W2 at *
          clear hcat hz1 hz2 hS HM1 Hwo1 l3 l4 k0 v0 v1 b0 b1 Hbox1
          obtain ⟨-, e1, e2, e3, -, -, -, -, -, e8⟩ := hM2.c
          have f1 := frozen_of_row _ x 1 _ _ hM2.hx
          have f2 := frozen_of_row _ x 2 _ _ hM2.hx
          have f3 := frozen_of_row _ x 3 _ _ hM2.hx
          have f8 := frozen_of_row _ x 9 _ _ hM2.hx
          have hfw : wrap64 ((s.falls : Int) + 1) = (s.falls : Int) + 1 := by have := Hfl.out; unfold wrap64; omega
          have hff := hM2.fallen ((s.falls : Int) + 1) rfl
          have Hfin : Hid (Try.Rfm ((((W2.setCell ⟨x, 1, none⟩ (.slice none 0 0)).setCell ⟨x, 3, none⟩ (.bool false)).setCell ⟨x, 2, none⟩ (.bool false)).setCell ⟨x, 9, none⟩ (.int .i64 ((s.falls : Int) + 1))) x (.slice (some ⟨g, 0, none⟩) s.n cap) (.slice none 0 0) left k t (s.fail ke to2)) := by
            show Try.Rfm _ _ _ _ _ _ _ _
            unfold DS.fail
            rw [HF.out]
            exact hff
          have HW2 : Hid (Dk.Wo (fun j => j = x ∨ (Value.slice (some ⟨g, 0, none⟩) s.n cap).ownBlock = some j) w ((((W2.setCell ⟨x, 1, none⟩ (.slice none 0 0)).setCell ⟨x, 3, none⟩ (.bool false)).setCell ⟨x, 2, none⟩ (.bool false)).setCell ⟨x, 9, none⟩ (.int .i64 ((s.falls : Int) + 1)))) := (((hwo2.setCell x 1 (.slice none 0 0) (.inl (.inl rfl))).setCell x 3 (.bool false) (.inl (.inl rfl))).setCell x 2 (.bool false) (.inl (.inl rfl))).setCell x 9 (.int .i64 ((s.falls : Int) + 1)) (.inl (.inl rfl))
          clear hM2 hff hwo2 HF
          go_wp2
          go_end0
          exact ⟨⟨_, rfl⟩, Hfin.out, HW2.out⟩
        · by_cases ht1 : (64 : Int) < to2
          · have hS : (p.2.take 64 ++ ((blk (sink s.L (s.W.take j)) p.1).drop (p.2.take 64).length)) = (p.2.take 64 ++ (blk (sink s.L (s.W.take j)) p.1).drop 64) := by rw [List.length_take, Hl64.out.1, Nat.min_eq_left (by omega)]
            have hcat : (ByteArray.mk p.2.toArray).extract 0 64 ++ (ByteArray.mk (blk (sink s.L (s.W.take j)) p.1).toArray).extract 64 (ByteArray.mk (blk (sink s.L (s.W.take j)) p.1).toArray).size = ⟨(p.2.take 64 ++ (blk (sink s.L (s.W.take j)) p.1).drop 64).toArray⟩ := Dk.cat_take p.2 (blk (sink s.L (s.W.take j)) p.1) 64 (by rw [Hl64.out.1]; omega) (by rw [Hl64.out.2]; omega)
            have hz1 : (ByteArray.mk p.2.toArray).size = 64 := by rw [← Hl64.out.1]; exact Dk.ba_size _
            have hz2 : (ByteArray.mk (blk (sink s.L (s.W.take j)) p.1).toArray).size = 64 := by rw [← Hl64.out.2]; exact Dk.ba_size _
            have HF : Hid (failL s.L s.W ke to2 = put (sink s.L (s.W.take j)) p.1 (p.2.take 64)) := by
              show _ = _
              rw [show p.2.take 64 = p.2.take (tornN to2) by rw [show tornN to2 = 64 by unfold tornN; omega]]
              exact Dk.failL_at Hp.out Hjke.out
            go_wp2
            (refine Go.Lq.wp_region_last 22 (by kernel_rfl) (by kernel_rfl) ?_; dsimp only [List.dropLast]; (repeat (quiet_step (fail))); refine wpQuiet_nil ?_; intro _ hw'; obtain ⟨nq, hw''⟩ := hw'; subst hw''; refine Go.Lq.wpOp_last rfl rfl ?_; unfold Oper.wp; go_simp)
            go_upto_region 13 with fail
            rw [hz2] at hcat
            rw [show (ByteArray.mk p.2.toArray).extract 0 64 = ⟨(p.2.take 64 ++ (blk (sink s.L (s.W.take j)) p.1).drop 64).toArray⟩ from by first | exact hcat | (apply ByteArray.ext; apply Array.ext'; simp; (try rw [List.take_of_length_le (by have := Hl64.out; omega)]); (try rw [List.drop_of_length_le (by have := Hl64.out; omega)]); (try simp); (try exact Nat.le_of_eq Hl64.out.2))]
            have hM2 := (HM1.out.drewN nq).setL (g := g) rfl (a := p.1) Hp1.out (p.2.take 64) (by rw [List.length_take, Hl64.out.1]; omega)
            rw [hS] at hM2
            have hwo2 := (Hwo1.out.drewN nq).setCell g p.1 (.string ⟨(p.2.take 64 ++ (blk (sink s.L (s.W.take j)) p.1).drop 64).toArray⟩) (.inl (.inr rfl))
            generalize (W1.drewN nq).setCell ⟨g, p.1, none⟩ (.string ⟨(p.2.take 64 ++ (blk (sink s.L (s.W.take j)) p.1).drop 64).toArray⟩) = W2 at *
            clear hcat hz1 hz2 hS HM1 Hwo1 l3 l4 k0 v0 v1 b0 b1 Hbox1
            obtain ⟨-, e1, e2, e3, -, -, -, -, -, e8⟩ := hM2.c
            have f1 := frozen_of_row _ x 1 _ _ hM2.hx
            have f2 := frozen_of_row _ x 2 _ _ hM2.hx
            have f3 := frozen_of_row _ x 3 _ _ hM2.hx
            have f8 := frozen_of_row _ x 9 _ _ hM2.hx
            have hfw : wrap64 ((s.falls : Int) + 1) = (s.falls : Int) + 1 := by have := Hfl.out; unfold wrap64; omega
            have hff := hM2.fallen ((s.falls : Int) + 1) rfl
            have Hfin : Hid (Try.Rfm ((((W2.setCell ⟨x, 1, none⟩ (.slice none 0 0)).setCell ⟨x, 3, none⟩ (.bool false)).setCell ⟨x, 2, none⟩ (.bool false)).setCell ⟨x, 9, none⟩ (.int .i64 ((s.falls : Int) + 1))) x (.slice (some ⟨g, 0, none⟩) s.n cap) (.slice none 0 0) left k t (s.fail ke to2)) := by
              show Try.Rfm _ _ _ _ _ _ _ _
              unfold DS.fail
              rw [HF.out]
              exact hff
            have HW2 : Hid (Dk.Wo (fun j => j = x ∨ (Value.slice (some ⟨g, 0, none⟩) s.n cap).ownBlock = some j) w ((((W2.setCell ⟨x, 1, none⟩ (.slice none 0 0)).setCell ⟨x, 3, none⟩ (.bool false)).setCell ⟨x, 2, none⟩ (.bool false)).setCell ⟨x, 9, none⟩ (.int .i64 ((s.falls : Int) + 1)))) := (((hwo2.setCell x 1 (.slice none 0 0) (.inl (.inl rfl))).setCell x 3 (.bool false) (.inl (.inl rfl))).setCell x 2 (.bool false) (.inl (.inl rfl))).setCell x 9 (.int .i64 ((s.falls : Int) + 1)) (.inl (.inl rfl))
            clear hM2 hff hwo2 HF
            go_wp2
            go_end0
            exact ⟨⟨_, rfl⟩, Hfin.out, HW2.out⟩
          · obtain ⟨T, rfl⟩ : ∃ T : Nat, to2 = (T : Int) := ⟨to2.toNat, by omega⟩
            have hS : (p.2.take T ++ ((blk (sink s.L (s.W.take j)) p.1).drop (p.2.take T).length)) = (p.2.take T ++ (blk (sink s.L (s.W.take j)) p.1).drop T) := by rw [List.length_take, Hl64.out.1, Nat.min_eq_left (by omega)]
            have hcat : (ByteArray.mk p.2.toArray).extract 0 T ++ (ByteArray.mk (blk (sink s.L (s.W.take j)) p.1).toArray).extract T (ByteArray.mk (blk (sink s.L (s.W.take j)) p.1).toArray).size = ⟨(p.2.take T ++ (blk (sink s.L (s.W.take j)) p.1).drop T).toArray⟩ := Dk.cat_take p.2 (blk (sink s.L (s.W.take j)) p.1) T (by rw [Hl64.out.1]; omega) (by rw [Hl64.out.2]; omega)
            have hz1 : (ByteArray.mk p.2.toArray).size = 64 := by rw [← Hl64.out.1]; exact Dk.ba_size _
            have hz2 : (ByteArray.mk (blk (sink s.L (s.W.take j)) p.1).toArray).size = 64 := by rw [← Hl64.out.2]; exact Dk.ba_size _
            have HF : Hid (failL s.L s.W ke (T : Int) = put (sink s.L (s.W.take j)) p.1 (p.2.take T)) := by
              show _ = _
              rw [show p.2.take T = p.2.take (tornN (T : Int)) by rw [show tornN (T : Int) = T by unfold tornN; omega]]
              exact Dk.failL_at Hp.out Hjke.out
            have q5 : (T : Int) ≤ 64 := by omega
            have q6 : (0 : Int) ≤ (T : Int) := by omega
            have q7 : T ≤ 64 := by omega
            go_wp2
            (refine Go.Lq.wp_region_last 22 (by kernel_rfl) (by kernel_rfl) ?_; dsimp only [List.dropLast]; (repeat (quiet_step (fail))); refine wpQuiet_nil ?_; intro _ hw'; obtain ⟨nq, hw''⟩ := hw'; subst hw''; refine Go.Lq.wpOp_last rfl rfl ?_; unfold Oper.wp; go_simp)
            go_upto_region 13 with fail
            rw [hz2] at hcat
            rw [show (ByteArray.mk p.2.toArray).extract 0 T ++ (ByteArray.mk (blk (sink s.L (s.W.take j)) p.1).toArray).extract T 64 = ⟨(p.2.take T ++ (blk (sink s.L (s.W.take j)) p.1).drop T).toArray⟩ from by first | exact hcat | (apply ByteArray.ext; apply Array.ext'; simp; (try rw [List.take_of_length_le (by have := Hl64.out; omega)]); (try rw [List.drop_of_length_le (by have := Hl64.out; omega)]); (try simp); (try exact Nat.le_of_eq Hl64.out.2))]
            have hM2 := (HM1.out.drewN nq).setL (g := g) rfl (a := p.1) Hp1.out (p.2.take T) (by rw [List.length_take, Hl64.out.1]; omega)
            rw [hS] at hM2
            have hwo2 := (Hwo1.out.drewN nq).setCell g p.1 (.string ⟨(p.2.take T ++ (blk (sink s.L (s.W.take j)) p.1).drop T).toArray⟩) (.inl (.inr rfl))
            generalize (W1.drewN nq).setCell ⟨g, p.1, none⟩ (.string ⟨(p.2.take T ++ (blk (sink s.L (s.W.take j)) p.1).drop T).toArray⟩) = W2 at *
            clear hcat hz1 hz2 hS HM1 Hwo1 l3 l4 k0 v0 v1 b0 b1 Hbox1
            obtain ⟨-, e1, e2, e3, -, -, -, -, -, e8⟩ := hM2.c
            have f1 := frozen_of_row _ x 1 _ _ hM2.hx
            have f2 := frozen_of_row _ x 2 _ _ hM2.hx
            have f3 := frozen_of_row _ x 3 _ _ hM2.hx
            have f8 := frozen_of_row _ x 9 _ _ hM2.hx
            have hfw : wrap64 ((s.falls : Int) + 1) = (s.falls : Int) + 1 := by have := Hfl.out; unfold wrap64; omega
            have hff := hM2.fallen ((s.falls : Int) + 1) rfl
            have Hfin : Hid (Try.Rfm ((((W2.setCell ⟨x, 1, none⟩ (.slice none 0 0)).setCell ⟨x, 3, none⟩ (.bool false)).setCell ⟨x, 2, none⟩ (.bool false)).setCell ⟨x, 9, none⟩ (.int .i64 ((s.falls : Int) + 1))) x (.slice (some ⟨g, 0, none⟩) s.n cap) (.slice none 0 0) left k t (s.fail ke (T : Int))) := by
              show Try.Rfm _ _ _ _ _ _ _ _
              unfold DS.fail
              rw [HF.out]
              exact hff
            have HW2 : Hid (Dk.Wo (fun j => j = x ∨ (Value.slice (some ⟨g, 0, none⟩) s.n cap).ownBlock = some j) w ((((W2.setCell ⟨x, 1, none⟩ (.slice none 0 0)).setCell ⟨x, 3, none⟩ (.bool false)).setCell ⟨x, 2, none⟩ (.bool false)).setCell ⟨x, 9, none⟩ (.int .i64 ((s.falls : Int) + 1)))) := (((hwo2.setCell x 1 (.slice none 0 0) (.inl (.inl rfl))).setCell x 3 (.bool false) (.inl (.inl rfl))).setCell x 2 (.bool false) (.inl (.inl rfl))).setCell x 9 (.int .i64 ((s.falls : Int) + 1)) (.inl (.inl rfl))
            clear hM2 hff hwo2 HF
            go_wp2
            go_end0
            exact ⟨⟨_, rfl⟩, Hfin.out, HW2.out⟩
    · have hjm' : j = m := by omega
      have hjW : s.W.length = j := by rw [← Hm.out]; omega
      have q0 : ¬ (j : Int) < (s.W.length : Int) := by omega
      have HF : Hid (failL s.L s.W ke to2 = sink s.L (s.W.take j)) := by
        show _ = _
        rw [Dk.failL_all (by omega), List.take_of_length_le (by omega)]
      obtain ⟨W2, hW2⟩ : ∃ W2 : World, W2 = wr := ⟨_, rfl⟩
      subst hW2
      have hM2 := hM
      have hwo2 := hwo
      clear hM hwo hbox hjm hjm'
      obtain ⟨-, e1, e2, e3, -, -, -, -, -, e8⟩ := hM2.c
      have f1 := frozen_of_row _ x 1 _ _ hM2.hx
      have f2 := frozen_of_row _ x 2 _ _ hM2.hx
      have f3 := frozen_of_row _ x 3 _ _ hM2.hx
      have f8 := frozen_of_row _ x 9 _ _ hM2.hx
      have hfw : wrap64 ((s.falls : Int) + 1) = (s.falls : Int) + 1 := by have := Hfl.out; unfold wrap64; omega
      have hff := hM2.fallen ((s.falls : Int) + 1) rfl
      have Hfin : Hid (Try.Rfm ((((W2.setCell ⟨x, 1, none⟩ (.slice none 0 0)).setCell ⟨x, 3, none⟩ (.bool false)).setCell ⟨x, 2, none⟩ (.bool false)).setCell ⟨x, 9, none⟩ (.int .i64 ((s.falls : Int) + 1))) x Lv (.slice none 0 0) left k t (s.fail ke to2)) := by
        show Try.Rfm _ _ _ _ _ _ _ _
        unfold DS.fail
        rw [HF.out]
        exact hff
      have HW2 : Hid (Dk.Wo (fun j => j = x ∨ Lv.ownBlock = some j) w ((((W2.setCell ⟨x, 1, none⟩ (.slice none 0 0)).setCell ⟨x, 3, none⟩ (.bool false)).setCell ⟨x, 2, none⟩ (.bool false)).setCell ⟨x, 9, none⟩ (.int .i64 ((s.falls : Int) + 1)))) := (((hwo2.setCell x 1 (.slice none 0 0) (.inl (.inl rfl))).setCell x 3 (.bool false) (.inl (.inl rfl))).setCell x 2 (.bool false) (.inl (.inl rfl))).setCell x 9 (.int .i64 ((s.falls : Int) + 1)) (.inl (.inl rfl))
      clear hM2 hff hwo2 HF
      go_wp2
      go_end0
      exact ⟨⟨_, rfl⟩, Hfin.out, HW2.out⟩
end Go.Proofs
namespace Go.Proofs
open Go.RowKit Go.Dk
theorem Try.rCrash_dead {w : World} {x : Nat} {Lv Wv : Value} {left k t : Int} {s : DS} (h : Try.Rfm w x Lv Wv left k t s) (hd : s.dead = true) (ke to2 : Int) :
    Calls Try.prog 41 #[.pointer (some ⟨x, 0, none⟩), .agg #[.int .i64 ke, .int .i64 to2]] w fun e w' => e = .returned (.int .i64 41) ∧ Below w.heap.size w w' := by
  obtain ⟨-, -, c2, -⟩ := h.c
  rw [hd] at c2
  have hxl : x < w.heap.size := Dk.block_lt h.hx
  have d2 : ∀ o, (w.alloc o).cell? ⟨x, 2, none⟩ = some (.bool false) := fun o => (((Below.refl w.heap.size w).alloc (Nat.le_refl _) o).cell (p := ⟨x, 2, none⟩) hxl).trans c2
  clear h hxl
  go_enter Try.func41, Try.ntmps41
  go_wp2
  go_ret
  exact ⟨rfl, (Below.refl _ w).alloc (Nat.le_refl _) _⟩
theorem Try.rCrash_ok {w : World} {x : Nat} {Lv Wv : Value} {left k t : Int} {s : DS} (h : Try.Rfm w x Lv Wv left k t s) (hd : s.dead = false) (hfl : s.falls < 1000000000) (ke to2 : Int) :
    Calls Try.prog 41 #[.pointer (some ⟨x, 0, none⟩), .agg #[.int .i64 ke, .int .i64 to2]] w fun e w' => e = .returned (.int .i64 0) ∧ Try.Rfm w' x Lv (.slice none 0 0) left k t (s.fail ke to2) ∧ Dk.Wo (fun j => j = x ∨ Lv.ownBlock = some j) w w' := by
  obtain ⟨W, hW⟩ : ∃ W : World, W = w.alloc (.cells #[.int .i64 ke, .int .i64 to2] 56) := ⟨_, rfl⟩
  have hb : Below w.heap.size w W := by rw [hW]; exact (Below.refl _ w).alloc (Nat.le_refl _) _
  have hbox : W.heap[w.heap.size]? = some (.cells #[.int .i64 ke, .int .i64 to2] 56 (0, 0)) := by rw [hW]; exact heap_alloc_new w _
  have hM := h.keep fun j e => hb.block j (h.foot_lt j e)
  obtain ⟨-, -, c2, -⟩ := hM.c
  rw [hd] at c2
  have b0 : W.cell? ⟨w.heap.size, 0, none⟩ = some (.int .i64 ke) := cell_of_row W _ 0 _ _ _ hbox
  have b1 : W.cell? ⟨w.heap.size, 1, none⟩ = some (.int .i64 to2) := cell_of_row W _ 1 _ _ _ hbox
  have hF := Try.rFalls1 hM hfl ke to2
  have HW : Hid (W = w.alloc (.cells #[.int .i64 ke, .int .i64 to2] 56)) := hW
  have Hb : Hid (Below w.heap.size w W) := hb
  clear h hW hbox hb hM hd
  go_enter Try.func41, Try.ntmps41
  go_upto_region 1 with fail
  rw [← HW.out]
  clear HW
  go_wp2_with (first
    | (go_at_call 22; refine hF.mono ?_; clear hF; rintro e w5 ⟨⟨v5, rfl⟩, hM5, hwo5⟩)
    | fail)
  go_ret
  exact ⟨rfl, hM5, ((Dk.Wo.refl _ w).below Hb.out (Nat.le_refl _)).trans hwo5⟩
/-- The fuse, as the document keeps it: it blows. -/
def Dk.blows (s : DS) : Prop := s.fset = true ∧ s.fl = 0
theorem Try.rSync_dead {w : World} {x : Nat} {Lv Wv : Value} {left k t : Int} {s : DS} (h : Try.Rfm w x Lv Wv left k t s) (hd : s.dead = true) :
    Calls Try.prog 64 #[.pointer (some ⟨x, 0, none⟩)] w fun e w' => e = .returned (.int .i64 41) ∧ w' = w := by
  obtain ⟨-, -, c2, -⟩ := h.c
  rw [hd] at c2
  clear h
  go_enter Try.func64, Try.ntmps64
  go_wp2
  go_ret
  exact ⟨rfl, rfl⟩
theorem Try.rSync_blow {w : World} {x : Nat} {Lv Wv : Value} {left k t : Int} {s : DS} (h : Try.Rfm w x Lv Wv left k t s) (hd : s.dead = false) (hs : s.fset = true) (h0 : s.fl = 0) (hfl : s.falls < 1000000000) :
    Calls Try.prog 64 #[.pointer (some ⟨x, 0, none⟩)] w fun e w' => e = .returned (.int .i64 41) ∧ Try.Rfm w' x Lv (.slice none 0 0) left k t (s.fail s.fk s.ft) ∧ Dk.Wo (fun j => j = x ∨ Lv.ownBlock = some j) w w' := by
  obtain ⟨f1, f2, f3⟩ := h.hf hs
  obtain ⟨-, -, c2, c3, c4, c5, c6, -⟩ := h.c
  rw [hd] at c2
  rw [hs] at c3
  rw [f1, h0] at c4
  rw [f2] at c5
  rw [f3] at c6
  have hF := Try.rFalls1 h hfl s.fk s.ft
  clear h f1 f2 f3 hs h0 hd
  go_enter Try.func64, Try.ntmps64
  go_wp2_with (first
    | (go_at_call 22; refine hF.mono ?_; clear hF; rintro e w5 ⟨⟨v5, rfl⟩, hM5, hwo5⟩)
    | fail)
  go_ret
  exact ⟨rfl, hM5, hwo5⟩
set_option maxRecDepth 4000 in
set_option maxHeartbeats 4000000 in
theorem Try.rSync_ok {w : World} {x : Nat} {Lv Wv : Value} {left k t : Int} {s : DS} (h : Try.Rfm w x Lv Wv left k t s) (hd : s.dead = false) (hs : s.fset = false ∨ s.fl ≠ 0) (hsy : s.synced < 1000000000) :
    Calls Try.prog 64 #[.pointer (some ⟨x, 0, none⟩)] w fun e w' => e = .returned (.int .i64 0) ∧ Try.Rfm w' x Lv (.slice none 0 0) left k t s.sync ∧ Dk.Wo (fun j => j = x ∨ Lv.ownBlock = some j) w w' := by
  obtain ⟨wa, wc, hWv, -⟩ := Dk.rowForm h.wr
  subst hWv
  obtain ⟨-, -, c2, c3, c4, -⟩ := h.c
  rw [hd] at c2
  obtain ⟨F, hF⟩ : ∃ F, F = s.fset := ⟨_, rfl⟩
  rw [← hF] at c3
  have q1 : F = true → left ≠ 0 := fun e => by
    rw [hF] at e
    rcases hs with e2 | e2
    · rw [e] at e2; cases e2
    · rw [(h.hf e).1]; exact e2
  have HM : Hid (Try.Rfm w x Lv (.slice wa s.W.length wc) left k t s) := h
  have hw1 : s.W.length ≤ 1000000 := h.w1
  have Hsy : Hid (s.synced < 1000000000) := hsy
  clear h hs hF hd hsy
  go_enter Try.func64, Try.ntmps64
  obtain ⟨c1, -⟩ : w.cell? ⟨x, 1, none⟩ = some (.slice wa s.W.length wc) ∧ True := ⟨HM.out.c.2.1, trivial⟩
  cases F with
  | false =>
    clear q1
    go_upto_region 7 with fail
    go_loopw [3] (fun i wr => ∃ j : Nat, j ≤ s.W.length ∧ i = .int .i64 j ∧ Try.Rfm wr x Lv (.slice wa s.W.length wc) left k t { s with L := sink s.L (s.W.take j) } ∧ Dk.Wo (fun j => j = x ∨ Lv.ownBlock = some j) w wr) (fun i _ => s.W.length - (intOf i).toNat)
    case atStart => exact ⟨0, Nat.zero_le _, rfl, HM.out, Dk.Wo.refl _ _⟩
    case round =>
      obtain ⟨j, hj, rfl, hM, hwo⟩ := hrel
      clear HM
      obtain ⟨k0, k1, -⟩ := hM.c
      by_cases hjm : j < s.W.length
      · have q0 : (j : Int) < (s.W.length : Int) := by omega
        have q00 : (0 : Int) ≤ (j : Int) := by omega
        obtain ⟨p, hp⟩ : ∃ p, s.W[j]? = some p := ⟨_, List.getElem?_eq_getElem hjm⟩
        obtain ⟨hp1, hp2⟩ := hM.good p (List.mem_of_getElem? hp)
        have hp1s : p.1 < s.n := hp1
        obtain ⟨wg, wc', e, d1, d2⟩ := Dk.pcell hM.wr hp
        cases e
        obtain ⟨g, cap, rfl, l1, l2⟩ := Dk.scell hM.lr hp1
        have q3 : (p.1 : Int) < (s.n : Int) := by omega
        have q4 : (0 : Int) ≤ (p.1 : Int) := by omega
        have hset := fun nq => (hM.drewN nq).setL (g := g) rfl (a := p.1) hp1s p.2 (by omega)
        have hbl : (blk (sink s.L (s.W.take j)) p.1).length = 64 := blk_length hM.lL hp1
        have hsx : p.2 ++ (blk (sink s.L (s.W.take j)) p.1).drop p.2.length = p.2 := by rw [List.drop_of_length_le (by omega), List.append_nil]
        simp only [hsx] at hset
        have Hset : Hid (∀ nq, Try.Rfm ((wr.drewN nq).setCell ⟨g, p.1, none⟩ (.string ⟨p.2.toArray⟩)) x (.slice (some ⟨g, 0, none⟩) s.n cap) (.slice (some ⟨wg, 0, none⟩) s.W.length wc) left k t { s with L := sink s.L (s.W.take (j + 1)) }) := fun nq => by
          have := hset nq
          rw [List.take_add_one, hp]
          show Try.Rfm _ _ _ _ _ _ _ { s with L := sink s.L (s.W.take j ++ [p]) }
          rw [sink_one]
          exact this
        have Hwo : Hid (Dk.Wo (fun j => j = x ∨ (Value.slice (some ⟨g, 0, none⟩) s.n cap).ownBlock = some j) w wr) := hwo
        clear hset hsx hbl hM hwo hp hp2 hp1 hp1s
        go_wp2
        (refine Go.Lq.wp_region_last 21 (by kernel_rfl) (by kernel_rfl) ?_; dsimp only [List.dropLast]; (repeat (quiet_step (fail))); refine wpQuiet_nil ?_; intro _ hw'; obtain ⟨nq, hw''⟩ := hw'; subst hw''; refine Go.Lq.wpOp_last rfl rfl ?_; unfold Oper.wp; go_simp)
        go_wp2
        go_roundw
        case rel => exact ⟨j + 1, by omega, by go_num, Hset.out _, (Hwo.out.drewN _).setCell g p.1 _ (.inl (.inr rfl))⟩
        case measure => simp [intOf]; omega
      · have q0 : ¬ (j : Int) < (s.W.length : Int) := by omega
        have hjj : s.W.take j = s.W := List.take_of_length_le (by omega)
        rw [hjj] at hM
        have f1 := frozen_of_row _ x 1 _ _ hM.hx
        have f8 := frozen_of_row _ x 8 _ _ hM.hx
        obtain ⟨-, -, -, -, -, -, -, -, k8, -⟩ := hM.c
        have hfw : wrap64 ((s.synced : Int) + 1) = (s.synced : Int) + 1 := by have := Hsy.out; unfold wrap64; omega
        have h1 := hM.setW.set 8 (.int .i64 ((s.synced : Int) + 1)) (left' := left) (k' := k) (t' := t) (s' := s.sync) rfl hM.hf rfl rfl rfl
        have H1 : Hid (Try.Rfm ((wr.setCell ⟨x, 1, none⟩ (.slice none 0 0)).setCell ⟨x, 8, none⟩ (.int .i64 ((s.synced : Int) + 1))) x Lv (.slice none 0 0) left k t s.sync) := h1
        have Hw2 : Hid (Dk.Wo (fun j => j = x ∨ Lv.ownBlock = some j) w ((wr.setCell ⟨x, 1, none⟩ (.slice none 0 0)).setCell ⟨x, 8, none⟩ (.int .i64 ((s.synced : Int) + 1)))) := (hwo.setCell x 1 (.slice none 0 0) (.inl (.inl rfl))).setCell x 8 (.int .i64 ((s.synced : Int) + 1)) (.inl (.inl rfl))
        clear hM h1 hwo hjj hjm
        go_wp2
        go_ret
        exact ⟨rfl, H1.out, Hw2.out⟩
  | true =>
    have q2 := q1 rfl
    have q3 : (left == 0) = false := by simpa using q2
    clear q1
    go_upto_region 7 with fail
    clear q2 q3
    go_loopw [3] (fun i wr => ∃ j : Nat, j ≤ s.W.length ∧ i = .int .i64 j ∧ Try.Rfm wr x Lv (.slice wa s.W.length wc) left k t { s with L := sink s.L (s.W.take j) } ∧ Dk.Wo (fun j => j = x ∨ Lv.ownBlock = some j) w wr) (fun i _ => s.W.length - (intOf i).toNat)
    case atStart => exact ⟨0, Nat.zero_le _, rfl, HM.out, Dk.Wo.refl _ _⟩
    case round =>
      obtain ⟨j, hj, rfl, hM, hwo⟩ := hrel
      clear HM
      obtain ⟨k0, k1, -⟩ := hM.c
      by_cases hjm : j < s.W.length
      · have q0 : (j : Int) < (s.W.length : Int) := by omega
        have q00 : (0 : Int) ≤ (j : Int) := by omega
        obtain ⟨p, hp⟩ : ∃ p, s.W[j]? = some p := ⟨_, List.getElem?_eq_getElem hjm⟩
        obtain ⟨hp1, hp2⟩ := hM.good p (List.mem_of_getElem? hp)
        have hp1s : p.1 < s.n := hp1
        obtain ⟨wg, wc', e, d1, d2⟩ := Dk.pcell hM.wr hp
        cases e
        obtain ⟨g, cap, rfl, l1, l2⟩ := Dk.scell hM.lr hp1
        have q3 : (p.1 : Int) < (s.n : Int) := by omega
        have q4 : (0 : Int) ≤ (p.1 : Int) := by omega
        have hset := fun nq => (hM.drewN nq).setL (g := g) rfl (a := p.1) hp1s p.2 (by omega)
        have hbl : (blk (sink s.L (s.W.take j)) p.1).length = 64 := blk_length hM.lL hp1
        have hsx : p.2 ++ (blk (sink s.L (s.W.take j)) p.1).drop p.2.length = p.2 := by rw [List.drop_of_length_le (by omega), List.append_nil]
        simp only [hsx] at hset
        have Hset : Hid (∀ nq, Try.Rfm ((wr.drewN nq).setCell ⟨g, p.1, none⟩ (.string ⟨p.2.toArray⟩)) x (.slice (some ⟨g, 0, none⟩) s.n cap) (.slice (some ⟨wg, 0, none⟩) s.W.length wc) left k t { s with L := sink s.L (s.W.take (j + 1)) }) := fun nq => by
          have := hset nq
          rw [List.take_add_one, hp]
          show Try.Rfm _ _ _ _ _ _ _ { s with L := sink s.L (s.W.take j ++ [p]) }
          rw [sink_one]
          exact this
        have Hwo : Hid (Dk.Wo (fun j => j = x ∨ (Value.slice (some ⟨g, 0, none⟩) s.n cap).ownBlock = some j) w wr) := hwo
        clear hset hsx hbl hM hwo hp hp2 hp1 hp1s
        go_wp2
        (refine Go.Lq.wp_region_last 21 (by kernel_rfl) (by kernel_rfl) ?_; dsimp only [List.dropLast]; (repeat (quiet_step (fail))); refine wpQuiet_nil ?_; intro _ hw'; obtain ⟨nq, hw''⟩ := hw'; subst hw''; refine Go.Lq.wpOp_last rfl rfl ?_; unfold Oper.wp; go_simp)
        go_wp2
        go_roundw
        case rel => exact ⟨j + 1, by omega, by go_num, Hset.out _, (Hwo.out.drewN _).setCell g p.1 _ (.inl (.inr rfl))⟩
        case measure => simp [intOf]; omega
      · have q0 : ¬ (j : Int) < (s.W.length : Int) := by omega
        have hjj : s.W.take j = s.W := List.take_of_length_le (by omega)
        rw [hjj] at hM
        have f1 := frozen_of_row _ x 1 _ _ hM.hx
        have f8 := frozen_of_row _ x 8 _ _ hM.hx
        obtain ⟨-, -, -, -, -, -, -, -, k8, -⟩ := hM.c
        have hfw : wrap64 ((s.synced : Int) + 1) = (s.synced : Int) + 1 := by have := Hsy.out; unfold wrap64; omega
        have h1 := hM.setW.set 8 (.int .i64 ((s.synced : Int) + 1)) (left' := left) (k' := k) (t' := t) (s' := s.sync) rfl hM.hf rfl rfl rfl
        have H1 : Hid (Try.Rfm ((wr.setCell ⟨x, 1, none⟩ (.slice none 0 0)).setCell ⟨x, 8, none⟩ (.int .i64 ((s.synced : Int) + 1))) x Lv (.slice none 0 0) left k t s.sync) := h1
        have Hw2 : Hid (Dk.Wo (fun j => j = x ∨ Lv.ownBlock = some j) w ((wr.setCell ⟨x, 1, none⟩ (.slice none 0 0)).setCell ⟨x, 8, none⟩ (.int .i64 ((s.synced : Int) + 1)))) := (hwo.setCell x 1 (.slice none 0 0) (.inl (.inl rfl))).setCell x 8 (.int .i64 ((s.synced : Int) + 1)) (.inl (.inl rfl))
        clear hM h1 hwo hjj hjm
        go_wp2
        go_ret
        exact ⟨rfl, H1.out, Hw2.out⟩
end Go.Proofs
namespace Go.Proofs
open Go.RowKit Go.Dk
theorem Try.info_wr : (Try.prog.info? 72).map (fun i => (i.zero.map (·.cells.size), i.size, i.bytes)) = some (some 2, 2, 24) := by kernel_rfl
/-- 'append' of a write, at a step of a region that draws its order. -/
theorem Try.stepW {ops : Array Oper} {o : Oper} {a : Act} {K : Act → World → Prop} {Q : Exit → Act → World → Prop} {E : Prop} (hgd : o.guard = none) (s y : Operand)
    (ho : o.op = .call { callee := .builtin .append, args := #[s, y], argTypes := #[54, 54] })
    {w : World} {H : Nat} {V : Value} {n : Nat} {W0 : List Wr} {p : Wr} (hrow : w.ownsRow 0 72 2 V n (Dk.prs W0)) (hs : a.eval s = V) (hnb : w.heap[H]? = some (.cells #[.int .i64 (p.1 : Nat), .string ⟨p.2.toArray⟩] 72 (0, 0))) (hy : a.eval y = .slice (some ⟨H, 0, none⟩) 1 1) (hlen : n ≤ 1000000)
    (hK : ∀ g cap w', w'.ownsRow 0 72 2 (.slice (some ⟨g, 0, none⟩) (n + 1) cap) (n + 1) (Dk.prs (W0 ++ [p])) → w.grownBy w' V.ownBlock → (V.ownBlock = some g ∨ g = w.heap.size) → K (a.put o.dst (.slice (some ⟨g, 0, none⟩) (n + 1) cap)) w') : if Region.wanted o (yielded ops a.tmps) = true then Oper.wp Try.prog o a w K Q else E := by
  obtain ⟨i0, hi0, hi1⟩ := Option.map_eq_some_iff.1 Try.info_wr
  simp only [Prod.mk.injEq] at hi1
  obtain ⟨hz0, hz1, hz2⟩ := hi1
  obtain ⟨zz, hzz, hzs⟩ := Option.map_eq_some_iff.1 hz0
  refine step_append_lies w hgd s y 54 ho 0 72 i0 zz 2 24 Try.underlying54 hi0 hzz hz1 hz2 hzs (by omega) V n _ hs hrow ⟨H, 0, none⟩ 1 1 [.int .i64 (p.1 : Nat), .string ⟨p.2.toArray⟩] hy rfl (World.news_of_block hnb) (by simp [Value.oneCell']) (by omega) (by unfold maxLen; omega) (by omega) (Nat.zero_le _) _ rfl ?_
  intro g cap w' h1 h2 h3 h4
  have e : Dk.prs W0 ++ [.int .i64 (p.1 : Nat), .string ⟨p.2.toArray⟩] = Dk.prs (W0 ++ [p]) := by rw [Dk.prs_app]; rfl
  rw [e] at h1
  exact hK g cap w' h1 h2 h3
theorem Try.rWrite_dead {w : World} {x : Nat} {Lv Wv : Value} {left k t : Int} {s : DS} (h : Try.Rfm w x Lv Wv left k t s) (hd : s.dead = true) (i : Int) (b : ByteArray) :
    Calls Try.prog 10 #[.pointer (some ⟨x, 0, none⟩), .int .i64 i, .string b] w fun e w' => e = .returned (.int .i64 41) ∧ w' = w := by
  obtain ⟨-, -, c2, -⟩ := h.c
  rw [hd] at c2
  clear h
  go_enter Try.func10, Try.ntmps10
  go_wp2
  go_ret
  exact ⟨rfl, rfl⟩
set_option maxRecDepth 4000 in
theorem Try.rWrite_no {w : World} {x : Nat} {Lv Wv : Value} {left k t : Int} {s : DS} (h : Try.Rfm w x Lv Wv left k t s) (hd : s.dead = false) (i : Int) (b : ByteArray) (hi : ¬ (0 ≤ i ∧ i < s.n) ∨ 64 < b.size) :
    Calls Try.prog 10 #[.pointer (some ⟨x, 0, none⟩), .int .i64 i, .string b] w fun e w' => e = .returned (.int .i64 40) ∧ w' = w := by
  obtain ⟨c0, -, c2, -⟩ := h.c
  obtain ⟨ad, cap, rfl, -⟩ := Dk.rowForm h.lr
  rw [hd] at c2
  clear h
  have Hi : Hid (¬ (0 ≤ i ∧ i < s.n) ∨ 64 < b.size) := hi
  clear hi
  by_cases h0 : i < 0
  · go_enter Try.func10, Try.ntmps10
    go_wp2
    go_ret
    exact ⟨rfl, rfl⟩
  · by_cases h1 : (s.n : Int) ≤ i
    · go_enter Try.func10, Try.ntmps10
      go_wp2
      go_ret
      exact ⟨rfl, rfl⟩
    · have h2 : (64 : Int) < (b.size : Int) := by have := Hi.out; omega
      go_enter Try.func10, Try.ntmps10
      go_wp2
      go_ret
      exact ⟨rfl, rfl⟩
theorem Try.run_makeZ (n : Nat) (hn : n < 1000000) (w : World) : (Instr.makeSlice 22 (.int .i64 n) (.int .i64 n)).run Try.prog w = .ok (.slice (some ⟨w.heap.size, 0, none⟩) n n) (w.alloc (.cells (Lib.byteCells (List.replicate n 0)).toArray 5)) := by
  obtain ⟨i0, hi0, hz0, hz1, hz2⟩ := info_parts Try.info_u8
  have := run_make (P := Try.prog) w 22 5 i0 _ Try.underlying22 hi0 hz0 .i64 .i64 n n (by omega) (by omega) (by rw [hz2]; omega) (by omega)
  rw [this, hz1]
  have e := Dk.made (Z := (Value.int .u8 0).cells) n (.int .u8 0) (by decide) (fun j hj => by
    have : j = 0 := by simp [Value.cells] at hj; omega
    subst this; rfl)
  rw [Dk.zeros] at e
  rw [← e, show ((n : Int)).toNat = n from rfl, Nat.mul_one]
/-- Bytes as a text. -/
theorem Try.convY {W : World} {g n c : Nat} {m : List UInt8} {fr : Nat × Nat} (h : W.heap[g]? = some (.cells (Lib.byteCells m).toArray 5 fr)) (hm : m.length = n) :
    (convert 22 9 (.slice (some ⟨g, 0, none⟩) n c)).run Try.prog W = .ok (.string ⟨m.toArray⟩) W := by
  subst hm
  refine run_convert_bytes_back (P := Try.prog) W 22 9 5 ⟨g, 0, none⟩ c m Try.underlying22 Try.underlying5 Try.underlying9 (fun j hj => ?_)
  rw [Addr.add_mid, Nat.zero_add, cell_of_row _ _ _ _ _ _ h]
  simp [Lib.byteCells, hj]
theorem Dk.pad_cat (b : ByteArray) (P : Nat) (hP : P = 64 - b.size) : b ++ ⟨Array.replicate P (0 : UInt8)⟩ = ⟨(pad b.data.toList).toArray⟩ := by
  apply ByteArray.ext
  apply Array.ext'
  rw [ByteArray.data_append, Array.toList_append, Array.toList_replicate, hP]
  rfl
/-- What a Write leaves. -/
structure Try.RWr (w w' : World) (x : Nat) (Lv Wv : Value) (k t : Int) (s' : DS) : Prop where
  ex : ∃ Wv' left', Try.Rfm w' x Lv Wv' left' k t s' ∧ Dk.Wo (Dk.rfoot x Lv Wv) w w' ∧ ∀ j, Wv'.ownBlock = some j → Wv.ownBlock = some j ∨ w.heap.size ≤ j
theorem Try.Rfm.laid {w A w' : World} {x : Nat} {Lv Wv : Value} {left k t : Int} {s : DS} (h : Try.Rfm w x Lv Wv left k t s) (hA : Below w.heap.size w A) {i : Nat} {b : List UInt8} (hi : i < s.n) (hb : b.length ≤ 64) (hw1 : s.W.length < 1000000) {g c2 : Nat} (r1 : w'.ownsRow 0 72 2 (.slice (some ⟨g, 0, none⟩) (s.W.length + 1) c2) (s.W.length + 1) (Dk.prs (s.W ++ [(i, pad b)]))) (r2 : A.grownBy w' Wv.ownBlock) (r3 : Wv.ownBlock = some g ∨ g = A.heap.size) :
    w'.cell? ⟨x, 1, none⟩ = some Wv ∧ w'.frozen? ⟨x, 1, none⟩ = false ∧ Try.Rfm (w'.setCell ⟨x, 1, none⟩ (.slice (some ⟨g, 0, none⟩) (s.W.length + 1) c2)) x Lv (.slice (some ⟨g, 0, none⟩) (s.W.length + 1) c2) left k t (s.lay i b) ∧ Dk.Wo (Dk.rfoot x Lv Wv) w (w'.setCell ⟨x, 1, none⟩ (.slice (some ⟨g, 0, none⟩) (s.W.length + 1) c2)) ∧ (Wv.ownBlock = some g ∨ w.heap.size ≤ g) := by
  have hsA := hA.size
  have hfl := h.foot_lt
  have hxl := hfl x (.inl rfl)
  have hx : w'.heap[x]? = some (.cells (Dk.rfc Lv Wv left k t s) 58 (0, 0)) := ((r2.block x (by omega) (fun e => (h.wx x e.symm).1 rfl)).trans (hA.block x hxl)).trans h.hx
  have hL : ∀ j, Lv.ownBlock = some j → w'.heap[j]? = w.heap[j]? := fun j e => (r2.block j (by have := hfl j (.inr (.inl e)); omega) (fun e2 => (h.wx j e2.symm).2 e)).trans (hA.block j (hfl j (.inr (.inl e))))
  have hgx : g ≠ x := fun e => by
    rcases r3 with e2 | e2
    · exact (h.wx g e2).1 e
    · omega
  have hgL : Lv.ownBlock ≠ some g := fun e => by
    rcases r3 with e2 | e2
    · exact (h.wx g e2).2 e
    · have := hfl g (.inr (.inl e)); omega
  have hot : ∀ j, j ≠ x → (w'.setCell ⟨x, 1, none⟩ (.slice (some ⟨g, 0, none⟩) (s.W.length + 1) c2)).heap[j]? = w'.heap[j]? := fun j hj => Below.heap_setCell w' ⟨x, 1, none⟩ _ j hj
  have hx2 := heap_setCell_same w' x 1 _ 58 (.slice (some ⟨g, 0, none⟩) (s.W.length + 1) c2) hx
  have hl : (s.W ++ [(i, pad b)]).length = s.W.length + 1 := by simp
  refine ⟨cell_of_row w' x 1 _ _ _ hx, frozen_of_row w' x 1 _ _ hx, ⟨hx2, h.hf, Dk.row_heap h.lr fun j e => (hot j (h.lx j e)).trans (hL j e), ?_, h.lx, fun j e => ?_, h.lL, h.good.append (GoodW.one hi (pad_length hb)), h.n0, h.n1, ?_⟩, ?_, ?_⟩
  · show (w'.setCell _ _).ownsRow 0 _ 2 _ (s.W ++ [(i, pad b)]).length (Dk.prs (s.W ++ [(i, pad b)]))
    rw [hl]
    exact Dk.row_heap r1 fun j e => hot j (by cases e; exact hgx)
  · cases e; exact ⟨hgx, hgL⟩
  · show (s.W ++ [(i, pad b)]).length ≤ _
    rw [hl]; omega
  · refine Dk.Wo.setCell ?_ x 1 _ (.inl (.inl rfl))
    have h1 : Dk.Wo (Dk.rfoot x Lv Wv) w A := (Dk.Wo.refl _ w).below hA (Nat.le_refl _)
    exact ⟨r2.os.trans h1.os, r2.tape.trans h1.tape, r2.output.trans h1.output, Nat.le_trans h1.size r2.size, fun j hj hb2 => (r2.block j (by omega) (fun e => hb2 (.inr (.inr e.symm)))).trans (h1.block j hj hb2)⟩
  · rcases r3 with e | e
    · exact .inl e
    · exact .inr (by omega)
set_option maxRecDepth 4000 in
set_option maxHeartbeats 4000000 in
theorem Try.rWrite_ok1 {w : World} {x : Nat} {Lv Wv : Value} {left k t : Int} {s : DS} (h : Try.Rfm w x Lv Wv left k t s) (hd : s.dead = false) (i : Nat) (hi : i < s.n) (b : ByteArray) (hb : b.size ≤ 64) (hw1 : s.W.length < 1000000) (hs : s.fset = false) (hwr : s.wrote < 1000000000) :
    Calls Try.prog 10 #[.pointer (some ⟨x, 0, none⟩), .int .i64 i, .string b] w fun e w' => e = .returned (.int .i64 0) ∧ Try.RWr w w' x Lv Wv k t (s.put i b.data.toList) := by
  obtain ⟨c0, c1, c2, -⟩ := h.c
  obtain ⟨ad, cap, rfl, -⟩ := Dk.rowForm h.lr
  rw [hd] at c2
  have q0 : (0 : Int) ≤ (i : Int) := by omega
  have q1 : ¬ (i : Int) < 0 := by omega
  have q2 : ¬ (s.n : Int) ≤ (i : Int) := by omega
  have q3 : ¬ (64 : Int) < (b.size : Int) := by omega
  obtain ⟨P, hP⟩ : ∃ P, P = 64 - b.size := ⟨_, rfl⟩
  have hP2 : IntKind.i64.wrap (64 - (b.size : Int)) = (P : Int) := by rw [IntKind.wrap_i64]; omega
  have hmk := Try.run_makeZ P (by omega)
  have hcv : (convert 22 9 (.slice (some ⟨w.heap.size, 0, none⟩) P P)).run Try.prog (w.alloc (.cells (Lib.byteCells (List.replicate P 0)).toArray 5)).drew = .ok (.string ⟨(List.replicate P 0).toArray⟩) (w.alloc (.cells (Lib.byteCells (List.replicate P 0)).toArray 5)).drew := Try.convY (heap_alloc_new w _) (by simp)
  have hpc := Dk.pad_cat b P hP
  have hbp : ¬ 9223372036854775807 < b.size + P := by omega
  have hxl : x < w.heap.size := Dk.block_lt h.hx
  have d1 : ∀ o, (w.alloc o).cell? ⟨x, 1, none⟩ = some Wv := fun o => (((Below.refl w.heap.size w).alloc (Nat.le_refl _) o).cell (p := ⟨x, 1, none⟩) hxl).trans c1
  have d2 : ∀ o o2, ((w.alloc o).alloc o2).cell? ⟨x, 1, none⟩ = some Wv := fun o o2 => ((((Below.refl w.heap.size w).alloc (Nat.le_refl _) o).alloc (by simp) o2).cell (p := ⟨x, 1, none⟩) hxl).trans c1
  have HM : Hid (Try.Rfm w x (.slice ad s.n cap) Wv left k t s) := h
  obtain ⟨A, hA⟩ : ∃ A : World, A = (w.alloc (.cells (Lib.byteCells (List.replicate P 0)).toArray 5)).alloc (.cells #[.int .i64 (i : Nat), .string ⟨(pad b.data.toList).toArray⟩] 72) := ⟨_, rfl⟩
  have hAb : Below w.heap.size w A.drew := by rw [hA]; exact (((Below.refl _ w).alloc (Nat.le_refl _) _).alloc (by simp) _).drew
  have hAn : A.drew.heap[w.heap.size + 1]? = some (.cells #[.int .i64 (i : Nat), .string ⟨(pad b.data.toList).toArray⟩] 72 (0, 0)) := by
    have e : (w.alloc (.cells (Lib.byteCells (List.replicate P 0)).toArray 5)).heap.size = w.heap.size + 1 := by simp
    rw [hA, ← e]
    exact heap_alloc_new _ _
  have hrow : A.drew.ownsRow 0 72 2 Wv s.W.length (Dk.prs s.W) := Dk.row_heap HM.out.wr fun j e => hAb.block j (HM.out.wr.lt j e).2
  have hend := fun (g c2 : Nat) (w' : World) r1 r2 r3 => Try.Rfm.laid (w' := w') h hAb (b := b.data.toList) hi (by show b.size ≤ 64; exact hb) hw1 (g := g) (c2 := c2) r1 r2 r3
  have Hs : Hid (s.fset = false) := hs
  have Hwr : Hid (s.wrote < 1000000000) := hwr
  clear hs hwr
  clear h hxl hP hAb hd
  go_enter Try.func10, Try.ntmps10
  go_wp2
  go_region_law (first
    | (rw [← hA]; refine Try.stepW (by rfl) (.tmp 32) (.tmp 42) (by rfl) (w := A.drew) (V := Wv) (n := s.W.length) (H := w.heap.size + 1) (p := (i, pad b.data.toList)) hrow (by rfl) hAn (by rfl) (by omega) ?_; intro g c2 w' r1 r2 r3; obtain ⟨s1, s2, s3⟩ := hend g c2 w' r1 r2 r3; have S3 : Hid (Try.Rfm (w'.setCell ⟨x, 1, none⟩ (.slice (some ⟨g, 0, none⟩) (s.W.length + 1) c2)) x (.slice ad s.n cap) (.slice (some ⟨g, 0, none⟩) (s.W.length + 1) c2) left k t (s.lay i b.data.toList) ∧ Dk.Wo (Dk.rfoot x (.slice ad s.n cap) Wv) w (w'.setCell ⟨x, 1, none⟩ (.slice (some ⟨g, 0, none⟩) (s.W.length + 1) c2)) ∧ (Wv.ownBlock = some g ∨ w.heap.size ≤ g)) := s3; clear s3 r1 r2 r3)
    | fail)
  all_goals
    obtain ⟨hM, hwo, hgw⟩ := S3.out
    generalize w'.setCell ⟨x, 1, none⟩ (.slice (some ⟨g, 0, none⟩) (s.W.length + 1) c2) = W5 at *
    clear S3 hend hrow hAn hA hpc hmk hcv d1 d2 HM s1 s2
    obtain ⟨-, -, -, k3, k4, k5, k6, k7, -⟩ := hM.c
    have f4 := frozen_of_row _ x 4 _ _ hM.hx
    have f7 := frozen_of_row _ x 7 _ _ hM.hx
    replace k3 : W5.cell? ⟨x, 3, none⟩ = some (.bool false) := k3.trans (by rw [show (s.lay i b.data.toList).fset = false from Hs.out])
    replace k7 : W5.cell? ⟨x, 7, none⟩ = some (.int .i64 (s.wrote : Int)) := k7
    have hfw : wrap64 ((s.wrote : Int) + 1) = (s.wrote : Int) + 1 := by have := Hwr.out; unfold wrap64; omega
    have h1 := hM.set 7 (.int .i64 ((s.wrote : Int) + 1)) (left' := left) (k' := k) (t' := t) (s' := { (s.lay i b.data.toList) with wrote := s.wrote + 1 }) rfl hM.hf rfl rfl rfl
    have e9 : ({ (s.lay i b.data.toList) with wrote := s.wrote + 1 } : DS) = s.put i b.data.toList := by unfold DS.lay DS.put; rw [if_neg (by rw [Hs.out]; decide)]
    rw [e9] at h1
    have H1 : Hid (Try.RWr w (W5.setCell ⟨x, 7, none⟩ (.int .i64 ((s.wrote : Int) + 1))) x (.slice ad s.n cap) Wv k t (s.put i b.data.toList)) := ⟨_, _, h1, hwo.setCell x 7 _ (.inl (.inl rfl)), fun j e => by cases e; exact hgw⟩
    clear h1 hM hwo e9
    go_wp2
    go_ret
    exact ⟨rfl, H1.out⟩
set_option maxRecDepth 4000 in
set_option maxHeartbeats 4000000 in
theorem Try.rWrite_ok2 {w : World} {x : Nat} {Lv Wv : Value} {left k t : Int} {s : DS} (h : Try.Rfm w x Lv Wv left k t s) (hd : s.dead = false) (i : Nat) (hi : i < s.n) (b : ByteArray) (hb : b.size ≤ 64) (hw1 : s.W.length < 1000000) (hs : s.fset = true) (hf0 : 0 < s.fl) (hf1 : s.fl ≤ 9223372036854775807) (hwr : s.wrote < 1000000000) :
    Calls Try.prog 10 #[.pointer (some ⟨x, 0, none⟩), .int .i64 i, .string b] w fun e w' => e = .returned (.int .i64 0) ∧ Try.RWr w w' x Lv Wv k t (s.put i b.data.toList) := by
  obtain ⟨c0, c1, c2, -⟩ := h.c
  obtain ⟨ad, cap, rfl, -⟩ := Dk.rowForm h.lr
  rw [hd] at c2
  have q0 : (0 : Int) ≤ (i : Int) := by omega
  have q1 : ¬ (i : Int) < 0 := by omega
  have q2 : ¬ (s.n : Int) ≤ (i : Int) := by omega
  have q3 : ¬ (64 : Int) < (b.size : Int) := by omega
  obtain ⟨P, hP⟩ : ∃ P, P = 64 - b.size := ⟨_, rfl⟩
  have hP2 : IntKind.i64.wrap (64 - (b.size : Int)) = (P : Int) := by rw [IntKind.wrap_i64]; omega
  have hmk := Try.run_makeZ P (by omega)
  have hcv : (convert 22 9 (.slice (some ⟨w.heap.size, 0, none⟩) P P)).run Try.prog (w.alloc (.cells (Lib.byteCells (List.replicate P 0)).toArray 5)).drew = .ok (.string ⟨(List.replicate P 0).toArray⟩) (w.alloc (.cells (Lib.byteCells (List.replicate P 0)).toArray 5)).drew := Try.convY (heap_alloc_new w _) (by simp)
  have hpc := Dk.pad_cat b P hP
  have hbp : ¬ 9223372036854775807 < b.size + P := by omega
  have hxl : x < w.heap.size := Dk.block_lt h.hx
  have d1 : ∀ o, (w.alloc o).cell? ⟨x, 1, none⟩ = some Wv := fun o => (((Below.refl w.heap.size w).alloc (Nat.le_refl _) o).cell (p := ⟨x, 1, none⟩) hxl).trans c1
  have d2 : ∀ o o2, ((w.alloc o).alloc o2).cell? ⟨x, 1, none⟩ = some Wv := fun o o2 => ((((Below.refl w.heap.size w).alloc (Nat.le_refl _) o).alloc (by simp) o2).cell (p := ⟨x, 1, none⟩) hxl).trans c1
  have HM : Hid (Try.Rfm w x (.slice ad s.n cap) Wv left k t s) := h
  obtain ⟨A, hA⟩ : ∃ A : World, A = (w.alloc (.cells (Lib.byteCells (List.replicate P 0)).toArray 5)).alloc (.cells #[.int .i64 (i : Nat), .string ⟨(pad b.data.toList).toArray⟩] 72) := ⟨_, rfl⟩
  have hAb : Below w.heap.size w A.drew := by rw [hA]; exact (((Below.refl _ w).alloc (Nat.le_refl _) _).alloc (by simp) _).drew
  have hAn : A.drew.heap[w.heap.size + 1]? = some (.cells #[.int .i64 (i : Nat), .string ⟨(pad b.data.toList).toArray⟩] 72 (0, 0)) := by
    have e : (w.alloc (.cells (Lib.byteCells (List.replicate P 0)).toArray 5)).heap.size = w.heap.size + 1 := by simp
    rw [hA, ← e]
    exact heap_alloc_new _ _
  have hrow : A.drew.ownsRow 0 72 2 Wv s.W.length (Dk.prs s.W) := Dk.row_heap HM.out.wr fun j e => hAb.block j (HM.out.wr.lt j e).2
  have hend := fun (g c2 : Nat) (w' : World) r1 r2 r3 => Try.Rfm.laid (w' := w') h hAb (b := b.data.toList) hi (by show b.size ≤ 64; exact hb) hw1 (g := g) (c2 := c2) r1 r2 r3
  have Hs : Hid (s.fset = true) := hs
  have Hlf : Hid (left = s.fl ∧ k = s.fk ∧ t = s.ft) := h.hf hs
  have Hwr : Hid (s.wrote < 1000000000) := hwr
  have q5 : (left == 0) = false := by rw [Hlf.out.1]; simp; omega
  have q6 : ¬ left = 0 := by rw [Hlf.out.1]; omega
  have q7 : left - 1 ≤ 9223372036854775807 := by rw [Hlf.out.1]; omega
  have q8 : -9223372036854775808 ≤ left - 1 := by rw [Hlf.out.1]; omega
  clear hs hwr hf0 hf1
  clear h hxl hP hAb hd
  go_enter Try.func10, Try.ntmps10
  go_wp2
  go_region_law (first
    | (rw [← hA]; refine Try.stepW (by rfl) (.tmp 32) (.tmp 42) (by rfl) (w := A.drew) (V := Wv) (n := s.W.length) (H := w.heap.size + 1) (p := (i, pad b.data.toList)) hrow (by rfl) hAn (by rfl) (by omega) ?_; intro g c2 w' r1 r2 r3; obtain ⟨s1, s2, s3⟩ := hend g c2 w' r1 r2 r3; have S3 : Hid (Try.Rfm (w'.setCell ⟨x, 1, none⟩ (.slice (some ⟨g, 0, none⟩) (s.W.length + 1) c2)) x (.slice ad s.n cap) (.slice (some ⟨g, 0, none⟩) (s.W.length + 1) c2) left k t (s.lay i b.data.toList) ∧ Dk.Wo (Dk.rfoot x (.slice ad s.n cap) Wv) w (w'.setCell ⟨x, 1, none⟩ (.slice (some ⟨g, 0, none⟩) (s.W.length + 1) c2)) ∧ (Wv.ownBlock = some g ∨ w.heap.size ≤ g)) := s3; clear s3 r1 r2 r3)
    | fail)
  all_goals
    obtain ⟨hM, hwo, hgw⟩ := S3.out
    generalize w'.setCell ⟨x, 1, none⟩ (.slice (some ⟨g, 0, none⟩) (s.W.length + 1) c2) = W5 at *
    clear S3 hend hrow hAn hA hpc hmk hcv d1 d2 HM s1 s2
    obtain ⟨-, -, -, k3, k4, k5, k6, k7, -⟩ := hM.c
    have f4 := frozen_of_row _ x 4 _ _ hM.hx
    have f7 := frozen_of_row _ x 7 _ _ hM.hx
    replace k3 : W5.cell? ⟨x, 3, none⟩ = some (.bool true) := k3.trans (by rw [show (s.lay i b.data.toList).fset = true from Hs.out])
    replace k7 : W5.cell? ⟨x, 7, none⟩ = some (.int .i64 (s.wrote : Int)) := k7
    have hfw : wrap64 ((s.wrote : Int) + 1) = (s.wrote : Int) + 1 := by have := Hwr.out; unfold wrap64; omega
    have hfl : wrap64 (left - 1) = left - 1 := by unfold wrap64; omega
    have h0 := hM.set 4 (.int .i64 (left - 1)) (left' := left - 1) (k' := k) (t' := t) (s' := { (s.lay i b.data.toList) with fl := s.fl - 1 }) rfl (fun _ => ⟨by rw [Hlf.out.1], Hlf.out.2.1, Hlf.out.2.2⟩) rfl rfl rfl
    have h1 := h0.set 7 (.int .i64 ((s.wrote : Int) + 1)) (left' := left - 1) (k' := k) (t' := t) (s' := { (s.lay i b.data.toList) with fl := s.fl - 1, wrote := s.wrote + 1 }) rfl h0.hf rfl rfl rfl
    have e9 : ({ (s.lay i b.data.toList) with fl := s.fl - 1, wrote := s.wrote + 1 } : DS) = s.put i b.data.toList := by unfold DS.lay DS.put; rw [if_pos Hs.out]
    rw [e9] at h1
    have H1 : Hid (Try.RWr w ((W5.setCell ⟨x, 4, none⟩ (.int .i64 (left - 1))).setCell ⟨x, 7, none⟩ (.int .i64 ((s.wrote : Int) + 1))) x (.slice ad s.n cap) Wv k t (s.put i b.data.toList)) := ⟨_, _, h1, (hwo.setCell x 4 _ (.inl (.inl rfl))).setCell x 7 _ (.inl (.inl rfl)), fun j e => by cases e; exact hgw⟩
    clear h1 h0 hM hwo e9
    go_wp2
    go_ret
    exact ⟨rfl, H1.out⟩
set_option maxRecDepth 4000 in
set_option maxHeartbeats 4000000 in
theorem Try.rWrite_blow {w : World} {x : Nat} {Lv Wv : Value} {left k t : Int} {s : DS} (h : Try.Rfm w x Lv Wv left k t s) (hd : s.dead = false) (i : Nat) (hi : i < s.n) (b : ByteArray) (hb : b.size ≤ 64) (hw1 : s.W.length < 1000000) (hs : s.fset = true) (hf0 : s.fl = 0) (hfa : s.falls < 1000000000) :
    Calls Try.prog 10 #[.pointer (some ⟨x, 0, none⟩), .int .i64 i, .string b] w fun e w' => e = .returned (.int .i64 41) ∧ Try.RWr w w' x Lv Wv k t ((s.lay i b.data.toList).fail s.fk s.ft) := by
  obtain ⟨c0, c1, c2, -⟩ := h.c
  obtain ⟨ad, cap, rfl, -⟩ := Dk.rowForm h.lr
  rw [hd] at c2
  have q0 : (0 : Int) ≤ (i : Int) := by omega
  have q1 : ¬ (i : Int) < 0 := by omega
  have q2 : ¬ (s.n : Int) ≤ (i : Int) := by omega
  have q3 : ¬ (64 : Int) < (b.size : Int) := by omega
  obtain ⟨P, hP⟩ : ∃ P, P = 64 - b.size := ⟨_, rfl⟩
  have hP2 : IntKind.i64.wrap (64 - (b.size : Int)) = (P : Int) := by rw [IntKind.wrap_i64]; omega
  have hmk := Try.run_makeZ P (by omega)
  have hcv : (convert 22 9 (.slice (some ⟨w.heap.size, 0, none⟩) P P)).run Try.prog (w.alloc (.cells (Lib.byteCells (List.replicate P 0)).toArray 5)).drew = .ok (.string ⟨(List.replicate P 0).toArray⟩) (w.alloc (.cells (Lib.byteCells (List.replicate P 0)).toArray 5)).drew := Try.convY (heap_alloc_new w _) (by simp)
  have hpc := Dk.pad_cat b P hP
  have hbp : ¬ 9223372036854775807 < b.size + P := by omega
  have hxl : x < w.heap.size := Dk.block_lt h.hx
  have d1 : ∀ o, (w.alloc o).cell? ⟨x, 1, none⟩ = some Wv := fun o => (((Below.refl w.heap.size w).alloc (Nat.le_refl _) o).cell (p := ⟨x, 1, none⟩) hxl).trans c1
  have d2 : ∀ o o2, ((w.alloc o).alloc o2).cell? ⟨x, 1, none⟩ = some Wv := fun o o2 => ((((Below.refl w.heap.size w).alloc (Nat.le_refl _) o).alloc (by simp) o2).cell (p := ⟨x, 1, none⟩) hxl).trans c1
  have HM : Hid (Try.Rfm w x (.slice ad s.n cap) Wv left k t s) := h
  obtain ⟨A, hA⟩ : ∃ A : World, A = (w.alloc (.cells (Lib.byteCells (List.replicate P 0)).toArray 5)).alloc (.cells #[.int .i64 (i : Nat), .string ⟨(pad b.data.toList).toArray⟩] 72) := ⟨_, rfl⟩
  have hAb : Below w.heap.size w A.drew := by rw [hA]; exact (((Below.refl _ w).alloc (Nat.le_refl _) _).alloc (by simp) _).drew
  have hAn : A.drew.heap[w.heap.size + 1]? = some (.cells #[.int .i64 (i : Nat), .string ⟨(pad b.data.toList).toArray⟩] 72 (0, 0)) := by
    have e : (w.alloc (.cells (Lib.byteCells (List.replicate P 0)).toArray 5)).heap.size = w.heap.size + 1 := by simp
    rw [hA, ← e]
    exact heap_alloc_new _ _
  have hrow : A.drew.ownsRow 0 72 2 Wv s.W.length (Dk.prs s.W) := Dk.row_heap HM.out.wr fun j e => hAb.block j (HM.out.wr.lt j e).2
  have hend := fun (g c2 : Nat) (w' : World) r1 r2 r3 => Try.Rfm.laid (w' := w') h hAb (b := b.data.toList) hi (by show b.size ≤ 64; exact hb) hw1 (g := g) (c2 := c2) r1 r2 r3
  have Hs : Hid (s.fset = true) := hs
  have Hlf : Hid (left = 0 ∧ k = s.fk ∧ t = s.ft) := ⟨(h.hf hs).1.trans hf0, (h.hf hs).2⟩
  have Hfa : Hid (s.falls < 1000000000) := hfa
  clear hs hf0 hfa
  clear h hxl hP hAb hd
  go_enter Try.func10, Try.ntmps10
  go_wp2
  go_region_law (first
    | (rw [← hA]; refine Try.stepW (by rfl) (.tmp 32) (.tmp 42) (by rfl) (w := A.drew) (V := Wv) (n := s.W.length) (H := w.heap.size + 1) (p := (i, pad b.data.toList)) hrow (by rfl) hAn (by rfl) (by omega) ?_; intro g c2 w' r1 r2 r3; obtain ⟨s1, s2, s3⟩ := hend g c2 w' r1 r2 r3; have S3 : Hid (Try.Rfm (w'.setCell ⟨x, 1, none⟩ (.slice (some ⟨g, 0, none⟩) (s.W.length + 1) c2)) x (.slice ad s.n cap) (.slice (some ⟨g, 0, none⟩) (s.W.length + 1) c2) left k t (s.lay i b.data.toList) ∧ Dk.Wo (Dk.rfoot x (.slice ad s.n cap) Wv) w (w'.setCell ⟨x, 1, none⟩ (.slice (some ⟨g, 0, none⟩) (s.W.length + 1) c2)) ∧ (Wv.ownBlock = some g ∨ w.heap.size ≤ g)) := s3; clear s3 r1 r2 r3)
    | fail)
  all_goals
    obtain ⟨hM, hwo, hgw⟩ := S3.out
    generalize w'.setCell ⟨x, 1, none⟩ (.slice (some ⟨g, 0, none⟩) (s.W.length + 1) c2) = W5 at *
    clear S3 hend hrow hAn hA hpc hmk hcv d1 d2 HM s1 s2
    obtain ⟨-, -, -, k3, k4, k5, k6, k7, -⟩ := hM.c
    have f4 := frozen_of_row _ x 4 _ _ hM.hx
    have f7 := frozen_of_row _ x 7 _ _ hM.hx
    replace k3 : W5.cell? ⟨x, 3, none⟩ = some (.bool true) := k3.trans (by rw [show (s.lay i b.data.toList).fset = true from Hs.out])
    replace k4 : W5.cell? ⟨x, 4, none⟩ = some (.int .i64 0) := k4.trans (by rw [Hlf.out.1])
    have hF := Try.rFalls1 hM Hfa.out k t
    have Hwo : Hid (Dk.Wo (Dk.rfoot x (.slice ad s.n cap) Wv) w W5) := hwo
    clear hM hwo
    go_wp2_with (first
      | (go_at_call 22; refine hF.mono ?_; clear hF; rintro e w7 ⟨⟨v7, rfl⟩, hM7, hwo7⟩)
      | fail)
    go_ret
    rw [← Hlf.out.2.1, ← Hlf.out.2.2]
    exact ⟨rfl, ⟨_, _, hM7, Hwo.out.trans (hwo7.mono fun j e => e.elim .inl fun e => .inr (.inl e)), fun j e => by cases e⟩⟩
end Go.Proofs
