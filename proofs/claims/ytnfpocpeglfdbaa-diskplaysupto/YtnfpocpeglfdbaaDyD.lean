/-
  The document's disk: Crash, Sync.
-/
import Derived.Test.YtnfpocpeglfdbaaDyC
namespace Go.Proofs
open Go.RowKit Go.Dk
theorem Try.rCrash_dead {w : World} {x : Nat} {Lv Wv : Value} {left k t : Int} {s : DS} (h : Try.Rfm w x Lv Wv left k t s) (hd : s.dead = true) (ke to2 : Int) :
    Calls Try.prog 17 #[.pointer (some ⟨x, 0, none⟩), .agg #[.int .i64 ke, .int .i64 to2]] w fun e w' => e = .returned (.int .i64 41) ∧ Below w.heap.size w w' := by
  obtain ⟨-, -, c2, -⟩ := h.c
  rw [hd] at c2
  have hxl : x < w.heap.size := Dk.block_lt h.hx
  have d2 : ∀ o, (w.alloc o).cell? ⟨x, 2, none⟩ = some (.bool false) := fun o => (((Below.refl w.heap.size w).alloc (Nat.le_refl _) o).cell (p := ⟨x, 2, none⟩) hxl).trans c2
  clear h hxl
  go_enter Try.func17, Try.ntmps17
  go_wp2
  go_ret
  exact ⟨rfl, (Below.refl _ w).alloc (Nat.le_refl _) _⟩
theorem Try.rCrash_ok {w : World} {x : Nat} {Lv Wv : Value} {left k t : Int} {s : DS} (h : Try.Rfm w x Lv Wv left k t s) (hd : s.dead = false) (hfl : s.falls < 1000000000) (ke to2 : Int) :
    Calls Try.prog 17 #[.pointer (some ⟨x, 0, none⟩), .agg #[.int .i64 ke, .int .i64 to2]] w fun e w' => e = .returned (.int .i64 0) ∧ Try.Rfm w' x Lv (.slice none 0 0) left k t (s.fail ke to2) ∧ Dk.Wo (fun j => j = x ∨ Lv.ownBlock = some j) w w' := by
  obtain ⟨W, hW⟩ : ∃ W : World, W = w.alloc (.cells #[.int .i64 ke, .int .i64 to2] 31) := ⟨_, rfl⟩
  have hb : Below w.heap.size w W := by rw [hW]; exact (Below.refl _ w).alloc (Nat.le_refl _) _
  have hbox : W.heap[w.heap.size]? = some (.cells #[.int .i64 ke, .int .i64 to2] 31 (0, 0)) := by rw [hW]; exact heap_alloc_new w _
  have hM := h.keep fun j e => hb.block j (h.foot_lt j e)
  obtain ⟨-, -, c2, -⟩ := hM.c
  rw [hd] at c2
  have b0 : W.cell? ⟨w.heap.size, 0, none⟩ = some (.int .i64 ke) := cell_of_row W _ 0 _ _ _ hbox
  have b1 : W.cell? ⟨w.heap.size, 1, none⟩ = some (.int .i64 to2) := cell_of_row W _ 1 _ _ _ hbox
  have hF := Try.rFalls1 hM hfl ke to2
  have HW : Hid (W = w.alloc (.cells #[.int .i64 ke, .int .i64 to2] 31)) := hW
  have Hb : Hid (Below w.heap.size w W) := hb
  clear h hW hbox hb hM hd
  go_enter Try.func17, Try.ntmps17
  go_upto_region 1 with fail
  rw [← HW.out]
  clear HW
  go_wp2_with (first
    | (go_at_call 35; refine hF.mono ?_; clear hF; rintro e w5 ⟨⟨v5, rfl⟩, hM5, hwo5⟩)
    | fail)
  go_ret
  exact ⟨rfl, hM5, ((Dk.Wo.refl _ w).below Hb.out (Nat.le_refl _)).trans hwo5⟩
/-- The fuse, as the document keeps it: it blows. -/
def Dk.blows (s : DS) : Prop := s.fset = true ∧ s.fl = 0
theorem Try.rSync_dead {w : World} {x : Nat} {Lv Wv : Value} {left k t : Int} {s : DS} (h : Try.Rfm w x Lv Wv left k t s) (hd : s.dead = true) :
    Calls Try.prog 13 #[.pointer (some ⟨x, 0, none⟩)] w fun e w' => e = .returned (.int .i64 41) ∧ w' = w := by
  obtain ⟨-, -, c2, -⟩ := h.c
  rw [hd] at c2
  clear h
  go_enter Try.func13, Try.ntmps13
  go_wp2
  go_ret
  exact ⟨rfl, rfl⟩
theorem Try.rSync_blow {w : World} {x : Nat} {Lv Wv : Value} {left k t : Int} {s : DS} (h : Try.Rfm w x Lv Wv left k t s) (hd : s.dead = false) (hs : s.fset = true) (h0 : s.fl = 0) (hfl : s.falls < 1000000000) :
    Calls Try.prog 13 #[.pointer (some ⟨x, 0, none⟩)] w fun e w' => e = .returned (.int .i64 41) ∧ Try.Rfm w' x Lv (.slice none 0 0) left k t (s.fail s.fk s.ft) ∧ Dk.Wo (fun j => j = x ∨ Lv.ownBlock = some j) w w' := by
  obtain ⟨f1, f2, f3⟩ := h.hf hs
  obtain ⟨-, -, c2, c3, c4, c5, c6, -⟩ := h.c
  rw [hd] at c2
  rw [hs] at c3
  rw [f1, h0] at c4
  rw [f2] at c5
  rw [f3] at c6
  have hF := Try.rFalls1 h hfl s.fk s.ft
  clear h f1 f2 f3 hs h0 hd
  go_enter Try.func13, Try.ntmps13
  go_wp2_with (first
    | (go_at_call 35; refine hF.mono ?_; clear hF; rintro e w5 ⟨⟨v5, rfl⟩, hM5, hwo5⟩)
    | fail)
  go_ret
  exact ⟨rfl, hM5, hwo5⟩
set_option maxRecDepth 4000 in
set_option maxHeartbeats 4000000 in
theorem Try.rSync_ok {w : World} {x : Nat} {Lv Wv : Value} {left k t : Int} {s : DS} (h : Try.Rfm w x Lv Wv left k t s) (hd : s.dead = false) (hs : s.fset = false ∨ s.fl ≠ 0) (hsy : s.synced < 1000000000) :
    Calls Try.prog 13 #[.pointer (some ⟨x, 0, none⟩)] w fun e w' => e = .returned (.int .i64 0) ∧ Try.Rfm w' x Lv (.slice none 0 0) left k t s.sync ∧ Dk.Wo (fun j => j = x ∨ Lv.ownBlock = some j) w w' := by
  obtain ⟨wa, wc, hWv, -⟩ := Dk.rowForm h.wr
  subst hWv
  obtain ⟨-, -, c2, c3, c4, -⟩ := h.c
  rw [hd] at c2
  obtain ⟨F, hF⟩ : ∃ F, F = s.fset := ⟨_, rfl⟩
  rw [← hF] at c3
  have q1 : F = true → left ≠ 0 := fun e => by
    rw [hF] at e
    rcases hs with e2 | e2
    · rw [e] at e2; cases e2
    · rw [(h.hf e).1]; exact e2
  have HM : Hid (Try.Rfm w x Lv (.slice wa s.W.length wc) left k t s) := h
  have hw1 : s.W.length ≤ 1000000 := h.w1
  have Hsy : Hid (s.synced < 1000000000) := hsy
  clear h hs hF hd hsy
  go_enter Try.func13, Try.ntmps13
  obtain ⟨c1, -⟩ : w.cell? ⟨x, 1, none⟩ = some (.slice wa s.W.length wc) ∧ True := ⟨HM.out.c.2.1, trivial⟩
  cases F with
  | false =>
    clear q1
    go_upto_region 7 with fail
    go_loopw [3] (fun i wr => ∃ j : Nat, j ≤ s.W.length ∧ i = .int .i64 j ∧ Try.Rfm wr x Lv (.slice wa s.W.length wc) left k t { s with L := sink s.L (s.W.take j) } ∧ Dk.Wo (fun j => j = x ∨ Lv.ownBlock = some j) w wr) (fun i _ => s.W.length - (intOf i).toNat)
    case atStart => exact ⟨0, Nat.zero_le _, rfl, HM.out, Dk.Wo.refl _ _⟩
    case round =>
      obtain ⟨j, hj, rfl, hM, hwo⟩ := hrel
      clear HM
      obtain ⟨k0, k1, -⟩ := hM.c
      by_cases hjm : j < s.W.length
      · have q0 : (j : Int) < (s.W.length : Int) := by omega
        have q00 : (0 : Int) ≤ (j : Int) := by omega
        obtain ⟨p, hp⟩ : ∃ p, s.W[j]? = some p := ⟨_, List.getElem?_eq_getElem hjm⟩
        obtain ⟨hp1, hp2⟩ := hM.good p (List.mem_of_getElem? hp)
        have hp1s : p.1 < s.n := hp1
        obtain ⟨wg, wc', e, d1, d2⟩ := Dk.pcell hM.wr hp
        cases e
        obtain ⟨g, cap, rfl, l1, l2⟩ := Dk.scell hM.lr hp1
        have q3 : (p.1 : Int) < (s.n : Int) := by omega
        have q4 : (0 : Int) ≤ (p.1 : Int) := by omega
        have hset := fun nq => (hM.drewN nq).setL (g := g) rfl (a := p.1) hp1s p.2 (by omega)
        have hbl : (blk (sink s.L (s.W.take j)) p.1).length = 64 := blk_length hM.lL hp1
        have hsx : p.2 ++ (blk (sink s.L (s.W.take j)) p.1).drop p.2.length = p.2 := by rw [List.drop_of_length_le (by omega), List.append_nil]
        simp only [hsx] at hset
        have Hset : Hid (∀ nq, Try.Rfm ((wr.drewN nq).setCell ⟨g, p.1, none⟩ (.string ⟨p.2.toArray⟩)) x (.slice (some ⟨g, 0, none⟩) s.n cap) (.slice (some ⟨wg, 0, none⟩) s.W.length wc) left k t { s with L := sink s.L (s.W.take (j + 1)) }) := fun nq => by
          have := hset nq
          rw [List.take_add_one, hp]
          show Try.Rfm _ _ _ _ _ _ _ { s with L := sink s.L (s.W.take j ++ [p]) }
          rw [sink_one]
          exact this
        have Hwo : Hid (Dk.Wo (fun j => j = x ∨ (Value.slice (some ⟨g, 0, none⟩) s.n cap).ownBlock = some j) w wr) := hwo
        clear hset hsx hbl hM hwo hp hp2 hp1 hp1s
        go_wp2
        (refine Go.Lq.wp_region_last 21 (by kernel_rfl) (by kernel_rfl) ?_; dsimp only [List.dropLast]; (repeat (quiet_step (fail))); refine wpQuiet_nil ?_; intro _ hw'; obtain ⟨nq, hw''⟩ := hw'; subst hw''; refine Go.Lq.wpOp_last rfl rfl ?_; unfold Oper.wp; go_simp)
        go_wp2
        go_roundw
        case rel => exact ⟨j + 1, by omega, by go_num, Hset.out _, (Hwo.out.drewN _).setCell g p.1 _ (.inl (.inr rfl))⟩
        case measure => simp [intOf]; omega
      · have q0 : ¬ (j : Int) < (s.W.length : Int) := by omega
        have hjj : s.W.take j = s.W := List.take_of_length_le (by omega)
        rw [hjj] at hM
        have f1 := frozen_of_row _ x 1 _ _ hM.hx
        have f8 := frozen_of_row _ x 8 _ _ hM.hx
        obtain ⟨-, -, -, -, -, -, -, -, k8, -⟩ := hM.c
        have hfw : wrap64 ((s.synced : Int) + 1) = (s.synced : Int) + 1 := by have := Hsy.out; unfold wrap64; omega
        have h1 := hM.setW.set 8 (.int .i64 ((s.synced : Int) + 1)) (left' := left) (k' := k) (t' := t) (s' := s.sync) rfl hM.hf rfl rfl rfl
        have H1 : Hid (Try.Rfm ((wr.setCell ⟨x, 1, none⟩ (.slice none 0 0)).setCell ⟨x, 8, none⟩ (.int .i64 ((s.synced : Int) + 1))) x Lv (.slice none 0 0) left k t s.sync) := h1
        have Hw2 : Hid (Dk.Wo (fun j => j = x ∨ Lv.ownBlock = some j) w ((wr.setCell ⟨x, 1, none⟩ (.slice none 0 0)).setCell ⟨x, 8, none⟩ (.int .i64 ((s.synced : Int) + 1)))) := (hwo.setCell x 1 (.slice none 0 0) (.inl (.inl rfl))).setCell x 8 (.int .i64 ((s.synced : Int) + 1)) (.inl (.inl rfl))
        clear hM h1 hwo hjj hjm
        go_wp2
        go_ret
        exact ⟨rfl, H1.out, Hw2.out⟩
  | true =>
    have q2 := q1 rfl
    have q3 : (left == 0) = false := by simpa using q2
    clear q1
    go_upto_region 7 with fail
    clear q2 q3
    go_loopw [3] (fun i wr => ∃ j : Nat, j ≤ s.W.length ∧ i = .int .i64 j ∧ Try.Rfm wr x Lv (.slice wa s.W.length wc) left k t { s with L := sink s.L (s.W.take j) } ∧ Dk.Wo (fun j => j = x ∨ Lv.ownBlock = some j) w wr) (fun i _ => s.W.length - (intOf i).toNat)
    case atStart => exact ⟨0, Nat.zero_le _, rfl, HM.out, Dk.Wo.refl _ _⟩
    case round =>
      obtain ⟨j, hj, rfl, hM, hwo⟩ := hrel
      clear HM
      obtain ⟨k0, k1, -⟩ := hM.c
      by_cases hjm : j < s.W.length
      · have q0 : (j : Int) < (s.W.length : Int) := by omega
        have q00 : (0 : Int) ≤ (j : Int) := by omega
        obtain ⟨p, hp⟩ : ∃ p, s.W[j]? = some p := ⟨_, List.getElem?_eq_getElem hjm⟩
        obtain ⟨hp1, hp2⟩ := hM.good p (List.mem_of_getElem? hp)
        have hp1s : p.1 < s.n := hp1
        obtain ⟨wg, wc', e, d1, d2⟩ := Dk.pcell hM.wr hp
        cases e
        obtain ⟨g, cap, rfl, l1, l2⟩ := Dk.scell hM.lr hp1
        have q3 : (p.1 : Int) < (s.n : Int) := by omega
        have q4 : (0 : Int) ≤ (p.1 : Int) := by omega
        have hset := fun nq => (hM.drewN nq).setL (g := g) rfl (a := p.1) hp1s p.2 (by omega)
        have hbl : (blk (sink s.L (s.W.take j)) p.1).length = 64 := blk_length hM.lL hp1
        have hsx : p.2 ++ (blk (sink s.L (s.W.take j)) p.1).drop p.2.length = p.2 := by rw [List.drop_of_length_le (by omega), List.append_nil]
        simp only [hsx] at hset
        have Hset : Hid (∀ nq, Try.Rfm ((wr.drewN nq).setCell ⟨g, p.1, none⟩ (.string ⟨p.2.toArray⟩)) x (.slice (some ⟨g, 0, none⟩) s.n cap) (.slice (some ⟨wg, 0, none⟩) s.W.length wc) left k t { s with L := sink s.L (s.W.take (j + 1)) }) := fun nq => by
          have := hset nq
          rw [List.take_add_one, hp]
          show Try.Rfm _ _ _ _ _ _ _ { s with L := sink s.L (s.W.take j ++ [p]) }
          rw [sink_one]
          exact this
        have Hwo : Hid (Dk.Wo (fun j => j = x ∨ (Value.slice (some ⟨g, 0, none⟩) s.n cap).ownBlock = some j) w wr) := hwo
        clear hset hsx hbl hM hwo hp hp2 hp1 hp1s
        go_wp2
        (refine Go.Lq.wp_region_last 21 (by kernel_rfl) (by kernel_rfl) ?_; dsimp only [List.dropLast]; (repeat (quiet_step (fail))); refine wpQuiet_nil ?_; intro _ hw'; obtain ⟨nq, hw''⟩ := hw'; subst hw''; refine Go.Lq.wpOp_last rfl rfl ?_; unfold Oper.wp; go_simp)
        go_wp2
        go_roundw
        case rel => exact ⟨j + 1, by omega, by go_num, Hset.out _, (Hwo.out.drewN _).setCell g p.1 _ (.inl (.inr rfl))⟩
        case measure => simp [intOf]; omega
      · have q0 : ¬ (j : Int) < (s.W.length : Int) := by omega
        have hjj : s.W.take j = s.W := List.take_of_length_le (by omega)
        rw [hjj] at hM
        have f1 := frozen_of_row _ x 1 _ _ hM.hx
        have f8 := frozen_of_row _ x 8 _ _ hM.hx
        obtain ⟨-, -, -, -, -, -, -, -, k8, -⟩ := hM.c
        have hfw : wrap64 ((s.synced : Int) + 1) = (s.synced : Int) + 1 := by have := Hsy.out; unfold wrap64; omega
        have h1 := hM.setW.set 8 (.int .i64 ((s.synced : Int) + 1)) (left' := left) (k' := k) (t' := t) (s' := s.sync) rfl hM.hf rfl rfl rfl
        have H1 : Hid (Try.Rfm ((wr.setCell ⟨x, 1, none⟩ (.slice none 0 0)).setCell ⟨x, 8, none⟩ (.int .i64 ((s.synced : Int) + 1))) x Lv (.slice none 0 0) left k t s.sync) := h1
        have Hw2 : Hid (Dk.Wo (fun j => j = x ∨ Lv.ownBlock = some j) w ((wr.setCell ⟨x, 1, none⟩ (.slice none 0 0)).setCell ⟨x, 8, none⟩ (.int .i64 ((s.synced : Int) + 1)))) := (hwo.setCell x 1 (.slice none 0 0) (.inl (.inl rfl))).setCell x 8 (.int .i64 ((s.synced : Int) + 1)) (.inl (.inl rfl))
        clear hM h1 hwo hjj hjm
        go_wp2
        go_ret
        exact ⟨rfl, H1.out, Hw2.out⟩
end Go.Proofs
