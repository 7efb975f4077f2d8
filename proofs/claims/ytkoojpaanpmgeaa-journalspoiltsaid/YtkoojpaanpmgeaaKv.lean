/-
  What Open tells of a disk, whatever lies behind the last record; told of it.
-/
import Derived.Test.YtkoojpaanpmgeaaKh
namespace Go.Dk
open Go.Proofs.Dk in
/-- What Open tells of a disk. -/
structure Tells (s : DS) (snap : List UInt8) (recs : List (List UInt8)) : Prop where
  ex : ∃ u v H e, Looks s 0 u ∧ Looks s 1 v ∧ heads u v = some H ∧ H.side ≤ 1 ∧ H.size = snap.length ∧ snap.length ≤ 64 * half s.n ∧ (area s.view s.n H.side).take snap.length = snap ∧ Go.Dk.cut (area s.view s.n H.side) snap.length = (recs, e)
  len : s.view.length = 64 * s.n
  n8 : 8 ≤ s.n
  n4 : s.n ≤ 4096
  few : recs.length < 1000000
theorem Tells.of {s c : DS} {snap : List UInt8} {recs : List (List UInt8)} (h : Tells s snap recs) (hv : c.view = s.view) (hn : c.n = s.n) : Tells c snap recs := by
  obtain ⟨u, v, H, e, h1, h2, h3, h4, h5, h6, h7, h8⟩ := h.ex
  refine ⟨⟨u, v, H, e, ?_, ?_, h3, h4, h5, by rw [hn]; exact h6, by rw [hv, hn]; exact h7, by rw [hv, hn]; exact h8⟩, by rw [hv, hn]; exact h.len, by rw [hn]; exact h.n8, by rw [hn]; exact h.n4, h.few⟩
  · unfold Go.Proofs.Dk.Looks at h1 ⊢
    rw [hv, hn]; exact h1
  · unfold Go.Proofs.Dk.Looks at h2 ⊢
    rw [hv, hn]; exact h2
end Go.Dk
namespace Go.Proofs
open Go.RowKit Go.Dk
/-- What was told. -/
structure Try.Td (w w' : World) (y : Nat) (snap : List UInt8) (recs : List (List UInt8)) (t : Value) : Prop where
  st : Try.Sta w' (fun k => w.heap.size ≤ k) t snap recs
  bel : Below w.heap.size w w'
theorem Try.opens_tells {w : World} {own : Nat → Prop} {x : Nat} {s : DS} {snap : List UInt8} {recs : List (List UInt8)} (h : Try.Dsk w own x s) (ht : Tells s snap recs) (hd : s.dead = false) :
    Calls Try.prog 10 #[.pointer (some ⟨x, 0, none⟩)] w fun r w' => ∃ y t, r = .returned (.tuple #[.pointer (some ⟨y, 0, none⟩), t, .bool true]) ∧ Try.Td w w' y snap recs t := by
  obtain ⟨u, v, H, e, h1, h2, h3, h4, h5, h6, h7, h8⟩ := ht.ex
  refine (Try.opens_of (snap := snap) ht.few (fun _ _ => True) (fun W hb => (Try.open_held (h.below hb) hd ht.n8 u v h1 h2 H h3 h4 (by rw [h5]; exact h6)).mono ?_)).mono ?_
  · rintro r w1 ⟨y, sn, rv, rfl, hO⟩
    obtain ⟨b, _, hrow, hsn, hrv⟩ := hO.ex
    rw [h5] at hsn hrv
    rw [h8] at hrv
    exact ⟨y, sn, rv, rfl, ⟨hO.y0, Dk.block_lt hO.jn, hO.bel, b, _, e, hrow, h7, h8, hsn, hrv⟩, trivial⟩
  · rintro r w' ⟨y, t, w1, rfl, _, hst, _, _, hbel⟩
    exact ⟨y, t, rfl, hst.mono fun k _ hp => ⟨rfl, hp.1⟩, hbel⟩
set_option maxHeartbeats 2000000 in
set_option maxRecDepth 20000 in
theorem Try.told_tells {w : World} {own : Nat → Prop} {x : Nat} {s : DS} {snap : List UInt8} {recs : List (List UInt8)} (h : Try.Dsk w own x s) (ho : Tells s snap recs) (hc : s.dead = false) :
    Calls Try.prog 16 #[.pointer (some ⟨x, 0, none⟩)] w fun r w' => ∃ y t, r = .returned (.tuple #[.pointer (some ⟨y, 0, none⟩), t, .bool true]) ∧ Try.Td w w' y snap recs t := by
  have hbA : Below w.heap.size w (w.alloc (.cells #[.string ⟨#[]⟩, .slice none 0 0] 28)) := (Below.refl w.heap.size w).alloc (Nat.le_refl _) _
  have hop1 := Try.opens_tells (h.below hbA) ho hc
  have hn8 := ho.n8
  have hn4 := ho.n4
  have HH : Hid (Tells s snap recs) := ho
  have HC : Hid (s.dead = false) := hc
  have HD : Hid (Try.Dsk w own x s) := h
  clear h ho hc hbA
  go_enter Try.func16, Try.ntmps16
  go_wp2_with (first
    | (go_at_call 10; refine hop1.mono ?_; clear hop1; rintro e w1 ⟨y, t, rfl, hT⟩; obtain ⟨rv, rfl, hrv, hrb⟩ := hT.st; obtain ⟨ad, cap, rfl, -⟩ := Dk.row_form hrv; have HT : Hid (Try.Td (w.alloc (.cells #[.string ⟨#[]⟩, .slice none 0 0] 28)) w1 y snap recs (.agg #[.string ⟨snap.toArray⟩, .slice ad recs.length cap])) := hT; clear hT hrv hrb; have hbx : Below w1.heap.size w1 (w1.alloc (.cells #[.string ⟨snap.toArray⟩, .slice ad recs.length cap] 28)) := (Below.refl w1.heap.size w1).alloc (Nat.le_refl _) _; have hbl := ((HD.out.below (((Below.refl w.heap.size w).alloc (Nat.le_refl _) (.cells #[.string ⟨#[]⟩, .slice none 0 0] 28)).trans (HT.out.bel.mono (by simp)))).below hbx).blocks; have hne := Try.new_dsk (w1.alloc (.cells #[.string ⟨snap.toArray⟩, .slice ad recs.length cap] 28)) s.n hn8 hn4)
    | (go_at_call 40; refine hbl.mono ?_; clear hbl; rintro e wb ⟨rfl, rfl⟩)
    | (go_at_call 29; refine hne.mono ?_; clear hne; rintro e w2 ⟨xc, owc, rfl, hDc, hlc, hb2⟩)
    | fail)
  obtain ⟨wx, hwx⟩ : ∃ wx, wx = w1.alloc (.cells #[.string ⟨snap.toArray⟩, .slice ad recs.length cap] 28) := ⟨_, rfl⟩
  rw [← hwx] at hb2 hlc hbx
  have HDX : Hid (Try.Dsk wx own x s) := (HD.out.below (((Below.refl w.heap.size w).alloc (Nat.le_refl _) (.cells #[.string ⟨#[]⟩, .slice none 0 0] 28)).trans (HT.out.bel.mono (by simp)))).below hbx
  have HBX : Hid (wx.heap[w1.heap.size]? = some (.cells #[.string ⟨snap.toArray⟩, .slice ad recs.length cap] 28 (0, 0))) := by rw [hwx]; exact heap_alloc_new w1 _
  have HSX : Hid (wx.heap.size = w1.heap.size + 1) := by rw [hwx]; show (w1.alloc _).heap.size = _; simp
  have HB1X : Hid (Below w1.heap.size w1 wx) := hbx
  have HCP : Hid (Try.Cpy wx w2 xc s.n 0 s.view) := ⟨owc, _, hDc, hlc, ⟨rfl, rfl, hDc.len.1, by simp⟩, new_can s.n, hb2⟩
  clear hwx hb2 hlc hbx hDc
  go_wp2
  go_loopw [7, 10] (fun ok i wr => ∃ k : Nat, k ≤ s.n ∧ ok = .bool true ∧ i = .int .i64 k ∧ Try.Cpy wx wr xc s.n k s.view) (fun _ i _ => s.n - (intOf i).toNat)
  case atStart => exact ⟨0, by omega, rfl, rfl, HCP.out⟩
  case round =>
    obtain ⟨k, hk, rfl, rfl, hCp⟩ := hrel
    obtain ⟨oc, c, hDc, hlc, hcc, hcan, hbc⟩ := hCp
    have hbl := (HDX.out.below hbc).blocks
    by_cases hkn : k < s.n
    · have q0 : (k : Int) < (s.n : Int) := by omega
      have hrd := (HDX.out.below hbc).read HC.out k hkn
      go_wp2_with (first
        | (go_at_call 40; refine hbl.mono ?_; clear hbl; rintro e wb ⟨rfl, rfl⟩)
        | (go_at_call 18; refine hrd.mono ?_; clear hrd; rintro e w3 ⟨gb, rfl, hsrc, hb3⟩; have hwr := Try.write_op (hDc.below hb3) (m := 1000000 - (k + 1)) (by rw [show 1000000 - (k + 1) + 1 = 1000000 - k by omega]; exact hcan) k (by rw [hcc.cn]; exact hkn) _ (Nat.le_of_eq (blk_length HH.out.len hkn)) _ hsrc)
        | (go_at_call 19; refine hwr.mono ?_; clear hwr; rintro e w4 ⟨rfl, hch⟩; rw [if_pos (hcc.step HH.out.len hkn).1])
        | fail)
      go_roundw
      case rel =>
        obtain ⟨oc', hD', hl'⟩ := hch.ex
        have hz1 := hbc.size
        have hz3 := hb3.size
        refine ⟨k + 1, by omega, rfl, by go_num, oc', _, hD', fun j e => ?_, (hcc.step HH.out.len hkn).2, op_can (by rw [show 1000000 - (k + 1) + 1 = 1000000 - k by omega]; exact hcan) hcc.fs _, hbc.trans ((hb3.mono (by omega)).trans (hch.wo.bel hlc (by omega)))⟩
        rcases hl' j e with e1 | e1
        · exact hlc j e1
        · omega
      case measure => simp [intOf]; omega
    · have q0 : ¬ (k : Int) < (s.n : Int) := by omega
      obtain rfl : k = s.n := by omega
      have hsy := Try.sync_op hDc (m := 100) (hcan.mono (by omega))
      rw [if_pos (op_free c _ hcc.fs).1] at hsy
      have hho2 : Tells (c.op .sy).1 snap recs := HH.out.of ((op_sy_view hcc.fs).1.trans (hcc.all HH.out.len)) ((DS.op_n _ _).trans hcc.cn)
      have hcan2 : (c.op .sy).1.Can 100 := op_can (hcan.mono (by omega)) hcc.fs _
      have hz1 := hbc.size
      go_wp2_with (first
        | (go_at_call 40; refine hbl.mono ?_; clear hbl; rintro e wb ⟨rfl, rfl⟩)
        | (go_at_call 41; refine hsy.mono ?_; clear hsy; rintro e w4 ⟨rfl, hch⟩; obtain ⟨oc', hD', hl'⟩ := hch.ex; have hop2 := Try.opens_tells hD' hho2 hcan2.dead; have hb4 := hbc.trans (hch.wo.bel hlc (by omega)))
        | (go_at_call 10; refine hop2.mono ?_; clear hop2; rintro e w5 ⟨y2, u, rfl, hT2⟩; obtain ⟨rv2, rfl, hrv2, hrb2⟩ := hT2.st; obtain ⟨ad2, cap2, rfl, -⟩ := Dk.row_form hrv2)
        | fail)
      have hsW0 : (w.alloc (.cells #[.string ⟨#[]⟩, .slice none 0 0] 28)).heap.size = w.heap.size + 1 := by simp
      have hs1 := HT.out.bel.size
      have hsx := HSX.out
      have hs4 := hb4.size
      have hb5 : Below wx.heap.size wx w5 := hb4.trans (hT2.bel.mono hs4)
      have hs5 := hb5.size
      obtain ⟨w6, hw6⟩ : ∃ w6, w6 = w5.alloc (.cells #[.string ⟨snap.toArray⟩, .slice ad2 recs.length cap2] 28) := ⟨_, rfl⟩
      have hb6 : Below wx.heap.size wx w6 := by rw [hw6]; exact hb5.alloc (by omega) _
      have hs6 : w6.heap.size = w5.heap.size + 1 := by rw [hw6]; simp
      have hR1 : w1.heap[w.heap.size]? = some (.cells #[.string ⟨#[]⟩, .slice none 0 0] 28 (0, 0)) := (HT.out.bel.block _ (by omega)).trans (heap_alloc_new w _)
      have hR6 : w6.heap[w.heap.size]? = some (.cells #[.string ⟨#[]⟩, .slice none 0 0] 28 (0, 0)) := (hb6.block _ (by omega)).trans ((HB1X.out.block _ (by omega)).trans hR1)
      have hX6 : w6.heap[w1.heap.size]? = some (.cells #[.string ⟨snap.toArray⟩, .slice ad recs.length cap] 28 (0, 0)) := (hb6.block _ (by omega)).trans HBX.out
      have hU6 : w6.heap[w5.heap.size]? = some (.cells #[.string ⟨snap.toArray⟩, .slice ad2 recs.length cap2] 28 (0, 0)) := by rw [hw6]; exact heap_alloc_new w5 _
      have hst6 : Try.Sta w6 (fun k => w.heap.size < k) (.agg #[.string ⟨snap.toArray⟩, .slice ad recs.length cap]) snap recs := HT.out.st.mono fun k hk hp => ⟨(hb6.block k (by omega)).trans (HB1X.out.block k hk), by omega⟩
      have hsu6 : Try.Sta w6 (fun k => w.heap.size < k) (.agg #[.string ⟨snap.toArray⟩, .slice ad2 recs.length cap2]) snap recs := hT2.st.mono fun k hk hp => ⟨by rw [hw6]; exact Below.heap_alloc w5 _ _ hk, by omega⟩
      have hsame : ∀ W : World, (∀ k, w.heap.size < k → W.heap[k]? = w6.heap[k]?) → Calls Try.prog 15 #[.agg #[.string ⟨snap.toArray⟩, .slice ad recs.length cap], .agg #[.string ⟨snap.toArray⟩, .slice ad2 recs.length cap2]] W fun r w' => r = .returned (.bool true) ∧ Below W.heap.size W w' := fun W hW =>
        Try.same_any HH.out.few (hst6.mono (P' := fun _ => True) fun k hk hp => ⟨hW k hp, trivial⟩) (hsu6.mono (P' := fun _ => True) fun k hk hp => ⟨hW k hp, trivial⟩)
      have HST : Hid (Try.Sta w6 (fun k => w.heap.size < k) (.agg #[.string ⟨snap.toArray⟩, .slice ad recs.length cap]) snap recs) := hst6
      have HBW : Hid (Below w.heap.size w w6) := ((Below.refl w.heap.size w).alloc (Nat.le_refl _) _).trans ((HT.out.bel.mono (by omega)).trans ((HB1X.out.mono (by omega)).trans (hb6.mono (by omega))))
      have r0 := cell_of_row _ _ 0 _ _ _ hR6
      have r1 := cell_of_row _ _ 1 _ _ _ hR6
      have f0 := frozen_of_row _ _ 0 _ _ hR6
      have f1 := frozen_of_row _ _ 1 _ _ hR6
      have x0 := cell_of_row _ _ 0 _ _ _ hX6
      have x1 := cell_of_row _ _ 1 _ _ _ hX6
      have u0 := cell_of_row _ _ 0 _ _ _ hU6
      have u1 := cell_of_row _ _ 1 _ _ _ hU6
      simp only [List.getElem?_toArray, List.getElem?_cons_zero, List.getElem?_cons_succ] at r0 r1 x0 x1 u0 u1
      clear hst6 hsu6 hT2 hrv2 hrb2 hD' hl' hDc hlc hcan hbc hch hcan2 hho2 hcc hb4 hb5
      rw [← hw6]
      clear hw6
      have hset : ∀ (W : World) (u v : Value) (k j : Nat), k ≠ w.heap.size → ((W.setCell ⟨w.heap.size, 0, none⟩ u).setCell ⟨w.heap.size, 1, none⟩ v).cell? ⟨k, j, none⟩ = W.cell? ⟨k, j, none⟩ := fun W u v k j hk =>
        World.cell?_of_block ((Below.heap_setCell _ ⟨w.heap.size, 1, none⟩ _ k (by show k ≠ w.heap.size; exact hk)).trans (Below.heap_setCell _ ⟨w.heap.size, 0, none⟩ _ k (by show k ≠ w.heap.size; exact hk)))
      have n1 : w1.heap.size ≠ w.heap.size := by omega
      have n5 : w5.heap.size ≠ w.heap.size := by omega
      have hkp : ∀ (W : World) (u v : Value), (W.cell? ⟨w1.heap.size, 0, none⟩ = some (.string ⟨snap.toArray⟩) ∧ W.cell? ⟨w1.heap.size, 1, none⟩ = some (.slice ad recs.length cap) ∧ W.cell? ⟨w5.heap.size, 0, none⟩ = some (.string ⟨snap.toArray⟩) ∧ W.cell? ⟨w5.heap.size, 1, none⟩ = some (.slice ad2 recs.length cap2)) → (((W.setCell ⟨w.heap.size, 0, none⟩ u).setCell ⟨w.heap.size, 1, none⟩ v).cell? ⟨w1.heap.size, 0, none⟩ = some (.string ⟨snap.toArray⟩) ∧ ((W.setCell ⟨w.heap.size, 0, none⟩ u).setCell ⟨w.heap.size, 1, none⟩ v).cell? ⟨w1.heap.size, 1, none⟩ = some (.slice ad recs.length cap) ∧ ((W.setCell ⟨w.heap.size, 0, none⟩ u).setCell ⟨w.heap.size, 1, none⟩ v).cell? ⟨w5.heap.size, 0, none⟩ = some (.string ⟨snap.toArray⟩) ∧ ((W.setCell ⟨w.heap.size, 0, none⟩ u).setCell ⟨w.heap.size, 1, none⟩ v).cell? ⟨w5.heap.size, 1, none⟩ = some (.slice ad2 recs.length cap2)) := fun W u v ⟨a0, a1, a2, a3⟩ =>
        ⟨(hset W u v _ _ n1).trans a0, (hset W u v _ _ n1).trans a1, (hset W u v _ _ n5).trans a2, (hset W u v _ _ n5).trans a3⟩
      have HFIN : Hid (∀ W', Dk.Wo (fun k => k = w.heap.size) w6 W' → Try.Td w W' y snap recs (.agg #[.string ⟨snap.toArray⟩, .slice ad recs.length cap])) := fun W' hwo =>
        ⟨HST.out.mono fun k hk hp => ⟨hwo.block k hk (by omega), by omega⟩, HBW.out.trans (hwo.bel (fun k e => by omega) (by omega))⟩
      go_region_held3 (fun W => W.cell? ⟨w1.heap.size, 0, none⟩ = some (.string ⟨snap.toArray⟩) ∧ W.cell? ⟨w1.heap.size, 1, none⟩ = some (.slice ad recs.length cap) ∧ W.cell? ⟨w5.heap.size, 0, none⟩ = some (.string ⟨snap.toArray⟩) ∧ W.cell? ⟨w5.heap.size, 1, none⟩ = some (.slice ad2 recs.length cap2)) (first | exact ⟨x0, x1, u0, u1⟩ | exact ⟨z0, z1, z2, z3⟩ | exact hkp _ _ _ ⟨x0, x1, u0, u1⟩ | exact hkp _ _ _ ⟨z0, z1, z2, z3⟩) (first
        | (go_at_call 15; refine (hsame _ (fun k hk => by rfl)).mono ?_; rintro e w7 ⟨rfl, hb7⟩; have hR7 : w7.heap[w.heap.size]? = some (.cells #[.string ⟨#[]⟩, .slice none 0 0] 28 (0, 0)) := (hb7.block _ (by simp; omega)).trans hR6; have r70 : w7.cell? ⟨w.heap.size, 0, none⟩ = some (.string ⟨#[]⟩) := cell_of_row _ _ 0 _ _ _ hR7; have r71 : w7.cell? ⟨w.heap.size, 1, none⟩ = some (.slice none 0 0) := cell_of_row _ _ 1 _ _ _ hR7; have f70 := frozen_of_row _ _ 0 _ _ hR7; have f71 := frozen_of_row _ _ 1 _ _ hR7; have z0 := (hb7.cell (p := ⟨w1.heap.size, 0, none⟩) (by show w1.heap.size < _; simp; omega)).trans x0; have z1 := (hb7.cell (p := ⟨w1.heap.size, 1, none⟩) (by show w1.heap.size < _; simp; omega)).trans x1; have z2 := (hb7.cell (p := ⟨w5.heap.size, 0, none⟩) (by show w5.heap.size < _; simp; omega)).trans u0; have z3 := (hb7.cell (p := ⟨w5.heap.size, 1, none⟩) (by show w5.heap.size < _; simp; omega)).trans u1)
        | (go_at_call 15; refine (hsame _ (fun k hk => (Below.heap_setCell _ ⟨w.heap.size, 1, none⟩ _ k (by show k ≠ w.heap.size; omega)).trans (Below.heap_setCell _ ⟨w.heap.size, 0, none⟩ _ k (by show k ≠ w.heap.size; omega)))).mono ?_; rintro e w7 ⟨rfl, hb7⟩; have z0 := (hb7.cell (p := ⟨w1.heap.size, 0, none⟩) (by show w1.heap.size < _; simp; omega)).trans (hkp _ _ _ ⟨x0, x1, u0, u1⟩).1; have z1 := (hb7.cell (p := ⟨w1.heap.size, 1, none⟩) (by show w1.heap.size < _; simp; omega)).trans (hkp _ _ _ ⟨x0, x1, u0, u1⟩).2.1; have z2 := (hb7.cell (p := ⟨w5.heap.size, 0, none⟩) (by show w5.heap.size < _; simp; omega)).trans (hkp _ _ _ ⟨x0, x1, u0, u1⟩).2.2.1; have z3 := (hb7.cell (p := ⟨w5.heap.size, 1, none⟩) (by show w5.heap.size < _; simp; omega)).trans (hkp _ _ _ ⟨x0, x1, u0, u1⟩).2.2.2))
      all_goals
        go_wp2
        have hC := Dk.two_cells hR7 (.string ⟨snap.toArray⟩) (.slice ad recs.length cap)
        have g0 := cell_of_row _ _ 0 _ _ _ hC
        have g1 := cell_of_row _ _ 1 _ _ _ hC
        simp only [List.getElem?_toArray, List.getElem?_cons_zero, List.getElem?_cons_succ] at g0 g1
        refine bodyPost_ret (v := .tuple #[.pointer (some ⟨y, 0, none⟩), .agg #[.string ⟨snap.toArray⟩, .slice ad recs.length cap], .bool true]) (by simp [results, go_sem, g0, g1]) rfl ?_
        refine ⟨y, _, rfl, HFIN.out _ ?_⟩
        exact ((((Dk.Wo.refl (fun k => k = w.heap.size) w6).drew.below hb7 (Nat.le_refl _)).setCell w.heap.size 0 _ (.inl rfl)).setCell w.heap.size 1 _ (.inl rfl))
end Go.Proofs
