/-
  Laid together by pack.py of Sab Sac Sad.
-/
import Derived.Test.YtlfiebapfgpchaaGreatDoorPSaa
namespace Go.Proofs
open Go.RowKit Go.Wi Go.Se Go.Ct Go.Dg
/-- What readText answers of a text, wherever the key lies. -/
def Tryz.Rt (t : ByteArray) (key : List UInt8) (r : Option Tk) : Prop := ∀ (W : World) (V : Value), Bs W V key → (∀ k, V.ownBlock = some k → k < W.heap.size) → Tryz.Tq W → Calls Tryz.prog 55 #[.string t, V] W fun e w' => Tryz.Got W r 170 e w'
set_option maxHeartbeats 2000000 in
set_option maxRecDepth 4000 in
theorem Tryz.find_arg {w : World} (kb : Nat) (t : ByteArray) (now : Int) (hn : now < 0) :
    Calls Tryz.prog 27 #[.pointer (some ⟨kb, 0, none⟩), .string t, .int .i64 now] w fun e w' => e = .returned (.tuple #[.agg #[.string ⟨#[]⟩, .int .i64 0, .int .i64 0], .iface 26 (.int .i64 1)]) ∧ Below w.heap.size w w' := by
  obtain ⟨W1, hW1⟩ : ∃ W, W = w.alloc (.cells #[.string ⟨#[]⟩, .int .i64 0, .int .i64 0] 58) := ⟨_, rfl⟩
  have hb1 : Below w.heap.size w W1 := by rw [hW1]; exact (Below.refl w.heap.size w).alloc (Nat.le_refl _) _
  have hn1 : Tryz.Zb W1 w.heap.size := by rw [hW1]; exact heap_alloc_new w _
  have HW : Hid (w.alloc (.cells #[.string ⟨#[]⟩, .int .i64 0, .int .i64 0] 58) = W1) := hW1.symm
  have hit := Tryz.isTime_any now W1
  rw [Se.dec2n (by omega)] at hit
  have e0 : W1.cell? ⟨w.heap.size, 0, none⟩ = some (.string ⟨#[]⟩) := cell_of_row W1 _ 0 _ _ _ hn1
  have e1 : W1.cell? ⟨w.heap.size, 1, none⟩ = some (.int .i64 0) := cell_of_row W1 _ 1 _ _ _ hn1
  have e2 : W1.cell? ⟨w.heap.size, 2, none⟩ = some (.int .i64 0) := cell_of_row W1 _ 2 _ _ _ hn1
  have g0 := frozen_of_row W1 w.heap.size 0 _ _ hn1
  have g1 := frozen_of_row W1 w.heap.size 1 _ _ hn1
  have g2 := frozen_of_row W1 w.heap.size 2 _ _ hn1
  have HZ : Hid (Tryz.Zb W1 w.heap.size) := hn1
  clear hW1 hn1 hn
  go_enter Tryz.func27, Tryz.ntmps27
  go_upto_region 1 with (fail)
  rw [HW.out]
  go_wp2_with (first
    | (go_at_call 21; refine hit.mono ?_; clear hit; rintro e w1 ⟨rfl, rfl⟩)
    | fail)
  have z1 := heap_setCell_same w1 w.heap.size 0 _ _ (.string ⟨#[]⟩) HZ.out
  have z2 := heap_setCell_same _ w.heap.size 1 _ _ (.int .i64 0) z1
  have z3 := heap_setCell_same _ w.heap.size 2 _ _ (.int .i64 0) z2
  refine bodyPost_ret (Se.results_ct rfl _ _ w.heap.size _ _ _ _ rfl z3 Tryz.underlying58 rfl Tryz.infoTok) rfl ⟨rfl, ?_⟩
  exact Se.belowS (Se.belowS (Se.belowS hb1 _ 0 _ (Nat.le_refl _)) _ 1 _ (Nat.le_refl _)) _ 2 _ (Nat.le_refl _)
set_option maxHeartbeats 8000000 in
set_option maxRecDepth 4000 in
theorem Tryz.find_bad {w : World} {own : Nat → Prop} {kb : Nat} {key : List UInt8} {n : Nu} {L : List ({x : Tk // x.ok} × Int)} {o : Option {x : Tk // x.ok}} {D : List (ByteArray × Int)} (h : Tryz.Kp w own kb key n L o D) (hT : Tryz.Tq w) (t : ByteArray) (now : Int) (hn0 : 0 ≤ now) (hn1 : now ≤ 1000000000) (hrt : Tryz.Rt t key (none)) :
    Calls Tryz.prog 27 #[.pointer (some ⟨kb, 0, none⟩), .string t, .int .i64 now] w fun e w' => Tryz.Got w (none) 170 e w' := by
  obtain ⟨W1, hW1⟩ : ∃ W, W = w.alloc (.cells #[.string ⟨#[]⟩, .int .i64 0, .int .i64 0] 58) := ⟨_, rfl⟩
  have hb1 : Below w.heap.size w W1 := by rw [hW1]; exact (Below.refl w.heap.size w).alloc (Nat.le_refl _) _
  have hz1 : Tryz.Zb W1 w.heap.size := by rw [hW1]; exact heap_alloc_new w _
  have HW : Hid (w.alloc (.cells #[.string ⟨#[]⟩, .int .i64 0, .int .i64 0] 58) = W1) := hW1.symm
  have hit := Tryz.isTime_any now W1
  rw [Se.dec2 (by omega) (by omega)] at hit
  have hK1 := h.keep (w' := W1) (fun k e => hb1.block k (h.lt k e)) hb1.size
  obtain ⟨V, pb, db, ok, op, od, q1, q2, q3, q4, q5, q6, q7, q8⟩ := hK1.ex
  have hkx := hrt W1 V q2 (fun k e => hK1.lt k (q6 k (q3 k e)).1) (hT.below hb1 hT.sz)
  obtain ⟨ad, cap, rfl, _⟩ := q2.ex
  have c0 : W1.cell? ⟨kb, 0, none⟩ = some (.slice ad key.length cap) := cell_of_row W1 kb 0 _ _ _ q1
  generalize key.length = KL at *
  have HZ1 : Hid (Tryz.Zb W1 w.heap.size) := hz1
  have HK : Hid _ := h
  have hR1 := block_lt hz1
  clear hW1 hz1 hrt q1 q2 q3 q4 q5 q6 q7 q8 hK1 h hn0 hn1
  go_enter Tryz.func27, Tryz.ntmps27
  go_upto_region 1 with (fail)
  rw [HW.out]
  go_upto_region 4 with (first
    | (go_at_call 21; refine hit.mono ?_; clear hit; rintro e w1 ⟨rfl, rfl⟩)
    | (go_at_call 55; refine hkx.mono ?_; clear hkx; rintro e w2 ⟨hb2, z, rfl, hfl, hz⟩)
    | fail)
  have hB2 : Below w.heap.size w w2 := hb1.trans (hb2.mono hb1.size)
  obtain ⟨w3, hw3⟩ : ∃ w3, w3 = w2.alloc (.cells #[.string ⟨#[]⟩, .int .i64 0, .int .i64 0] 58) := ⟨_, rfl⟩
  have hb3 : Below w2.heap.size w2 w3 := by rw [hw3]; exact (Below.refl _ w2).alloc (Nat.le_refl _) _
  have hn3 : w3.heap[w2.heap.size]? = some (.cells #[.string ⟨#[]⟩, .int .i64 0, .int .i64 0] 58 (0, 0)) := by rw [hw3]; exact heap_alloc_new w2 _
  have hB3 : Below w.heap.size w w3 := hB2.trans (hb3.mono hB2.size)
  have hz3 : Tryz.Zb w3 w.heap.size := (hb3.block _ (Nat.lt_of_lt_of_le hR1 hb2.size)).trans ((hb2.block _ hR1).trans HZ1.out)
  have hs2 : w.heap.size ≤ w2.heap.size := hB2.size
  rw [← hw3]
  have hfl3 : Tryz.Fl w3 z 170 := by
    obtain ⟨s, hs⟩ := hfl
    exact ⟨s, (hb3.block z (block_lt hs)).trans hs⟩
  have hzR : z ≠ w.heap.size := by omega
  have e0 : w3.cell? ⟨w.heap.size, 0, none⟩ = some (.string ⟨#[]⟩) := cell_of_row w3 _ 0 _ _ _ hz3
  have e1 : w3.cell? ⟨w.heap.size, 1, none⟩ = some (.int .i64 0) := cell_of_row w3 _ 1 _ _ _ hz3
  have e2 : w3.cell? ⟨w.heap.size, 2, none⟩ = some (.int .i64 0) := cell_of_row w3 _ 2 _ _ _ hz3
  have g0 := frozen_of_row w3 w.heap.size 0 _ _ hz3
  have g1 := frozen_of_row w3 w.heap.size 1 _ _ hz3
  have g2 := frozen_of_row w3 w.heap.size 2 _ _ hz3
  have HZ3 : Hid (Tryz.Zb w3 w.heap.size) := hz3
  clear hw3 hz3 hn3 hb3 hfl
  go_wp2
  have z1 := heap_setCell_same w3 w.heap.size 0 _ _ (.string ⟨#[]⟩) HZ3.out
  have z2 := heap_setCell_same _ w.heap.size 1 _ _ (.int .i64 0) z1
  have z3 := heap_setCell_same _ w.heap.size 2 _ _ (.int .i64 0) z2
  refine bodyPost_ret (Se.results_ct rfl _ _ w.heap.size _ _ _ _ rfl z3 Tryz.underlying58 rfl Tryz.infoTok) rfl ⟨?_, z, rfl, ?_, by omega⟩
  · exact Se.belowS (Se.belowS (Se.belowS hB3 _ 0 _ (Nat.le_refl _)) _ 1 _ (Nat.le_refl _)) _ 2 _ (Nat.le_refl _)
  · obtain ⟨s, hs⟩ := hfl3
    refine ⟨s, ?_⟩
    have hk : ∀ (W : World) (i : Nat) (v : Value), (W.setCell ⟨w.heap.size, i, none⟩ v).heap[z]? = W.heap[z]? := fun W i v => Below.heap_setCell W ⟨w.heap.size, i, none⟩ v z (fun e => hzR (by simpa using e))
    rw [hk, hk, hk]
    exact hs
set_option maxHeartbeats 8000000 in
set_option maxRecDepth 4000 in
theorem Tryz.find_late {w : World} {own : Nat → Prop} {kb : Nat} {key : List UInt8} {n : Nu} {L : List ({x : Tk // x.ok} × Int)} {o : Option {x : Tk // x.ok}} {D : List (ByteArray × Int)} (h : Tryz.Kp w own kb key n L o D) (hT : Tryz.Tq w) (t : ByteArray) (now : Int) (hn0 : 0 ≤ now) (hn1 : now ≤ 1000000000) (x : {x : Tk // x.ok}) (hx : x.1.t ≤ max now n.latest) (hrt : Tryz.Rt t key (some x.1)) :
    Calls Tryz.prog 27 #[.pointer (some ⟨kb, 0, none⟩), .string t, .int .i64 now] w fun e w' => Tryz.Got w (none) 171 e w' := by
  obtain ⟨W1, hW1⟩ : ∃ W, W = w.alloc (.cells #[.string ⟨#[]⟩, .int .i64 0, .int .i64 0] 58) := ⟨_, rfl⟩
  have hb1 : Below w.heap.size w W1 := by rw [hW1]; exact (Below.refl w.heap.size w).alloc (Nat.le_refl _) _
  have hz1 : Tryz.Zb W1 w.heap.size := by rw [hW1]; exact heap_alloc_new w _
  have HW : Hid (w.alloc (.cells #[.string ⟨#[]⟩, .int .i64 0, .int .i64 0] 58) = W1) := hW1.symm
  have hit := Tryz.isTime_any now W1
  rw [Se.dec2 (by omega) (by omega)] at hit
  have hK1 := h.keep (w' := W1) (fun k e => hb1.block k (h.lt k e)) hb1.size
  obtain ⟨V, pb, db, ok, op, od, q1, q2, q3, q4, q5, q6, q7, q8⟩ := hK1.ex
  have hkx := hrt W1 V q2 (fun k e => hK1.lt k (q6 k (q3 k e)).1) (hT.below hb1 hT.sz)
  obtain ⟨ad, cap, rfl, _⟩ := q2.ex
  have c0 : W1.cell? ⟨kb, 0, none⟩ = some (.slice ad key.length cap) := cell_of_row W1 kb 0 _ _ _ q1
  generalize key.length = KL at *
  have HZ1 : Hid (Tryz.Zb W1 w.heap.size) := hz1
  have HK : Hid _ := h
  have hR1 := block_lt hz1
  clear hW1 hz1 hrt q1 q2 q3 q4 q5 q6 q7 q8 hK1 h hn0 hn1
  go_enter Tryz.func27, Tryz.ntmps27
  go_upto_region 1 with (fail)
  rw [HW.out]
  go_upto_region 4 with (first
    | (go_at_call 21; refine hit.mono ?_; clear hit; rintro e w1 ⟨rfl, rfl⟩)
    | (go_at_call 55; refine hkx.mono ?_; clear hkx; rintro e w2 ⟨hb2, rfl⟩)
    | fail)
  have hB2 : Below w.heap.size w w2 := hb1.trans (hb2.mono hb1.size)
  obtain ⟨w3, hw3⟩ : ∃ w3, w3 = w2.alloc (.cells #[.string x.1.u, .int .i64 x.1.n, .int .i64 x.1.t] 58) := ⟨_, rfl⟩
  have hb3 : Below w2.heap.size w2 w3 := by rw [hw3]; exact (Below.refl _ w2).alloc (Nat.le_refl _) _
  have hn3 : w3.heap[w2.heap.size]? = some (.cells #[.string x.1.u, .int .i64 x.1.n, .int .i64 x.1.t] 58 (0, 0)) := by rw [hw3]; exact heap_alloc_new w2 _
  have hB3 : Below w.heap.size w w3 := hB2.trans (hb3.mono hB2.size)
  have hz3 : Tryz.Zb w3 w.heap.size := (hb3.block _ (Nat.lt_of_lt_of_le hR1 hb2.size)).trans ((hb2.block _ hR1).trans HZ1.out)
  have hs2 : w.heap.size ≤ w2.heap.size := hB2.size
  rw [← hw3]
  have d0 : w3.cell? ⟨w2.heap.size, 0, none⟩ = some (.string x.1.u) := cell_of_row w3 _ 0 _ _ _ hn3
  have d1 : w3.cell? ⟨w2.heap.size, 1, none⟩ = some (.int .i64 x.1.n) := cell_of_row w3 _ 1 _ _ _ hn3
  have d2 : w3.cell? ⟨w2.heap.size, 2, none⟩ = some (.int .i64 x.1.t) := cell_of_row w3 _ 2 _ _ _ hn3
  have hK3 := HK.out.keep (w' := w3) (fun k e => hB3.block k (HK.out.lt k e)) hB3.size
  have tm := fun m => Tryz.timeOf_any (hK3.keep (w' := w3.drewN m) (fun _ _ => rfl) (Nat.le_refl _)) now
  generalize hTT : max now n.latest = T at *
  have HN3 : Hid (w3.heap[w2.heap.size]? = some (.cells #[.string x.1.u, .int .i64 x.1.n, .int .i64 x.1.t] 58 (0, 0))) := hn3
  have HZ3 : Hid (Tryz.Zb w3 w.heap.size) := hz3
  clear hw3 hz3 hn3 hb3
  have hx0 : x.1.t ≤ T := hx
  go_wp2
  go_quiet ((go_at_call 43; exact Calls.quiet_of_same (tm _)))
  generalize nq = n1
  clear tm
  have hB4 : Below w.heap.size w (w3.drewN n1) := belowN hB3 n1
  have hz4 : Tryz.Zb (w3.drewN n1) w.heap.size := HZ3.out
  generalize w3.drewN n1 = w4 at *
  obtain ⟨c0, f0, c1, f1, c2, f2⟩ := Tryz.Zb.cells hz4
  have hl4 : w.heap.size < w4.heap.size := block_lt hz4
  have HZ4 : Hid (Tryz.Zb w4 w.heap.size) := hz4
  clear hz4 d0 d1 d2
  go_wp2
  obtain ⟨z1, z2, z3⟩ := Tryz.Zb.done HZ4.out hB4 (Nat.le_refl _) 171 ⟨#[105, 116, 115, 32, 116, 105, 109, 101, 32, 105, 115, 32, 111, 118, 101, 114]⟩
  refine bodyPost_ret (Se.results_ct rfl _ _ w.heap.size _ _ _ _ rfl z1 Tryz.underlying58 rfl Tryz.infoTok) rfl ⟨z3, w4.heap.size, rfl, z2, hB4.size⟩
set_option maxHeartbeats 8000000 in
set_option maxRecDepth 4000 in
theorem Tryz.find_gone {w : World} {own : Nat → Prop} {kb : Nat} {key : List UInt8} {n : Nu} {L : List ({x : Tk // x.ok} × Int)} {o : Option {x : Tk // x.ok}} {D : List (ByteArray × Int)} (h : Tryz.Kp w own kb key n L o D) (hT : Tryz.Tq w) (t : ByteArray) (now : Int) (hn0 : 0 ≤ now) (hn1 : now ≤ 1000000000) (x : {x : Tk // x.ok}) (hx : max now n.latest < x.1.t) (hL : L = []) (hrt : Tryz.Rt t key (some x.1)) :
    Calls Tryz.prog 27 #[.pointer (some ⟨kb, 0, none⟩), .string t, .int .i64 now] w fun e w' => Tryz.Got w (none) 172 e w' := by
  obtain ⟨W1, hW1⟩ : ∃ W, W = w.alloc (.cells #[.string ⟨#[]⟩, .int .i64 0, .int .i64 0] 58) := ⟨_, rfl⟩
  have hb1 : Below w.heap.size w W1 := by rw [hW1]; exact (Below.refl w.heap.size w).alloc (Nat.le_refl _) _
  have hz1 : Tryz.Zb W1 w.heap.size := by rw [hW1]; exact heap_alloc_new w _
  have HW : Hid (w.alloc (.cells #[.string ⟨#[]⟩, .int .i64 0, .int .i64 0] 58) = W1) := hW1.symm
  have hit := Tryz.isTime_any now W1
  rw [Se.dec2 (by omega) (by omega)] at hit
  have hK1 := h.keep (w' := W1) (fun k e => hb1.block k (h.lt k e)) hb1.size
  obtain ⟨V, pb, db, ok, op, od, q1, q2, q3, q4, q5, q6, q7, q8⟩ := hK1.ex
  have hkx := hrt W1 V q2 (fun k e => hK1.lt k (q6 k (q3 k e)).1) (hT.below hb1 hT.sz)
  obtain ⟨ad, cap, rfl, _⟩ := q2.ex
  have c0 : W1.cell? ⟨kb, 0, none⟩ = some (.slice ad key.length cap) := cell_of_row W1 kb 0 _ _ _ q1
  generalize key.length = KL at *
  have HZ1 : Hid (Tryz.Zb W1 w.heap.size) := hz1
  have HK : Hid _ := h
  have hR1 := block_lt hz1
  clear hW1 hz1 hrt q1 q2 q3 q4 q5 q6 q7 q8 hK1 h hn0 hn1
  go_enter Tryz.func27, Tryz.ntmps27
  go_upto_region 1 with (fail)
  rw [HW.out]
  go_upto_region 4 with (first
    | (go_at_call 21; refine hit.mono ?_; clear hit; rintro e w1 ⟨rfl, rfl⟩)
    | (go_at_call 55; refine hkx.mono ?_; clear hkx; rintro e w2 ⟨hb2, rfl⟩)
    | fail)
  have hB2 : Below w.heap.size w w2 := hb1.trans (hb2.mono hb1.size)
  obtain ⟨w3, hw3⟩ : ∃ w3, w3 = w2.alloc (.cells #[.string x.1.u, .int .i64 x.1.n, .int .i64 x.1.t] 58) := ⟨_, rfl⟩
  have hb3 : Below w2.heap.size w2 w3 := by rw [hw3]; exact (Below.refl _ w2).alloc (Nat.le_refl _) _
  have hn3 : w3.heap[w2.heap.size]? = some (.cells #[.string x.1.u, .int .i64 x.1.n, .int .i64 x.1.t] 58 (0, 0)) := by rw [hw3]; exact heap_alloc_new w2 _
  have hB3 : Below w.heap.size w w3 := hB2.trans (hb3.mono hB2.size)
  have hz3 : Tryz.Zb w3 w.heap.size := (hb3.block _ (Nat.lt_of_lt_of_le hR1 hb2.size)).trans ((hb2.block _ hR1).trans HZ1.out)
  have hs2 : w.heap.size ≤ w2.heap.size := hB2.size
  rw [← hw3]
  have HH : Hid ((L = [] ∧ false = false) ∨ (∃ d, L = [(x, d)] ∧ 0 < d ∧ false = true)) := .inl ⟨hL, rfl⟩
  have d0 : w3.cell? ⟨w2.heap.size, 0, none⟩ = some (.string x.1.u) := cell_of_row w3 _ 0 _ _ _ hn3
  have d1 : w3.cell? ⟨w2.heap.size, 1, none⟩ = some (.int .i64 x.1.n) := cell_of_row w3 _ 1 _ _ _ hn3
  have d2 : w3.cell? ⟨w2.heap.size, 2, none⟩ = some (.int .i64 x.1.t) := cell_of_row w3 _ 2 _ _ _ hn3
  have hK3 := HK.out.keep (w' := w3) (fun k e => hB3.block k (HK.out.lt k e)) hB3.size
  have tm := fun m => Tryz.timeOf_any (hK3.keep (w' := w3.drewN m) (fun _ _ => rfl) (Nat.le_refl _)) now
  generalize hTT : max now n.latest = T at *
  have HN3 : Hid (w3.heap[w2.heap.size]? = some (.cells #[.string x.1.u, .int .i64 x.1.n, .int .i64 x.1.t] 58 (0, 0))) := hn3
  have HZ3 : Hid (Tryz.Zb w3 w.heap.size) := hz3
  clear hw3 hz3 hn3 hb3
  have hx1 : ¬ x.1.t ≤ T := by omega
  go_wp2
  go_quiet ((go_at_call 43; exact Calls.quiet_of_same (tm _)))
  generalize nq = n1
  clear tm
  have hK4 := hK3.keep (w' := w3.drewN n1) (fun _ _ => rfl) (Nat.le_refl _)
  obtain ⟨V4, pb4, db4, ok4, op4, od4, q1, q2, q3, q4, q5, q6, q7, q8⟩ := hK4.ex
  have hB4 : Below w.heap.size w (w3.drewN n1) := belowN hB3 n1
  have hz4 : Tryz.Zb (w3.drewN n1) w.heap.size := HZ3.out
  have hn4 : (w3.drewN n1).heap[w2.heap.size]? = some (.cells #[.string x.1.u, .int .i64 x.1.n, .int .i64 x.1.t] 58 (0, 0)) := HN3.out
  clear d0 d1 d2
  generalize w3.drewN n1 = w4 at *
  have d0 : w4.cell? ⟨w2.heap.size, 0, none⟩ = some (.string x.1.u) := cell_of_row w4 _ 0 _ _ _ hn4
  have d1 : w4.cell? ⟨w2.heap.size, 1, none⟩ = some (.int .i64 x.1.n) := cell_of_row w4 _ 1 _ _ _ hn4
  have d2 : w4.cell? ⟨w2.heap.size, 2, none⟩ = some (.int .i64 x.1.t) := cell_of_row w4 _ 2 _ _ _ hn4
  have d6 : w4.cell? ⟨kb, 6, none⟩ = some (.pointer (some ⟨pb4, 0, none⟩)) := cell_of_row w4 kb 6 _ _ _ q1
  have hhs : Calls Tryz.prog 56 #[.pointer (some ⟨pb4, 0, none⟩), .agg #[.string x.1.u, .int .i64 x.1.n, .int .i64 x.1.t]] w4.drew fun e w' => e = .returned (.bool false) ∧ Below w4.heap.size w4 w' := (Tryz.has_any (q4.keep (w' := w4.drew) (fun _ _ => rfl) (Nat.le_refl _)) x false (by have hq := HH.out; simpa using hq)).mono fun e w' ⟨e1, e2⟩ => ⟨e1, e2.os, e2.tape, e2.output, e2.size, e2.block⟩
  have HB4 : Hid (Below w.heap.size w w4) := hB4
  have HZ4 : Hid (Tryz.Zb w4 w.heap.size) := hz4
  have HN4 : Hid (w4.heap[w2.heap.size]? = some (.cells #[.string x.1.u, .int .i64 x.1.n, .int .i64 x.1.t] 58 (0, 0))) := hn4
  clear q1 q2 q3 q4 q5 q6 q7 q8 hK4 hK3 hB4 hz4 hn4
  go_wp2
  go_region_with (first | (go_at_call 56; refine hhs.mono ?_; rintro e w5 ⟨rfl, hb5⟩) | fail)
  all_goals
    have hz5 : Tryz.Zb w5 w.heap.size := (hb5.block _ (block_lt HZ4.out)).trans HZ4.out
    have hB5 : Below w.heap.size w w5 := HB4.out.trans (hb5.mono HB4.out.size)
    obtain ⟨c0, f0, c1, f1, c2, f2⟩ := Tryz.Zb.cells hz5
    have hl5 : w.heap.size < w5.heap.size := block_lt hz5
    have HZ5 : Hid (Tryz.Zb w5 w.heap.size) := hz5
    clear hz5 d0 d1 d2 d6 hhs
    go_wp2
    obtain ⟨z1, z2, z3⟩ := Tryz.Zb.done HZ5.out hB5 (Nat.le_refl _) 172 ⟨#[105, 116, 32, 119, 97, 115, 32, 116, 97, 107, 101, 110, 32, 98, 97, 99, 107, 44, 32, 111, 114, 32, 110, 101, 118, 101, 114, 32, 103, 105, 118, 101, 110]⟩
    refine bodyPost_ret (Se.results_ct rfl _ _ w.heap.size _ _ _ _ rfl z1 Tryz.underlying58 rfl Tryz.infoTok) rfl ⟨z3, w5.heap.size, rfl, z2, hB5.size⟩
set_option maxHeartbeats 8000000 in
set_option maxRecDepth 4000 in
theorem Tryz.find_good {w : World} {own : Nat → Prop} {kb : Nat} {key : List UInt8} {n : Nu} {L : List ({x : Tk // x.ok} × Int)} {o : Option {x : Tk // x.ok}} {D : List (ByteArray × Int)} (h : Tryz.Kp w own kb key n L o D) (hT : Tryz.Tq w) (t : ByteArray) (now : Int) (hn0 : 0 ≤ now) (hn1 : now ≤ 1000000000) (x : {x : Tk // x.ok}) (hx : max now n.latest < x.1.t) (hL : L = [(x, x.1.t)]) (hx0 : 0 < x.1.t) (hrt : Tryz.Rt t key (some x.1)) :
    Calls Tryz.prog 27 #[.pointer (some ⟨kb, 0, none⟩), .string t, .int .i64 now] w fun e w' => Tryz.Got w (some x.1) 0 e w' := by
  obtain ⟨W1, hW1⟩ : ∃ W, W = w.alloc (.cells #[.string ⟨#[]⟩, .int .i64 0, .int .i64 0] 58) := ⟨_, rfl⟩
  have hb1 : Below w.heap.size w W1 := by rw [hW1]; exact (Below.refl w.heap.size w).alloc (Nat.le_refl _) _
  have hz1 : Tryz.Zb W1 w.heap.size := by rw [hW1]; exact heap_alloc_new w _
  have HW : Hid (w.alloc (.cells #[.string ⟨#[]⟩, .int .i64 0, .int .i64 0] 58) = W1) := hW1.symm
  have hit := Tryz.isTime_any now W1
  rw [Se.dec2 (by omega) (by omega)] at hit
  have hK1 := h.keep (w' := W1) (fun k e => hb1.block k (h.lt k e)) hb1.size
  obtain ⟨V, pb, db, ok, op, od, q1, q2, q3, q4, q5, q6, q7, q8⟩ := hK1.ex
  have hkx := hrt W1 V q2 (fun k e => hK1.lt k (q6 k (q3 k e)).1) (hT.below hb1 hT.sz)
  obtain ⟨ad, cap, rfl, _⟩ := q2.ex
  have c0 : W1.cell? ⟨kb, 0, none⟩ = some (.slice ad key.length cap) := cell_of_row W1 kb 0 _ _ _ q1
  generalize key.length = KL at *
  have HZ1 : Hid (Tryz.Zb W1 w.heap.size) := hz1
  have HK : Hid _ := h
  have hR1 := block_lt hz1
  clear hW1 hz1 hrt q1 q2 q3 q4 q5 q6 q7 q8 hK1 h hn0 hn1
  go_enter Tryz.func27, Tryz.ntmps27
  go_upto_region 1 with (fail)
  rw [HW.out]
  go_upto_region 4 with (first
    | (go_at_call 21; refine hit.mono ?_; clear hit; rintro e w1 ⟨rfl, rfl⟩)
    | (go_at_call 55; refine hkx.mono ?_; clear hkx; rintro e w2 ⟨hb2, rfl⟩)
    | fail)
  have hB2 : Below w.heap.size w w2 := hb1.trans (hb2.mono hb1.size)
  obtain ⟨w3, hw3⟩ : ∃ w3, w3 = w2.alloc (.cells #[.string x.1.u, .int .i64 x.1.n, .int .i64 x.1.t] 58) := ⟨_, rfl⟩
  have hb3 : Below w2.heap.size w2 w3 := by rw [hw3]; exact (Below.refl _ w2).alloc (Nat.le_refl _) _
  have hn3 : w3.heap[w2.heap.size]? = some (.cells #[.string x.1.u, .int .i64 x.1.n, .int .i64 x.1.t] 58 (0, 0)) := by rw [hw3]; exact heap_alloc_new w2 _
  have hB3 : Below w.heap.size w w3 := hB2.trans (hb3.mono hB2.size)
  have hz3 : Tryz.Zb w3 w.heap.size := (hb3.block _ (Nat.lt_of_lt_of_le hR1 hb2.size)).trans ((hb2.block _ hR1).trans HZ1.out)
  have hs2 : w.heap.size ≤ w2.heap.size := hB2.size
  rw [← hw3]
  have HH : Hid ((L = [] ∧ true = false) ∨ (∃ d, L = [(x, d)] ∧ 0 < d ∧ true = true)) := .inr ⟨x.1.t, hL, hx0, rfl⟩
  have d0 : w3.cell? ⟨w2.heap.size, 0, none⟩ = some (.string x.1.u) := cell_of_row w3 _ 0 _ _ _ hn3
  have d1 : w3.cell? ⟨w2.heap.size, 1, none⟩ = some (.int .i64 x.1.n) := cell_of_row w3 _ 1 _ _ _ hn3
  have d2 : w3.cell? ⟨w2.heap.size, 2, none⟩ = some (.int .i64 x.1.t) := cell_of_row w3 _ 2 _ _ _ hn3
  have hK3 := HK.out.keep (w' := w3) (fun k e => hB3.block k (HK.out.lt k e)) hB3.size
  have tm := fun m => Tryz.timeOf_any (hK3.keep (w' := w3.drewN m) (fun _ _ => rfl) (Nat.le_refl _)) now
  generalize hTT : max now n.latest = T at *
  have HN3 : Hid (w3.heap[w2.heap.size]? = some (.cells #[.string x.1.u, .int .i64 x.1.n, .int .i64 x.1.t] 58 (0, 0))) := hn3
  have HZ3 : Hid (Tryz.Zb w3 w.heap.size) := hz3
  clear hw3 hz3 hn3 hb3
  have hx1 : ¬ x.1.t ≤ T := by omega
  go_wp2
  go_quiet ((go_at_call 43; exact Calls.quiet_of_same (tm _)))
  generalize nq = n1
  clear tm
  have hK4 := hK3.keep (w' := w3.drewN n1) (fun _ _ => rfl) (Nat.le_refl _)
  obtain ⟨V4, pb4, db4, ok4, op4, od4, q1, q2, q3, q4, q5, q6, q7, q8⟩ := hK4.ex
  have hB4 : Below w.heap.size w (w3.drewN n1) := belowN hB3 n1
  have hz4 : Tryz.Zb (w3.drewN n1) w.heap.size := HZ3.out
  have hn4 : (w3.drewN n1).heap[w2.heap.size]? = some (.cells #[.string x.1.u, .int .i64 x.1.n, .int .i64 x.1.t] 58 (0, 0)) := HN3.out
  clear d0 d1 d2
  generalize w3.drewN n1 = w4 at *
  have d0 : w4.cell? ⟨w2.heap.size, 0, none⟩ = some (.string x.1.u) := cell_of_row w4 _ 0 _ _ _ hn4
  have d1 : w4.cell? ⟨w2.heap.size, 1, none⟩ = some (.int .i64 x.1.n) := cell_of_row w4 _ 1 _ _ _ hn4
  have d2 : w4.cell? ⟨w2.heap.size, 2, none⟩ = some (.int .i64 x.1.t) := cell_of_row w4 _ 2 _ _ _ hn4
  have d6 : w4.cell? ⟨kb, 6, none⟩ = some (.pointer (some ⟨pb4, 0, none⟩)) := cell_of_row w4 kb 6 _ _ _ q1
  have hhs : Calls Tryz.prog 56 #[.pointer (some ⟨pb4, 0, none⟩), .agg #[.string x.1.u, .int .i64 x.1.n, .int .i64 x.1.t]] w4.drew fun e w' => e = .returned (.bool true) ∧ Below w4.heap.size w4 w' := (Tryz.has_any (q4.keep (w' := w4.drew) (fun _ _ => rfl) (Nat.le_refl _)) x true (by have hq := HH.out; simpa using hq)).mono fun e w' ⟨e1, e2⟩ => ⟨e1, e2.os, e2.tape, e2.output, e2.size, e2.block⟩
  have HB4 : Hid (Below w.heap.size w w4) := hB4
  have HZ4 : Hid (Tryz.Zb w4 w.heap.size) := hz4
  have HN4 : Hid (w4.heap[w2.heap.size]? = some (.cells #[.string x.1.u, .int .i64 x.1.n, .int .i64 x.1.t] 58 (0, 0))) := hn4
  clear q1 q2 q3 q4 q5 q6 q7 q8 hK4 hK3 hB4 hz4 hn4
  go_wp2
  go_region_with (first | (go_at_call 56; refine hhs.mono ?_; rintro e w5 ⟨rfl, hb5⟩) | fail)
  all_goals
    have hz5 : Tryz.Zb w5 w.heap.size := (hb5.block _ (block_lt HZ4.out)).trans HZ4.out
    have hB5 : Below w.heap.size w w5 := HB4.out.trans (hb5.mono HB4.out.size)
    have hn5 : w5.heap[w2.heap.size]? = _ := (hb5.block _ (block_lt HN4.out)).trans HN4.out
    clear d0 d1 d2 d6 hhs
    have d0 : w5.cell? ⟨w2.heap.size, 0, none⟩ = some (.string x.1.u) := cell_of_row w5 _ 0 _ _ _ hn5
    have d1 : w5.cell? ⟨w2.heap.size, 1, none⟩ = some (.int .i64 x.1.n) := cell_of_row w5 _ 1 _ _ _ hn5
    have d2 : w5.cell? ⟨w2.heap.size, 2, none⟩ = some (.int .i64 x.1.t) := cell_of_row w5 _ 2 _ _ _ hn5
    have e0 : w5.cell? ⟨w.heap.size, 0, none⟩ = some (.string ⟨#[]⟩) := cell_of_row w5 _ 0 _ _ _ hz5
    have e1 : w5.cell? ⟨w.heap.size, 1, none⟩ = some (.int .i64 0) := cell_of_row w5 _ 1 _ _ _ hz5
    have e2 : w5.cell? ⟨w.heap.size, 2, none⟩ = some (.int .i64 0) := cell_of_row w5 _ 2 _ _ _ hz5
    have g0 := frozen_of_row w5 w.heap.size 0 _ _ hz5
    have g1 := frozen_of_row w5 w.heap.size 1 _ _ hz5
    have g2 := frozen_of_row w5 w.heap.size 2 _ _ hz5
    have HZ5 : Hid (Tryz.Zb w5 w.heap.size) := hz5
    clear hz5 hn5
    go_wp2
    have z1 := heap_setCell_same w5 w.heap.size 0 _ _ (.string x.1.u) HZ5.out
    have z2 := heap_setCell_same _ w.heap.size 1 _ _ (.int .i64 x.1.n) z1
    have z3 := heap_setCell_same _ w.heap.size 2 _ _ (.int .i64 x.1.t) z2
    refine bodyPost_ret (Se.results_ct rfl _ _ w.heap.size _ _ _ _ rfl z3 Tryz.underlying58 rfl Tryz.infoTok) rfl ⟨?_, rfl⟩
    exact Se.belowS (Se.belowS (Se.belowS hB5 _ 0 _ (Nat.le_refl _)) _ 1 _ (Nat.le_refl _)) _ 2 _ (Nat.le_refl _)
end Go.Proofs
namespace Go.Proofs
open Go.RowKit Go.Wi Go.Se Go.Ct Go.Dg
set_option maxHeartbeats 4000000 in
set_option maxRecDepth 4000 in
theorem Tryz.check_no {w : World} (kb : Nat) (t : ByteArray) (now : Int) (num : Int) (hnum : num = 170 ∨ num = 171 ∨ num = 172) (hf : Calls Tryz.prog 27 #[.pointer (some ⟨kb, 0, none⟩), .string t, .int .i64 now] w fun e w' => Tryz.Got w none num e w') :
    Calls Tryz.prog 12 #[.pointer (some ⟨kb, 0, none⟩), .string t, .int .i64 now] w fun e w' => e = .returned (.tuple #[.string ⟨#[]⟩, .int .i64 num]) ∧ Below w.heap.size w w' := by
  have hnf : ∀ (W : World) z, Tryz.Fl W z num → Calls Tryz.prog 28 #[.iface 105 (.pointer (some ⟨z, 0, none⟩))] W fun e w' => e = .returned (.int .i64 num) ∧ w' = W := fun W z hz => by
    rcases hnum with rfl | h
    · exact Tryz.numberOf_token hz
    · exact Tryz.numberOf_late hz h
  clear hnum
  go_enter Tryz.func12, Tryz.ntmps12
  go_upto_region 2 with (first
    | (go_at_call 27; refine hf.mono ?_; clear hf; rintro e w1 ⟨hb1, z, rfl, hfl, hz⟩)
    | fail)
  obtain ⟨w2, hw2⟩ : ∃ w2, w2 = w1.alloc (.cells #[.string ⟨#[]⟩, .int .i64 0, .int .i64 0] 58) := ⟨_, rfl⟩
  have hb2 : Below w1.heap.size w1 w2 := by rw [hw2]; exact (Below.refl _ w1).alloc (Nat.le_refl _) _
  have hfl2 : Tryz.Fl w2 z num := by
    obtain ⟨s, hs⟩ := hfl
    exact ⟨s, (hb2.block z (block_lt hs)).trans hs⟩
  have hn2 := hnf w2 z hfl2
  rw [← hw2]
  clear hw2 hnf hfl hfl2
  go_wp2_with (first
    | (go_at_call 28; refine hn2.mono ?_; clear hn2; rintro e w3 ⟨rfl, rfl⟩)
    | fail)
  go_ret2
  exact ⟨rfl, hb1.trans (hb2.mono hb1.size)⟩
set_option maxHeartbeats 4000000 in
set_option maxRecDepth 4000 in
theorem Tryz.check_arg {w : World} (kb : Nat) (t : ByteArray) (now : Int) (hn : now < 0) :
    Calls Tryz.prog 12 #[.pointer (some ⟨kb, 0, none⟩), .string t, .int .i64 now] w fun e w' => e = .returned (.tuple #[.string ⟨#[]⟩, .int .i64 1]) ∧ Below w.heap.size w w' := by
  have hf := Tryz.find_arg (w := w) kb t now hn
  clear hn
  go_enter Tryz.func12, Tryz.ntmps12
  go_wp2_with (first
    | (go_at_call 27; refine hf.mono ?_; clear hf; rintro e w1 ⟨rfl, hb1⟩)
    | (go_at_call 28; refine (Tryz.numberOf_arg _).mono ?_; rintro e w3 ⟨rfl, rfl⟩)
    | fail)
  go_ret2
  exact ⟨rfl, hb1.alloc hb1.size _⟩
set_option maxHeartbeats 4000000 in
set_option maxRecDepth 4000 in
theorem Tryz.check_good {w : World} {own : Nat → Prop} {kb : Nat} {key : List UInt8} {n : Nu} {L : List ({x : Tk // x.ok} × Int)} {o : Option {x : Tk // x.ok}} {D D' : List (ByteArray × Int)} (h : Tryz.Kp w own kb key n L o D) (hT : Tryz.Tq w) (t : ByteArray) (now : Int) (hn0 : 0 ≤ now) (hn1 : now ≤ 1000000000) (x : {x : Tk // x.ok}) (hx : max now n.latest < x.1.t) (hL : L = [(x, x.1.t)]) (hx0 : 0 < x.1.t) (hrt : Tryz.Rt t key (some x.1)) (hD : Tryz.Left D D' (max now n.latest)) :
    Calls Tryz.prog 12 #[.pointer (some ⟨kb, 0, none⟩), .string t, .int .i64 now] w fun e w' => e = .returned (.tuple #[.string x.1.u, .int .i64 0]) ∧ Tryz.KChg own w w' kb key { n with latest := max now n.latest } L o D' := by
  have hf := Tryz.find_good h hT t now hn0 hn1 x hx hL hx0 hrt
  have hmv : ∀ w2, Below w.heap.size w w2 → Calls Tryz.prog 22 #[.pointer (some ⟨kb, 0, none⟩), .int .i64 now] w2 fun e w' => (∃ v, e = .returned v) ∧ Tryz.KChg own w w' kb key { n with latest := max now n.latest } L o D' ∧ ∀ k, w.heap.size ≤ k → k < w2.heap.size → w'.heap[k]? = w2.heap[k]? := fun w2 hb => by
    have hK2 := h.keep (w' := w2) (fun k e => hb.block k (h.lt k e)) hb.size
    refine (Tryz.moveOn_any hK2 now (.inr ⟨x, x.1.t, hL, hx⟩) hD).mono fun e w' ⟨e1, e2⟩ => ⟨e1, Tryz.KChg.trans (own1 := own) (Wo.ofBelow hb) (fun k e => .inl e) e2, fun k hk hk2 => e2.wo.block k hk2 fun e => ?_⟩
    have := h.lt k e
    omega
  clear h hT hn0 hn1 hx hL hx0 hrt hD
  generalize max now n.latest = T at *
  go_enter Tryz.func12, Tryz.ntmps12
  go_upto_region 2 with (first
    | (go_at_call 27; refine hf.mono ?_; clear hf; rintro e w1 ⟨hb1, rfl⟩)
    | fail)
  obtain ⟨w2, hw2⟩ : ∃ w2, w2 = w1.alloc (.cells #[.string x.1.u, .int .i64 x.1.n, .int .i64 x.1.t] 58) := ⟨_, rfl⟩
  have hb2 : Below w.heap.size w w2 := by rw [hw2]; exact hb1.alloc hb1.size _
  have hn2 : w2.heap[w1.heap.size]? = some (.cells #[.string x.1.u, .int .i64 x.1.n, .int .i64 x.1.t] 58 (0, 0)) := by rw [hw2]; exact heap_alloc_new w1 _
  have hm2 := hmv w2 hb2
  rw [← hw2]
  clear hw2 hmv
  have hs1 := hb1.size
  go_wp2_with (first
    | (go_at_call 22; refine hm2.mono ?_; clear hm2; rintro e w3 ⟨⟨v3, rfl⟩, hc3, hk3⟩; have c3 : w3.cell? ⟨w1.heap.size, 0, none⟩ = some (.string x.1.u) := cell_of_row w3 _ 0 _ _ _ ((hk3 _ hs1 (block_lt hn2)).trans hn2))
    | fail)
  go_ret2
  exact ⟨rfl, hc3⟩
set_option maxHeartbeats 4000000 in
set_option maxRecDepth 4000 in
theorem Tryz.revoke_good {w : World} {own : Nat → Prop} {kb : Nat} {key : List UInt8} {n : Nu} {D D' : List (ByteArray × Int)} (x : {x : Tk // x.ok}) (h : Tryz.Kp w own kb key n [(x, x.1.t)] (some x) D) (hT : Tryz.Tq w) (t : ByteArray) (now : Int) (hn0 : 0 ≤ now) (hn1 : now ≤ 1000000000) (hx : max now n.latest < x.1.t) (hx0 : 0 < x.1.t) (hrt : Tryz.Rt t key (some x.1)) (hD : Tryz.Left D D' (max now n.latest)) :
    Calls Tryz.prog 13 #[.pointer (some ⟨kb, 0, none⟩), .string t, .int .i64 now] w fun e w' => e = .returned (.int .i64 0) ∧ Tryz.KChg own w w' kb key { n with latest := max now n.latest } [] none D' := by
  have hf := Tryz.find_good h hT t now hn0 hn1 x hx rfl hx0 hrt
  have hmv : ∀ w2, Below w.heap.size w w2 → Calls Tryz.prog 22 #[.pointer (some ⟨kb, 0, none⟩), .int .i64 now] w2 fun e w' => (∃ v, e = .returned v) ∧ Tryz.KChg own w w' kb key { n with latest := max now n.latest } [(x, x.1.t)] (some x) D' ∧ ∀ k, w.heap.size ≤ k → k < w2.heap.size → w'.heap[k]? = w2.heap[k]? := fun w2 hb => by
    have hK2 := h.keep (w' := w2) (fun k e => hb.block k (h.lt k e)) hb.size
    refine (Tryz.moveOn_any hK2 now (.inr ⟨x, x.1.t, rfl, hx⟩) hD).mono fun e w' ⟨e1, e2⟩ => ⟨e1, Tryz.KChg.trans (own1 := own) (Wo.ofBelow hb) (fun k e => .inl e) e2, fun k hk hk2 => e2.wo.block k hk2 fun e => ?_⟩
    have := h.lt k e
    omega
  clear h hT hn0 hn1 hx hx0 hrt hD
  generalize max now n.latest = T at *
  go_enter Tryz.func13, Tryz.ntmps13
  go_upto_region 2 with (first
    | (go_at_call 27; refine hf.mono ?_; clear hf; rintro e w1 ⟨hb1, rfl⟩)
    | fail)
  obtain ⟨w2, hw2⟩ : ∃ w2, w2 = w1.alloc (.cells #[.string x.1.u, .int .i64 x.1.n, .int .i64 x.1.t] 58) := ⟨_, rfl⟩
  have hb2 : Below w.heap.size w w2 := by rw [hw2]; exact hb1.alloc hb1.size _
  have hn2 : w2.heap[w1.heap.size]? = some (.cells #[.string x.1.u, .int .i64 x.1.n, .int .i64 x.1.t] 58 (0, 0)) := by rw [hw2]; exact heap_alloc_new w1 _
  have hm2 := hmv w2 hb2
  rw [← hw2]
  clear hw2 hmv
  have hs1 := hb1.size
  go_upto_region 5 with (first
    | (go_at_call 22; refine hm2.mono ?_; clear hm2; rintro e w3 ⟨⟨v3, rfl⟩, hc3, hk3⟩)
    | fail)
  have hn3 : w3.heap[w1.heap.size]? = _ := (hk3 _ hs1 (block_lt hn2)).trans hn2
  have c0 : w3.cell? ⟨w1.heap.size, 0, none⟩ = some (.string x.1.u) := cell_of_row w3 _ 0 _ _ _ hn3
  have c1 : w3.cell? ⟨w1.heap.size, 1, none⟩ = some (.int .i64 x.1.n) := cell_of_row w3 _ 1 _ _ _ hn3
  have c2 : w3.cell? ⟨w1.heap.size, 2, none⟩ = some (.int .i64 x.1.t) := cell_of_row w3 _ 2 _ _ _ hn3
  obtain ⟨own3, hK3, ho3⟩ := hc3.ex
  obtain ⟨V, pb, db, ok, op, od, q1, q2, q3, q4, q5, q6, q7, q8⟩ := hK3.ex
  have c6 : w3.cell? ⟨kb, 6, none⟩ = some (.pointer (some ⟨pb, 0, none⟩)) := cell_of_row w3 kb 6 _ _ _ q1
  have hrm : ∀ m, Calls Tryz.prog 29 #[.pointer (some ⟨pb, 0, none⟩), .agg #[.string x.1.u, .int .i64 x.1.n, .int .i64 x.1.t]] (w3.drewN m) fun e w' => (∃ v, e = .returned v) ∧ Tryz.KChg own w w' kb key { n with latest := T } [] none D' := fun m =>
    (Tryz.premove_one (q4.keep (w' := w3.drewN m) (fun _ _ => rfl) (Nat.le_refl _))).mono fun e w' ⟨e1, e2⟩ => ⟨e1, by
      have := Tryz.Kp.purse (own := own3) (w := w3.drewN m) (n := { n with latest := T }) (V := V) (pb := pb) (db := db) (key := key) (D := D') (ok := ok) (od := od) q1 (q2.keep fun _ _ => rfl) q3 (q5.keep (fun _ _ => rfl) (Nat.le_refl _)) q6 q7 q8 hK3.okb hK3.lt e2
      exact Tryz.KChg.trans (hc3.wo.drewN m) ho3 this⟩
  clear q1 q2 q3 q4 q5 q6 q7 q8 hn3 hn2
  (refine Go.Lq.wp_region_lastN (fun w' => ∃ k, w' = _root_.Go.World.drewN _ k) 5 (by kernel_rfl) (by kernel_rfl) ⟨1, rfl⟩ ?_; dsimp only [List.dropLast]; (repeat (quiet_step (fail))); refine wpQuiet_nil ?_; intro _ hw'; obtain ⟨nq, hw''⟩ := hw'; subst hw''; refine Go.Lq.wpOp_last rfl rfl ?_; unfold Oper.wp; go_simp)
  refine (hrm nq).mono ?_
  rintro e w4 ⟨⟨v4, rfl⟩, hc4⟩
  go_wp2
  go_ret
  exact ⟨rfl, hc4⟩
end Go.Proofs
namespace Go.Proofs
open Go.RowKit Go.Wi Go.Se Go.Ct Go.Dg
/-- The key of sixteen noughts. -/
def Se.key0 : List UInt8 := List.replicate 16 0
set_option maxHeartbeats 1000000 in
theorem Tryz.lkey_any (w : World) : Calls Tryz.prog 9 #[] w fun e w' => ∃ g, e = .returned (.slice (some ⟨g, 0, none⟩) 16 16) ∧ Bs w' (.slice (some ⟨g, 0, none⟩) 16 16) Se.key0 ∧ g < w'.heap.size ∧ Below w.heap.size w w' := by
  go_enter Tryz.func9, Tryz.ntmps9
  go_wp2_with (first | (refine Tryz.makeLC rfl _ _ rfl _ _ _ _ 16 16 rfl rfl rfl rfl (by omega) (by omega) ?_; intro w1 ho1 hb1 hs1) | fail)
  go_ret
  exact ⟨w.heap.size, rfl, ho1.bs, by omega, hb1⟩
set_option maxHeartbeats 1000000 in
theorem Tryz.pick_any (c : Int) (m : Nat) (hm : 0 < m) (hm2 : m ≤ 1000000) (h1 : -9223372036854775808 ≤ c) (h2 : c ≤ 9223372036854775807) (w : World) : Calls Tryz.prog 7 #[.int .i64 c, .int .i64 (m : Int)] w fun e w' => ∃ k : Nat, k < m ∧ e = .returned (.int .i64 (k : Int)) ∧ w' = w := by
  by_cases hc : c < 0
  · obtain ⟨d, hd⟩ : ∃ d : Nat, -(c + 1) = (d : Int) := ⟨(-(c + 1)).toNat, by omega⟩
    obtain ⟨k, hk⟩ : ∃ k : Nat, k = d % m := ⟨_, rfl⟩
    have hkm : k < m := by rw [hk]; exact Nat.mod_lt _ hm
    have e1 : wrap64 (-(wrap64 (c + 1))) = (d : Int) := by unfold wrap64; omega
    have e2 : ((d : Int)).tmod (m : Int) = (k : Int) := by rw [Int.tmod_eq_emod_of_nonneg (by omega), hk]; rfl
    have e3 : ((d : Int)) % (m : Int) = (k : Int) := by rw [hk]; rfl
    have q1 : ¬ (m : Int) = 0 := by omega
    have e4 : -((c + 1).tmod (m : Int)) = (k : Int) := by rw [← Int.neg_tmod, hd]; exact e2
    have H4 : Hid (-((c + 1).tmod (m : Int)) = (k : Int)) := e4
    clear hd hk e4
    go_enter Tryz.func7, Tryz.ntmps7
    go_wp2
    go_ret
    refine ⟨k, hkm, ?_, rfl⟩
    show Ending.returned (.int .i64 (-((c + 1).tmod (m : Int)))) = _
    rw [H4.out]
  · obtain ⟨d, hd⟩ : ∃ d : Nat, c = (d : Int) := ⟨c.toNat, by omega⟩
    obtain ⟨k, hk⟩ : ∃ k : Nat, k = d % m := ⟨_, rfl⟩
    have hkm : k < m := by rw [hk]; exact Nat.mod_lt _ hm
    subst hd
    have e2 : ((d : Int)).tmod (m : Int) = (k : Int) := by rw [Int.tmod_eq_emod_of_nonneg (by omega), hk]; rfl
    have e3 : ((d : Int)) % (m : Int) = (k : Int) := by rw [hk]; rfl
    have q1 : ¬ (m : Int) = 0 := by omega
    clear hk
    go_enter Tryz.func7, Tryz.ntmps7
    go_wp2
    go_ret
    exact ⟨k, hkm, rfl, rfl⟩
/-- A keeper above a floor, below which all is as it was; and blocks of others that are held beside it. -/
structure Tryz.KH (w0 w : World) (kb : Nat) (key : List UInt8) (n : Nu) (L : List ({x : Tk // x.ok} × Int)) (o : Option {x : Tk // x.ok}) (D : List (ByteArray × Int)) (As : List (Nat × Obj)) : Prop where
  ex : ∃ own, Tryz.Kp w own kb key n L o D ∧ (∀ k, own k → w0.heap.size ≤ k) ∧ ∀ p ∈ As, ¬ own p.1
  hold : ∀ p ∈ As, w.heap[p.1]? = some p.2
  bel : Below w0.heap.size w0 w
  tq : Tryz.Tq w0
theorem Tryz.KH.tqw {w0 w : World} {kb : Nat} {key : List UInt8} {n : Nu} {L : List ({x : Tk // x.ok} × Int)} {o : Option {x : Tk // x.ok}} {D : List (ByteArray × Int)} {As : List (Nat × Obj)} (h : Tryz.KH w0 w kb key n L o D As) : Tryz.Tq w := h.tq.below h.bel h.tq.sz
theorem Tryz.KH.chg {w0 w w' : World} {kb : Nat} {key : List UInt8} {n : Nu} {L : List ({x : Tk // x.ok} × Int)} {o : Option {x : Tk // x.ok}} {D : List (ByteArray × Int)} {As : List (Nat × Obj)} {n' : Nu} {L' : List ({x : Tk // x.ok} × Int)} {o' : Option {x : Tk // x.ok}} {D' : List (ByteArray × Int)} {own : Nat → Prop} (h : Tryz.KH w0 w kb key n L o D As) (ho : ∀ k, own k → w0.heap.size ≤ k) (hA : ∀ p ∈ As, ¬ own p.1) (hc : Tryz.KChg own w w' kb key n' L' o' D') : Tryz.KH w0 w' kb key n' L' o' D' As := by
  obtain ⟨own', q1, q2⟩ := hc.ex
  have hs := h.bel.size
  refine ⟨⟨own', q1, fun k e => ?_, fun p hp e => ?_⟩, fun p hp => ?_, Wo.toBelow h.bel hc.wo ho hs, h.tq⟩
  · rcases q2 k e with e1 | e1
    · exact ho k e1
    · omega
  · rcases q2 _ e with e1 | e1
    · exact hA p hp e1
    · have := block_lt (h.hold p hp)
      omega
  · exact (hc.wo.block _ (block_lt (h.hold p hp)) (hA p hp)).trans (h.hold p hp)
theorem Tryz.KH.below {w0 w w' : World} {kb : Nat} {key : List UInt8} {n : Nu} {L : List ({x : Tk // x.ok} × Int)} {o : Option {x : Tk // x.ok}} {D : List (ByteArray × Int)} {As : List (Nat × Obj)} (h : Tryz.KH w0 w kb key n L o D As) (g : Below w.heap.size w w') : Tryz.KH w0 w' kb key n L o D As := by
  obtain ⟨own, q1, q2, q3⟩ := h.ex
  exact ⟨⟨own, q1.keep (fun k e => g.block k (q1.lt k e)) g.size, q2, q3⟩, fun p hp => (g.block _ (block_lt (h.hold p hp))).trans (h.hold p hp), h.bel.trans (g.mono h.bel.size), h.tq⟩
/-- One block more. -/
theorem Tryz.KH.add {w0 w : World} {kb : Nat} {key : List UInt8} {n : Nu} {L : List ({x : Tk // x.ok} × Int)} {o : Option {x : Tk // x.ok}} {D : List (ByteArray × Int)} {As : List (Nat × Obj)} (h : Tryz.KH w0 w kb key n L o D As) (cs : Array Value) (T : TypeId) : Tryz.KH w0 (w.alloc (.cells cs T)) kb key n L o D ((w.heap.size, .cells cs T (0, 0)) :: As) := by
  have hb := h.below ((Below.refl w.heap.size w).alloc (Nat.le_refl _) (.cells cs T))
  obtain ⟨own, q1, q2, q3⟩ := h.ex
  have g : Below w.heap.size w (w.alloc (.cells cs T)) := (Below.refl w.heap.size w).alloc (Nat.le_refl _) _
  refine ⟨⟨own, q1.keep (fun k e => g.block k (q1.lt k e)) g.size, q2, fun p hp => ?_⟩, fun p hp => ?_, hb.bel, hb.tq⟩
  · rcases List.mem_cons.1 hp with rfl | hp
    · intro e
      have := q1.lt _ e
      exact absurd this (by simp)
    · exact q3 p hp
  · rcases List.mem_cons.1 hp with rfl | hp
    · exact heap_alloc_new w _
    · exact hb.hold p hp
theorem Tryz.KH.new {w0 w : World} (hT : Tryz.Tq w0) (hb : Below w0.heap.size w0 w) {V : Value} {key : List UInt8} (h : Bs w V key) (hv : ∀ k, V.ownBlock = some k → k < w.heap.size) (hk1 : 16 ≤ key.length) (hk2 : key.length ≤ 64) (a b c : Int) (hm : Se.Nu.May ⟨a, b, c, 0, 0⟩) :
    Calls Tryz.prog 8 #[V, .int .i64 a, .int .i64 b, .int .i64 c] w fun e w' => ∃ kb, e = .returned (.tuple #[.pointer (some ⟨kb, 0, none⟩), .int .i64 0]) ∧ Tryz.KH w0 w' kb key ⟨a, b, c, 0, 0⟩ [] none [] [] :=
  (Tryz.new_yes h hv hk1 hk2 a b c hm).mono fun e w' ⟨kb, e1, e2, e3⟩ => ⟨kb, e1, ⟨⟨_, e2, fun k e => Nat.le_trans hb.size e.1, fun p hp => by cases hp⟩, fun p hp => (by cases hp), hb.trans (e3.mono hb.size), hT⟩⟩
theorem Tryz.KH.issue {w0 w : World} {kb : Nat} {key : List UInt8} {n : Nu} {D D' : List (ByteArray × Int)} {As : List (Nat × Obj)} (h : Tryz.KH w0 w kb key n [] none D As) (hkl : key.length ≤ 64) (hm : Se.Nu.May n) (hl0 : 0 ≤ n.latest) (hl1 : n.latest ≤ 1000000000) (hg0 : 0 ≤ n.given) (hg1 : n.given < 1000000000) (u : ByteArray) (hu1 : 1 ≤ u.size) (hu2 : u.size ≤ 60) (now : Int) (hn0 : 0 ≤ now) (hn1 : now ≤ 1000000000)
    (hD : Tryz.Left D D' (max now n.latest)) (x : {x : Tk // x.ok}) (hx : x.1 = ⟨u, n.given + 1, max now n.latest + n.life⟩) :
    Calls Tryz.prog 11 #[.pointer (some ⟨kb, 0, none⟩), .string u, .int .i64 now] w fun e w' => e = .returned (.tuple #[.string (Se.Tk.text x.1 key), .int .i64 0]) ∧ Tryz.KH w0 w' kb key { n with latest := max now n.latest, given := n.given + 1 } [(x, x.1.t)] (some x) D' As := by
  obtain ⟨own, q1, q2, q3⟩ := h.ex
  exact (Tryz.issue_first q1 h.tqw (fun k e => Nat.le_trans h.tq.sz (q2 k e)) hkl hm hl0 hl1 hg0 hg1 u hu1 hu2 now hn0 hn1 hD x hx).mono fun e w' ⟨e1, e2⟩ => ⟨e1, h.chg q2 q3 e2⟩
theorem Tryz.KH.good {w0 w : World} {kb : Nat} {key : List UInt8} {n : Nu} {L : List ({x : Tk // x.ok} × Int)} {o : Option {x : Tk // x.ok}} {D : List (ByteArray × Int)} {As : List (Nat × Obj)} {D' : List (ByteArray × Int)} (h : Tryz.KH w0 w kb key n L o D As) (t : ByteArray) (now : Int) (hn0 : 0 ≤ now) (hn1 : now ≤ 1000000000) (x : {x : Tk // x.ok}) (hx : max now n.latest < x.1.t) (hL : L = [(x, x.1.t)]) (hx0 : 0 < x.1.t) (hrt : Tryz.Rt t key (some x.1)) (hD : Tryz.Left D D' (max now n.latest)) :
    Calls Tryz.prog 12 #[.pointer (some ⟨kb, 0, none⟩), .string t, .int .i64 now] w fun e w' => e = .returned (.tuple #[.string x.1.u, .int .i64 0]) ∧ Tryz.KH w0 w' kb key { n with latest := max now n.latest } L o D' As := by
  obtain ⟨own, q1, q2, q3⟩ := h.ex
  exact (Tryz.check_good q1 h.tqw t now hn0 hn1 x hx hL hx0 hrt hD).mono fun e w' ⟨e1, e2⟩ => ⟨e1, h.chg q2 q3 e2⟩
theorem Tryz.KH.bad {w0 w : World} {kb : Nat} {key : List UInt8} {n : Nu} {L : List ({x : Tk // x.ok} × Int)} {o : Option {x : Tk // x.ok}} {D : List (ByteArray × Int)} {As : List (Nat × Obj)} (h : Tryz.KH w0 w kb key n L o D As) (t : ByteArray) (now : Int) (hn0 : 0 ≤ now) (hn1 : now ≤ 1000000000) (hrt : Tryz.Rt t key none) :
    Calls Tryz.prog 12 #[.pointer (some ⟨kb, 0, none⟩), .string t, .int .i64 now] w fun e w' => e = .returned (.tuple #[.string ⟨#[]⟩, .int .i64 170]) ∧ Tryz.KH w0 w' kb key n L o D As := by
  obtain ⟨own, q1, q2, q3⟩ := h.ex
  exact (Tryz.check_no kb t now 170 (.inl rfl) (Tryz.find_bad q1 h.tqw t now hn0 hn1 hrt)).mono fun e w' ⟨e1, e2⟩ => ⟨e1, h.below e2⟩
theorem Tryz.KH.late {w0 w : World} {kb : Nat} {key : List UInt8} {n : Nu} {L : List ({x : Tk // x.ok} × Int)} {o : Option {x : Tk // x.ok}} {D : List (ByteArray × Int)} {As : List (Nat × Obj)} (h : Tryz.KH w0 w kb key n L o D As) (t : ByteArray) (now : Int) (hn0 : 0 ≤ now) (hn1 : now ≤ 1000000000) (x : {x : Tk // x.ok}) (hx : x.1.t ≤ max now n.latest) (hrt : Tryz.Rt t key (some x.1)) :
    Calls Tryz.prog 12 #[.pointer (some ⟨kb, 0, none⟩), .string t, .int .i64 now] w fun e w' => e = .returned (.tuple #[.string ⟨#[]⟩, .int .i64 171]) ∧ Tryz.KH w0 w' kb key n L o D As := by
  obtain ⟨own, q1, q2, q3⟩ := h.ex
  exact (Tryz.check_no kb t now 171 (.inr (.inl rfl)) (Tryz.find_late q1 h.tqw t now hn0 hn1 x hx hrt)).mono fun e w' ⟨e1, e2⟩ => ⟨e1, h.below e2⟩
theorem Tryz.KH.gone {w0 w : World} {kb : Nat} {key : List UInt8} {n : Nu} {L : List ({x : Tk // x.ok} × Int)} {o : Option {x : Tk // x.ok}} {D : List (ByteArray × Int)} {As : List (Nat × Obj)} (h : Tryz.KH w0 w kb key n L o D As) (t : ByteArray) (now : Int) (hn0 : 0 ≤ now) (hn1 : now ≤ 1000000000) (x : {x : Tk // x.ok}) (hx : max now n.latest < x.1.t) (hL : L = []) (hrt : Tryz.Rt t key (some x.1)) :
    Calls Tryz.prog 12 #[.pointer (some ⟨kb, 0, none⟩), .string t, .int .i64 now] w fun e w' => e = .returned (.tuple #[.string ⟨#[]⟩, .int .i64 172]) ∧ Tryz.KH w0 w' kb key n L o D As := by
  obtain ⟨own, q1, q2, q3⟩ := h.ex
  exact (Tryz.check_no kb t now 172 (.inr (.inr rfl)) (Tryz.find_gone q1 h.tqw t now hn0 hn1 x hx hL hrt)).mono fun e w' ⟨e1, e2⟩ => ⟨e1, h.below e2⟩
theorem Tryz.KH.arg {w0 w : World} {kb : Nat} {key : List UInt8} {n : Nu} {L : List ({x : Tk // x.ok} × Int)} {o : Option {x : Tk // x.ok}} {D : List (ByteArray × Int)} {As : List (Nat × Obj)} (h : Tryz.KH w0 w kb key n L o D As) (t : ByteArray) (now : Int) (hn : now < 0) :
    Calls Tryz.prog 12 #[.pointer (some ⟨kb, 0, none⟩), .string t, .int .i64 now] w fun e w' => e = .returned (.tuple #[.string ⟨#[]⟩, .int .i64 1]) ∧ Tryz.KH w0 w' kb key n L o D As :=
  (Tryz.check_arg kb t now hn).mono fun _e _w' ⟨e1, e2⟩ => ⟨e1, h.below e2⟩
theorem Tryz.KH.revoke {w0 w : World} {kb : Nat} {key : List UInt8} {n : Nu} {D D' : List (ByteArray × Int)} {As : List (Nat × Obj)} (x : {x : Tk // x.ok}) (h : Tryz.KH w0 w kb key n [(x, x.1.t)] (some x) D As) (t : ByteArray) (now : Int) (hn0 : 0 ≤ now) (hn1 : now ≤ 1000000000) (hx : max now n.latest < x.1.t) (hx0 : 0 < x.1.t) (hrt : Tryz.Rt t key (some x.1)) (hD : Tryz.Left D D' (max now n.latest)) :
    Calls Tryz.prog 13 #[.pointer (some ⟨kb, 0, none⟩), .string t, .int .i64 now] w fun e w' => e = .returned (.int .i64 0) ∧ Tryz.KH w0 w' kb key { n with latest := max now n.latest } [] none D' As := by
  obtain ⟨own, q1, q2, q3⟩ := h.ex
  exact (Tryz.revoke_good x q1 h.tqw t now hn0 hn1 hx hx0 hrt hD).mono fun e w' ⟨e1, e2⟩ => ⟨e1, h.chg q2 q3 e2⟩
theorem Tryz.KH.yes {w0 w : World} {kb : Nat} {key : List UInt8} {n : Nu} {L : List ({x : Tk // x.ok} × Int)} {o : Option {x : Tk // x.ok}} {D : List (ByteArray × Int)} {As : List (Nat × Obj)} {D' : List (ByteArray × Int)} (h : Tryz.KH w0 w kb key n L o D As) (hm : Se.Nu.May n) (hl0 : 0 ≤ n.latest) (hl1 : n.latest ≤ 1000000000) (u : ByteArray) (hu1 : 1 ≤ u.size) (hu2 : u.size ≤ 60) (now : Int) (hn0 : 0 ≤ now) (hn1 : now ≤ 1000000000)
    (hL : Tryz.Late L (max now n.latest)) (hD : Tryz.Left D D' (max now n.latest)) (hO : Se.Only u D') (hd0 : 0 ≤ Se.dueOf D') (hd1 : Se.dueOf D' ≤ 4000000000) (hq : Se.dueOf D' - (n.burst - 1) * n.rate - max now n.latest ≤ 0) :
    Calls Tryz.prog 10 #[.pointer (some ⟨kb, 0, none⟩), .string u, .int .i64 now] w fun e w' => e = .returned (.tuple #[.bool true, .int .i64 0]) ∧ Tryz.KH w0 w' kb key { n with latest := max now n.latest } L o [(u, max (Se.dueOf D') (max now n.latest) + n.rate)] As := by
  obtain ⟨own, q1, q2, q3⟩ := h.ex
  refine (Tryz.allow_in q1 hm hl0 hl1 u hu1 hu2 now hn0 hn1 hL hD hO hd0 hd1).mono fun e w' hh => ?_
  rw [if_neg (by omega)] at hh
  exact ⟨hh.1, h.chg q2 q3 hh.2⟩
theorem Tryz.KH.no {w0 w : World} {kb : Nat} {key : List UInt8} {n : Nu} {L : List ({x : Tk // x.ok} × Int)} {o : Option {x : Tk // x.ok}} {D : List (ByteArray × Int)} {As : List (Nat × Obj)} {D' : List (ByteArray × Int)} (h : Tryz.KH w0 w kb key n L o D As) (hm : Se.Nu.May n) (hl0 : 0 ≤ n.latest) (hl1 : n.latest ≤ 1000000000) (u : ByteArray) (hu1 : 1 ≤ u.size) (hu2 : u.size ≤ 60) (now : Int) (hn0 : 0 ≤ now) (hn1 : now ≤ 1000000000)
    (hL : Tryz.Late L (max now n.latest)) (hD : Tryz.Left D D' (max now n.latest)) (hO : Se.Only u D') (hd0 : 0 ≤ Se.dueOf D') (hd1 : Se.dueOf D' ≤ 4000000000) (hq : 0 < Se.dueOf D' - (n.burst - 1) * n.rate - max now n.latest) :
    Calls Tryz.prog 10 #[.pointer (some ⟨kb, 0, none⟩), .string u, .int .i64 now] w fun e w' => e = .returned (.tuple #[.bool false, .int .i64 (Se.dueOf D' - (n.burst - 1) * n.rate - max now n.latest)]) ∧ Tryz.KH w0 w' kb key { n with latest := max now n.latest } L o D' As := by
  obtain ⟨own, q1, q2, q3⟩ := h.ex
  refine (Tryz.allow_in q1 hm hl0 hl1 u hu1 hu2 now hn0 hn1 hL hD hO hd0 hd1).mono fun e w' hh => ?_
  rw [if_pos (by omega)] at hh
  exact ⟨hh.1, h.chg q2 q3 hh.2⟩
/-- What is read of a token's text under its own key. -/
theorem Tryz.rt_token (x : Tk) (hu0 : 1 ≤ x.u.size) (hu : x.u.size ≤ 60) (h1 : -9223372036854775808 ≤ x.n) (h2 : x.n ≤ 9223372036854775807) (h3 : -9223372036854775808 ≤ x.t) (h4 : x.t ≤ 9223372036854775807) (key : List UInt8) (hk : key.length ≤ 64) : Tryz.Rt (Se.Tk.text x key) key (some x) := fun W V hb hv hT => by
  have := Tryz.readText_token hT x hu0 hu h1 h2 h3 h4 key hb hv hk true (by simp)
  exact this
theorem Tryz.rt_short (t : ByteArray) (o : List UInt8) (ht : t.size ≤ 1000) (hd : (dec t.toList).1 = some o) (ho : o.length < 32) (key : List UInt8) : Tryz.Rt t key none := fun _W V _ _ _ => Tryz.readText_short t o ht hd ho V
/-- The token of the laws: of "@a". -/
def Se.ua : ByteArray := ⟨#[64, 97]⟩
theorem Se.ua_size : Se.ua.size = 2 := rfl
end Go.Proofs
