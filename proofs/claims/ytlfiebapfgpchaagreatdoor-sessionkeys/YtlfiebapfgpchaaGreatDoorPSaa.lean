/-
  Laid together by pack.py of Saa.
-/
import Derived.Test.YtlfiebapfgpchaaGreatDoorPkY
namespace Go.Proofs
open Go.RowKit Go.Wi Go.Se Go.Ct Go.Dg
set_option maxRecDepth 20000 in
theorem Tryz.sl_upto {gb ob N cap m : Nat} (hm : m ≤ cap) (W : World) : (Instr.sliceAt 29 (.slice (some ⟨gb, ob, none⟩) N cap) none (some (.int .i64 (m : Int))) none).run Tryz.prog W = .ok (.slice (some ⟨gb, ob, none⟩) m cap) W := by
  have h1 : (m : Int) ≤ cap := by omega
  rw [run_sliceAt_slice (P := Tryz.prog) (w := W) 29 _ _ _ _ Tryz.underlying29, run_slice_h (P := Tryz.prog) (w := W) (ht := Tryz.underlying29) (kh := .i64) (h := m) (h0 := by omega) (h2 := h1)]
  have h2 : Tryz.prog.elem 29 = 5 := by kernel_rfl
  rw [h2, Tryz.szu8 W]
  simp [Result.andThen, sliced, Addr.add_mid]
/-- A part of a row of bytes. -/
theorem Se.bs_part {w : World} {G C : Nat} {a b : List UInt8} (h : Bs w (.slice (some ⟨G, 0, none⟩) (a ++ b).length C) (a ++ b)) : Bs w (.slice (some ⟨G, 0, none⟩) a.length C) a ∧ (0 < b.length → Bs w (.slice (some ⟨G, a.length, none⟩) b.length (C - a.length)) b) := by
  obtain ⟨ad, cap, e, hc, hn, hx⟩ := h.ex
  injection e with e1 e2 e3
  subst e1 e3
  rw [List.length_append] at hc
  have hcell : ∀ j u, (Lib.byteCells (a ++ b))[j]? = some u → G < w.heap.size ∧ w.cell? ⟨G, j, none⟩ = some u := fun j u hu => by
    rcases hx with hx | ⟨g, o, e, hg, hx⟩
    · rw [hx] at hu; simp [Lib.byteCells] at hu
    · cases e
      have := hx j u hu
      rw [Nat.zero_add] at this
      exact ⟨hg, this⟩
  refine ⟨⟨_, _, rfl, by omega, (fun e => by cases e), ?_⟩, fun hb => ⟨_, _, rfl, by omega, (fun e => by cases e), ?_⟩⟩
  · by_cases ha : a = []
    · exact .inl ha
    · have h0 : (Lib.byteCells (a ++ b))[0]? = some (.int .u8 ((a ++ b)[0]'(by have := List.length_pos_iff.2 ha; rw [List.length_append]; omega)).toNat) := Wi.byteCell _
      refine .inr ⟨G, 0, rfl, (hcell 0 _ h0).1, fun j u hu => ?_⟩
      rw [Nat.zero_add]
      refine (hcell j u ?_).2
      rw [byteCells_app, List.getElem?_append_left (by exact (List.getElem?_eq_some_iff.1 hu).1)]
      exact hu
  · have h0 : (Lib.byteCells (a ++ b))[0]? = some (.int .u8 ((a ++ b)[0]'(by rw [List.length_append]; omega)).toNat) := Wi.byteCell _
    refine .inr ⟨G, a.length, rfl, (hcell 0 _ h0).1, fun j u hu => (hcell (a.length + j) u ?_).2⟩
    rw [byteCells_app, List.getElem?_append_right (by rw [byteCells_len]; omega), byteCells_len, Nat.add_sub_cancel_left]
    exact hu
theorem Tryz.sl_last {G N C L : Nat} (hL : L + 32 = N) (hC : N ≤ C) (W : World) : (Instr.sliceAt 29 (.slice (some ⟨G, 0, none⟩) N C) (some (.int .i64 (L : Int))) none none).run Tryz.prog W = .ok (.slice (some ⟨G, L, none⟩) 32 (C - L)) W := by
  rw [Tryz.sl_from (by omega) W, if_neg (by omega)]
  simp [Addr.add_mid, ← hL]
set_option maxHeartbeats 8000000 in
set_option maxRecDepth 4000 in
theorem Tryz.readText_token {w : World} (hT : Tryz.Tq w) (x : Tk) (hu0 : 1 ≤ x.u.size) (hu : x.u.size ≤ 60) (h1 : -9223372036854775808 ≤ x.n) (h2 : x.n ≤ 9223372036854775807) (h3 : -9223372036854775808 ≤ x.t) (h4 : x.t ≤ 9223372036854775807) (key2 : List UInt8) {U : Value} {key : List UInt8} (hk : Bs w U key) (hku : ∀ k, U.ownBlock = some k → k < w.heap.size) (hkl : key.length ≤ 64) (B : Bool) (hB : B = decide (Dg.mac key x.said = Dg.mac key2 x.said)) :
    Calls Tryz.prog 55 #[.string (Se.Tk.text x key2), U] w fun e w' => Tryz.Got w (if B then some x else none) 170 e w' := by
  have hsl := Se.said_len x hu h1 h2 h3 h4
  obtain ⟨M2, hM2⟩ : ∃ M, M = Dg.mac key2 x.said := ⟨_, rfl⟩
  have hM2l : M2.length = 32 := by rw [hM2]; exact Dg.mac_len _ _
  obtain ⟨t, ht⟩ : ∃ t, t = Se.Tk.text x key2 := ⟨_, rfl⟩
  have htl : t.toList = enc (x.said ++ M2) := by
    rw [ht, hM2, ByteArray.toList_eq]
    rfl
  have hd : (dec t.toList).1 = some (x.said ++ M2) := by rw [htl, dec_enc]
  have htz : t.size ≤ 300000000000000 := by
    have h5 := Dg.list_len t
    rw [htl] at h5
    obtain ⟨vs, p, g1, g2, g3, g4, g5⟩ := enc_vals (x.said ++ M2)
    rw [g1, List.length_map] at h5
    rw [List.length_append] at g4
    omega
  obtain ⟨W1, hW1⟩ : ∃ W, W = w.alloc (.cells #[.string ⟨#[]⟩, .int .i64 0, .int .i64 0] 58) := ⟨_, rfl⟩
  have hb1 : Below w.heap.size w W1 := by rw [hW1]; exact (Below.refl w.heap.size w).alloc (Nat.le_refl _) _
  have hn1 : Tryz.Zb W1 w.heap.size := by rw [hW1]; exact heap_alloc_new w _
  have HW : Hid (w.alloc (.cells #[.string ⟨#[]⟩, .int .i64 0, .int .i64 0] 58) = W1) := hW1.symm
  have hdec : Calls Tryz.prog 73 #[.string t] W1 fun e w' => ∃ C, e = .returned (.tuple #[.slice (some ⟨W1.heap.size, 0, none⟩) (x.said ++ M2).length C, .nilIface]) ∧ Ob w' W1.heap.size (.slice (some ⟨W1.heap.size, 0, none⟩) (x.said ++ M2).length C) (x.said ++ M2) ∧ Below W1.heap.size W1 w' := (Tryz.dec_any t (by omega) W1).mono fun e w' h => by
    rcases h.r with ⟨o', C, q1, q2, q3⟩ | ⟨g, q1, _⟩
    · rw [hd] at q1
      cases q1
      exact ⟨C, q2, q3, h.b⟩
    · rw [hd] at q1
      cases q1
  rw [← ht]
  obtain ⟨L, hL⟩ : ∃ L, L = x.said.length := ⟨_, rfl⟩
  obtain ⟨N, hN⟩ : ∃ N, N = (x.said ++ M2).length := ⟨_, rfl⟩
  have hNL : L + 32 = N := by rw [hN, hL, List.length_append, hM2l]
  have HL : Hid (L = x.said.length) := hL
  have HN : Hid (N = (x.said ++ M2).length) := hN
  rw [← hN] at hdec
  have hNi : ¬ ((N : Nat) : Int) < 32 := by omega
  have kw : IntKind.i64.wrap ((N : Int) - 32) = (L : Int) := by rw [Se.wrap_in _ (by omega) (by omega)]; omega
  have HNL : Hid (L + 32 = N) := hNL
  have HT : Hid _ := hT
  have HK : Hid (Bs w U key) := hk
  have HKU : Hid (∀ k, U.ownBlock = some k → k < w.heap.size) := hku
  obtain ⟨ad, cap, rfl, _⟩ := hk.ex
  generalize hKL : key.length = KL at *
  have hLb : L ≤ 90 := by omega
  clear hW1 hd htl ht htz hk hku hL hN hNL hT
  go_enter Tryz.func55, Tryz.ntmps55
  go_upto_region 1 with (fail)
  rw [HW.out]
  go_upto_region 6 with (first
    | (go_at_call 73; refine hdec.mono ?_; clear hdec; rintro e w2 ⟨C, rfl, ho2, hb2⟩)
    | fail)
  have hbs2 := ho2.bs
  have hC : N ≤ C := by
    obtain ⟨ad', cap', e, hc, _⟩ := hbs2.ex
    injection e with e1 e2 e3
    subst e3
    rw [HN.out]
    exact hc
  have s1 := fun W => Tryz.sl_upto (gb := W1.heap.size) (ob := 0) (N := N) (cap := C) (m := L) (by have := HNL.out; omega) W
  have s2 := fun W => Tryz.sl_last (G := W1.heap.size) HNL.out hC W
  go_quiet (fail)
  generalize nq = n1
  clear s1 s2
  have hbL : Bs (w2.drewN n1) (.slice (some ⟨W1.heap.size, 0, none⟩) L C) x.said := by
    have := (Se.bs_part (by rw [← HN.out]; exact hbs2)).1
    rw [← HL.out] at this
    exact this.keep fun _ _ => rfl
  have hbS : Bs (w2.drewN n1) (.slice (some ⟨W1.heap.size, L, none⟩) 32 (C - L)) M2 := by
    have := (Se.bs_part (by rw [← HN.out]; exact hbs2)).2 (by omega)
    rw [← HL.out, hM2l] at this
    exact this.keep fun _ _ => rfl
  have hG2 : W1.heap.size < w2.heap.size := (ho2.lt _ rfl).2
  have hz2 : Tryz.Zb (w2.drewN n1) w.heap.size := (hb2.block _ (block_lt hn1)).trans hn1
  have hbw2 : Below w.heap.size w (w2.drewN n1) := belowN (hb1.trans (hb2.mono hb1.size)) n1
  have hrb := Tryz.readBytes_said (w := w2.drewN n1) x hu0 hu h1 h2 h3 h4 hbL (fun k e => by cases e; exact hG2)
  have HZ2 : Hid (Tryz.Zb (w2.drewN n1) w.heap.size) := hz2
  have HBS : Hid (Bs (w2.drewN n1) (.slice (some ⟨W1.heap.size, L, none⟩) 32 (C - L)) M2) := hbS
  have HBL : Hid (Bs (w2.drewN n1) (.slice (some ⟨W1.heap.size, 0, none⟩) L C) x.said) := hbL
  have HBW : Hid (Below w.heap.size w (w2.drewN n1)) := hbw2
  have hG2' : W1.heap.size < (w2.drewN n1).heap.size := hG2
  clear hz2 hbL hbS hbw2 ho2 hbs2 hb2 hn1 hb1 HW hG2
  generalize w2.drewN n1 = w2d at *
  go_upto_region 10 with (first
    | (go_at_call 74; refine hrb.mono ?_; clear hrb; rintro e w3 ⟨rfl, hb3⟩)
    | fail)
  obtain ⟨w4, hw4⟩ : ∃ w4, w4 = w3.alloc (.cells #[.string x.u, .int .i64 x.n, .int .i64 x.t] 58) := ⟨_, rfl⟩
  have hb4 : Below w2d.heap.size w2d w4 := by rw [hw4]; exact hb3.alloc hb3.size _
  have hn4 : w4.heap[w3.heap.size]? = some (.cells #[.string x.u, .int .i64 x.n, .int .i64 x.t] 58 (0, 0)) := by rw [hw4]; exact heap_alloc_new w3 _
  rw [← hw4]
  have hs2w : w.heap.size ≤ w2d.heap.size := HBW.out.size
  have hs4 : w2d.heap.size ≤ w4.heap.size := hb4.size
  have hbw4 : Below w.heap.size w w4 := HBW.out.trans (hb4.mono hs2w)
  obtain ⟨M, hM⟩ : ∃ M, M = Dg.mac key x.said := ⟨_, rfl⟩
  have hMl : M.length = 32 := by rw [hM]; exact Dg.mac_len _ _
  have l32 : (Lib.byteCells M).length = 32 := by rw [byteCells_len]; exact hMl
  have hm := Tryz.mac_any (w := w4) (HT.out.below hbw4 HT.out.sz) (HK.out.below hbw4 HKU.out) (fun k e => by have := HKU.out k e; omega) (by omega) (HBL.out.below hb4 (fun k e => by cases e; exact hG2')) (fun k e => by cases e; show W1.heap.size < _; omega) (by omega)
  rw [← hM] at hm
  rw [← hM, ← hM2] at hB
  have hl4 := block_lt hn4
  have hR4 : w.heap.size < w2d.heap.size := block_lt HZ2.out
  clear hw4 hM hM2 hb3
  go_upto_region 11 with (first
    | (go_at_call 53; refine hm.mono ?_; clear hm; rintro z w5 ⟨rfl, hb5⟩; have HB5 : Hid (Below w4.heap.size w4 w5) := hb5; clear hb5; have st := Tryz.new32 w5 M hMl)
    | fail)
  obtain ⟨w6, hw6⟩ : ∃ w6, w6 = w5.alloc (.cells (Lib.byteCells M).toArray 102) := ⟨_, rfl⟩
  have hb6 : Below w5.heap.size w5 w6 := by rw [hw6]; exact (Below.refl _ w5).alloc (Nat.le_refl _) _
  have hg6 : Dg.Br 102 w6 w5.heap.size M := by rw [hw6]; exact heap_alloc_new w5 _
  rw [← hw6]
  have hs5 : w4.heap.size ≤ w5.heap.size := HB5.out.size
  have hb46 : Below w4.heap.size w4 w6 := HB5.out.trans (hb6.mono hs5)
  have hb26 : Below w2d.heap.size w2d w6 := hb4.trans (hb46.mono hs4)
  have hsl6 := Tryz.sl32 w5.heap.size w6
  have hbM := hg6.bs 32 32 (by omega) (Nat.le_refl _)
  rw [List.take_of_length_le (by omega)] at hbM
  have hsm := Tryz.same_any' (w := w6) hbM (HBS.out.below hb26 (fun k e => by cases e; exact hG2')) (by omega)
  rw [← hB] at hsm
  have hn6 : w6.heap[w3.heap.size]? = _ := (hb46.block _ hl4).trans hn4
  have hz6 : Tryz.Zb w6 w.heap.size := (hb26.block _ hR4).trans HZ2.out
  have hbw6 : Below w.heap.size w w6 := HBW.out.trans (hb26.mono hs2w)
  clear hw6 st hg6 hbM HB5 hb6 hb4 hn4 hB kw hC hNi hsl hMl l32 hM2l hLb hkl h1 h2 h3 h4 hu hu0 hs4 hs5 hs2w hb46 hb26 hbw4 hl4 hR4 hG2'
  cases B
  · have hfin : ∀ m, Below w.heap.size w (w6.drewN m) ∧ Tryz.Zb (w6.drewN m) w.heap.size := fun m => ⟨belowN hbw6 m, hz6⟩
    have HF : Hid _ := hfin
    clear hfin hz6 hbw6
    go_upto_region 12 with (first
      | (go_at_call 75; refine hsm.mono ?_; clear hsm; rintro z w7 ⟨rfl, m7, rfl⟩)
      | fail)
    have hF7 := HF.out m7
    generalize w6.drewN m7 = w7 at *
    obtain ⟨c0, f0, c1, f1, c2, f2⟩ := Tryz.Zb.cells hF7.2
    have hl7 : w.heap.size < w7.heap.size := block_lt hF7.2
    have HF7 : Hid _ := hF7
    clear hF7
    go_wp2
    obtain ⟨z1, z2, z3⟩ := Tryz.Zb.done HF7.out.2 HF7.out.1 (Nat.le_refl _) 170 ⟨#[105, 116, 115, 32, 115, 117, 109, 32, 105, 115, 32, 97, 110, 111, 116, 104, 101, 114, 32, 111, 110, 101]⟩
    refine bodyPost_ret (Se.results_ct rfl _ _ w.heap.size _ _ _ _ rfl z1 Tryz.underlying58 rfl Tryz.infoTok) rfl ⟨z3, w7.heap.size, rfl, z2, HF7.out.1.size⟩
  · have d0 : w6.cell? ⟨w3.heap.size, 0, none⟩ = some (.string x.u) := cell_of_row w6 _ 0 _ _ _ hn6
    have d1 : w6.cell? ⟨w3.heap.size, 1, none⟩ = some (.int .i64 x.n) := cell_of_row w6 _ 1 _ _ _ hn6
    have d2 : w6.cell? ⟨w3.heap.size, 2, none⟩ = some (.int .i64 x.t) := cell_of_row w6 _ 2 _ _ _ hn6
    have e0 : w6.cell? ⟨w.heap.size, 0, none⟩ = some (.string ⟨#[]⟩) := cell_of_row w6 _ 0 _ _ _ hz6
    have e1 : w6.cell? ⟨w.heap.size, 1, none⟩ = some (.int .i64 0) := cell_of_row w6 _ 1 _ _ _ hz6
    have e2 : w6.cell? ⟨w.heap.size, 2, none⟩ = some (.int .i64 0) := cell_of_row w6 _ 2 _ _ _ hz6
    have g0 := frozen_of_row w6 w.heap.size 0 _ _ hz6
    have g1 := frozen_of_row w6 w.heap.size 1 _ _ hz6
    have g2 := frozen_of_row w6 w.heap.size 2 _ _ hz6
    have HZ6 : Hid (Tryz.Zb w6 w.heap.size) := hz6
    clear hz6 hn6
    go_wp2_with (first
      | (go_at_call 75; refine hsm.mono ?_; clear hsm; rintro z w7 ⟨rfl, m7, rfl⟩)
      | fail)
    have z1 := heap_setCell_same (w6.drewN m7) w.heap.size 0 _ _ (.string x.u) HZ6.out
    have z2 := heap_setCell_same _ w.heap.size 1 _ _ (.int .i64 x.n) z1
    have z3 := heap_setCell_same _ w.heap.size 2 _ _ (.int .i64 x.t) z2
    refine bodyPost_ret (Se.results_ct rfl _ _ w.heap.size _ _ _ _ rfl z3 Tryz.underlying58 rfl Tryz.infoTok) rfl ⟨?_, rfl⟩
    exact Se.belowS (Se.belowS (Se.belowS (belowN hbw6 _) _ 0 _ (Nat.le_refl _)) _ 1 _ (Nat.le_refl _)) _ 2 _ (Nat.le_refl _)
end Go.Proofs
