/-
  Laid together by merge.py of Il.
-/
import Derived.Test.YtlfiebapfgpchaaGreatDoorSqIk
namespace Go.Proofs
open Go.RowKit Go.Wi Go.Dg
theorem Dg.sofar_nil (R : List UInt8) : Dg.Sofar Dg.start R [] := ⟨Dg.small_start, rfl, rfl⟩
theorem Tryz.cellsQ {w : World} (h : Tryz.Tq w) : w.rangeAt 0 0 (Dg.wcells Dg.start.l) := fun j v hv => by
  have hj := (List.getElem?_eq_some_iff.1 hv).1
  rw [Dg.wcells_len] at hj
  rw [Nat.zero_add, h.sq j hj, ← hv]
  simp [Dg.wcells, List.getElem?_eq_getElem hj]
theorem Tryz.loadQ {w : World} (h : Tryz.Tq w) : (Instr.loadAt 157 (.pointer (some ⟨0, 0, none⟩))).run Tryz.prog w = .ok (.agg (Dg.wcells Dg.start.l).toArray) w :=
  run_loadAt_mid w _ 0 157 (Dg.wcells Dg.start.l) _ (Tryz.cellsQ h) Tryz.underlying157 rfl (by kernel_rfl)
set_option maxRecDepth 20000 in
set_option maxHeartbeats 1000000 in
theorem Tryz.new_any (w : World) (hT : Tryz.Tq w) :
    Calls Tryz.prog 81 #[] w fun e w' => e = .returned (.pointer (some ⟨w.heap.size, 0, none⟩)) ∧ Tryz.Hsh w' w.heap.size Dg.start (List.replicate 64 0) 0 ∧ Below w.heap.size w w' := by
  have HT : Hid _ := hT
  clear hT
  go_enter Tryz.func81, Tryz.ntmps81
  go_upto_region 1 with (fail)
  refine wp_region_lit ?_
  refine Dg.step_value rfl (v := .agg (Dg.wcells Dg.start.l).toArray) (w' := w) (by have ld := Tryz.loadQ HT.out; exact Dg.run_load rfl rfl ld) ?_
  try simp only [Act.put, List.setIfInBounds_toArray, List.set_cons_zero, List.set_cons_succ]
  refine Dg.step_value rfl (v := .agg (Dg.hcells Dg.start (List.replicate 64 0) 0).toArray) (w' := w) (by kernel_rfl) ?_
  try simp only [Act.put, List.setIfInBounds_toArray, List.set_cons_zero, List.set_cons_succ]
  refine Dg.step_value rfl (v := .pointer (some ⟨w.heap.size, 0, none⟩)) (w' := w.alloc (.cells (Dg.hcells Dg.start (List.replicate 64 0) 0).toArray 160)) (by kernel_rfl) ?_
  try simp only [Act.put, List.setIfInBounds_toArray, List.set_cons_zero, List.set_cons_succ]
  go_wp2
  go_ret
  exact ⟨rfl, ⟨heap_alloc_new w _, by simp⟩, (Below.refl _ w).alloc (Nat.le_refl _) _⟩
theorem Tryz.size73 (cs : List Value) (h : cs.length = 73) : (Tryz.prog.info? 160).map (·.size) = some cs.length := by
  have : (Tryz.prog.info? 160).map (·.size) = some 73 := by kernel_rfl
  rw [this, h]
theorem Tryz.Hsh.load {w : World} {g : Nat} {s : S8} {R : List UInt8} {c : Nat} (h : Tryz.Hsh w g s R c) : (Instr.loadAt 160 (.pointer (some ⟨g, 0, none⟩))).run Tryz.prog w = .ok (.agg (Dg.hcells s R c).toArray) w :=
  run_loadAt_mid w g 0 160 (Dg.hcells s R c) _ (fun j v hv => by rw [h.at, Nat.zero_add]; exact hv) Tryz.underlying160 rfl (Tryz.size73 _ h.len)
theorem Dg.hcells_one (s : S8) (R : List UInt8) (c : Nat) : ((Dg.hcells s R c).toArray).all (·.oneCell') = true := by
  simp [Dg.hcells, Dg.wcells, Lib.byteCells, Value.oneCell']
theorem Tryz.over32 {w : World} {g : Nat} {l0 : List UInt8} (h : Dg.Br 102 w g l0) (h0 : l0.length = 32) (l : List UInt8) (hl : l.length = 32) : (storeCells ⟨g, 0, none⟩ (Lib.byteCells l) 0).run Tryz.prog w = .ok () (w.setRow g (Lib.byteCells l).toArray) := by
  have := run_storeCells_from (P := Tryz.prog) g 102 (Lib.byteCells l) 0 _ w h (by simp [Lib.byteCells, h0, hl]) (fun v hv => by
    simp only [Lib.byteCells, List.mem_map] at hv
    obtain ⟨n, _, rfl⟩ := hv
    rfl)
  simpa [Lib.byteCells, h0, hl] using this
set_option maxRecDepth 20000 in
set_option maxHeartbeats 1000000 in
theorem Tryz.sumH_any {w : World} {g : Nat} {s : S8} {R l : List UInt8} (hT : Tryz.Tq w) (h : Tryz.Hsh w g s R l.length) (hl : Dg.Sofar s R l) (hc : l.length ≤ 900000000000000) :
    Calls Tryz.prog 72 #[.pointer (some ⟨g, 0, none⟩)] w fun e w' => e = .returned (.agg (Lib.byteCells (Dg.sum l)).toArray) ∧ Below w.heap.size w w' := by
  have HT : Hid _ := hT
  have HH : Hid _ := h
  have HL : Hid _ := hl
  obtain ⟨c, hcl⟩ : ∃ c, c = l.length := ⟨_, rfl⟩
  have HC : Hid (c = l.length) := hcl
  rw [← hcl] at HH hc
  clear hT h hl hcl
  go_enter Tryz.func72, Tryz.ntmps72
  go_upto_region 1 with (fail)
  obtain ⟨wa, hwa⟩ : ∃ wa, wa = w.alloc (.cells (Lib.byteCells (List.replicate 32 0)).toArray 102) := ⟨_, rfl⟩
  have hsa : wa.heap.size = w.heap.size + 1 := by rw [hwa]; simp only [World.size_alloc]
  have HA : Hid (Dg.Br 102 wa w.heap.size (List.replicate 32 0) ∧ Below w.heap.size w wa ∧ Tryz.Hsh wa g s R c) := by
    have hb : Below w.heap.size w wa := by rw [hwa]; exact (Below.refl _ w).alloc (Nat.le_refl _) _
    exact ⟨by rw [hwa]; exact heap_alloc_new w _, hb, HH.out.keep (hb.block _ HH.out.lt)⟩
  have ew : w.alloc (.cells (Lib.byteCells (List.replicate 32 0)).toArray 102) = wa := hwa.symm
  have Hew : Hid _ := ew
  clear hwa ew
  refine wp_region_lit ?_
  refine Dg.step_value rfl (v := .pointer (some ⟨g, 0, none⟩)) (w' := wa) (by rw [← Hew.out]; kernel_rfl) ?_
  try simp only [Act.put, List.setIfInBounds_toArray, List.set_cons_zero, List.set_cons_succ]
  refine Dg.step_value rfl (v := .pointer (some ⟨g, 0, none⟩)) (w' := wa) (by kernel_rfl) ?_
  try simp only [Act.put, List.setIfInBounds_toArray, List.set_cons_zero, List.set_cons_succ]
  refine Dg.step_value rfl (v := .agg (Dg.hcells s R c).toArray) (w' := wa) (by have ld := HA.out.2.2.load; exact Dg.run_load rfl rfl ld) ?_
  try simp only [Act.put, List.setIfInBounds_toArray, List.set_cons_zero, List.set_cons_succ]
  refine Dg.step_value rfl (v := .pointer (some ⟨wa.heap.size, 0, none⟩)) (w' := wa.alloc (.cells (Dg.hcells ⟨0, 0, 0, 0, 0, 0, 0, 0⟩ (List.replicate 64 0) 0).toArray 160)) (by kernel_rfl) ?_
  try simp only [Act.put, List.setIfInBounds_toArray, List.set_cons_zero, List.set_cons_succ]
  refine Dg.step_skip rfl (w' := wa.alloc (.cells (Dg.hcells s R c).toArray 160)) (by have st := run_storeAt_new (P := Tryz.prog) wa 160 (Dg.hcells ⟨0, 0, 0, 0, 0, 0, 0, 0⟩ (List.replicate 64 0) 0).toArray (Dg.hcells s R c).toArray (Tryz.size73 _ HA.out.2.2.len) (by have := HA.out.2.2.len; simp only [List.size_toArray]; rw [this]; rfl) (Dg.hcells_one s R c); exact Dg.run_store rfl rfl rfl st) ?_
  try simp only [Act.put]
  obtain ⟨wb, hwb⟩ : ∃ wb, wb = wa.alloc (.cells (Dg.hcells s R c).toArray 160) := ⟨_, rfl⟩
  have hsb : wb.heap.size = w.heap.size + 1 + 1 := by rw [hwb]; simp only [World.size_alloc, hsa]
  have HB : Hid (Tryz.Hsh wb (w.heap.size + 1) s R c ∧ Dg.Br 102 wb w.heap.size (List.replicate 32 0) ∧ Below w.heap.size w wb) := by
    have hb : Below wa.heap.size wa wb := by rw [hwb]; exact (Below.refl _ wa).alloc (Nat.le_refl _) _
    refine ⟨⟨?_, HH.out.r⟩, HA.out.1.keep (hb.block _ (by omega)), HA.out.2.1.trans (hb.mono (by omega))⟩
    rw [hwb, ← hsa]
    exact heap_alloc_new wa _
  rw [← hwb, hsa]
  have Hsz : Hid (wb.heap.size = w.heap.size + 1 + 1) := hsb
  clear hwb hsa hsb HA Hew
  have hTb : Tryz.Tq wb := HT.out.below HB.out.2.2 HT.out.sz
  have HTb : Hid _ := hTb
  have ct : wb.cell? ⟨g, 72, none⟩ = some (.int .u64 (c : Int)) := (HH.out.keep (HB.out.2.2.block _ HH.out.lt)).ct
  have hend := Tryz.ending_any c (by omega) wb
  clear hTb
  go_upto_region 3 with (fail)
  refine hend.mono ?_
  clear hend
  rintro z wc ⟨cap, rfl, ho, hb⟩
  have HO : Hid _ := ho
  have HBc : Hid _ := hb
  clear ho hb
  have hwr := Tryz.write_any (w := wc) (g := w.heap.size + 1) (b := Dg.tail c) (l := l) (HTb.out.below HBc.out HTb.out.sz) (by have := HT.out.sz; omega) (by have h1 := HB.out.1.keep (HBc.out.block (w.heap.size + 1) (by have := Hsz.out; omega)); rw [HC.out] at h1; exact h1) HL.out (Ob.bs HO.out) (by intro e; have h1 := (Ob.lt HO.out _ e).1; have := Hsz.out; omega) (by rw [Dg.tail_len, ← HC.out]; omega)
  go_upto_region 3 with (first
    | (go_at_call 71; refine hwr.mono ?_; clear hwr; rintro z wd ⟨rfl, s', R', hh, hs', ho⟩; have HD : Hid (Tryz.Hsh wd (w.heap.size + 1) s' R' (l.length + (Dg.tail c).length) ∧ Dg.Sofar s' R' (l ++ Dg.tail c) ∧ Wo (fun j => j = w.heap.size + 1) wc wd) := ⟨hh, hs', ho⟩; clear hh hs' ho)
    | fail)
  refine wp_region_lit ?_
  refine Dg.step_value rfl (v := .pointer (some ⟨w.heap.size + 1, 0, none⟩)) (w' := wd) (by kernel_rfl) ?_
  try simp only [Act.put, List.setIfInBounds_toArray, List.set_cons_zero, List.set_cons_succ]
  refine Dg.step_value rfl (v := .agg (Dg.wcells s'.l).toArray) (w' := wd) (by have ld := HD.out.1.loadS; exact Dg.run_load rfl rfl ld) ?_
  try simp only [Act.put, List.setIfInBounds_toArray, List.set_cons_zero, List.set_cons_succ]
  have hby := Tryz.bytes_any s' HD.out.2.1.small wd
  have HS : Hid (out s' = Dg.sum l) := by
    show out s' = out _
    have h1 := HD.out.2.1.s
    rw [HC.out, ← Dg.fill_tail] at h1
    rw [h1]
  rw [HS.out] at hby
  obtain ⟨M, hM⟩ : ∃ M, M = Dg.sum l := ⟨_, rfl⟩
  have hMl : M.length = 32 := by rw [hM, ← HS.out]; exact Dg.out_len s'
  rw [← hM] at hby
  have HM : Hid (M = Dg.sum l) := hM
  clear hM HS
  go_wp2_with (fail)
  refine hby.mono ?_
  clear hby
  rintro z we ⟨rfl, hbe⟩
  have HE : Hid (Below w.heap.size w wd ∧ Dg.Br 102 wd w.heap.size (List.replicate 32 0)) := by
    have o1 : Wo (fun j => j = w.heap.size + 1) wb wd := (Wo.ofBelow (own := fun j => j = w.heap.size + 1) HBc.out).trans HD.out.2.2
    have hz := Hsz.out
    exact ⟨Wo.toBelow HB.out.2.2 o1 (fun k e => by rw [e]; omega) (by omega), HB.out.2.1.keep (o1.block _ (by omega) (by omega))⟩
  have hszd : w.heap.size + 1 ≤ wd.heap.size := by have h1 := HE.out.2.lt; omega
  have hbr : Dg.Br 102 we w.heap.size (List.replicate 32 0) := HE.out.2.keep (hbe.block _ (by omega))
  have HBR : Hid _ := hbr
  have st := Tryz.over32 hbr (by simp) M hMl
  have l32 : (Lib.byteCells M).length = 32 := by rw [byteCells_len]; exact hMl
  have HBE : Hid _ := hbe
  clear hbr hbe
  go_wp2
  refine bodyPost_ret (results_cell_row rfl _ _ w.heap.size _ _ _ _ rfl (Dg.Br.setRow HBR.out M) Tryz.underlying102 rfl (Tryz.size32 M hMl)) rfl ⟨by rw [HM.out], below_setRow (HE.out.1.trans (HBE.out.mono (by omega))) (Nat.le_refl _) _⟩
set_option maxRecDepth 20000 in
set_option maxHeartbeats 1000000 in
theorem Tryz.sum_any {w : World} {b : List UInt8} {V : Value} (hT : Tryz.Tq w) (hb : Bs w V b) (hv : ∀ k, V.ownBlock = some k → k < w.heap.size) (hc : b.length ≤ 900000000000000) :
    Calls Tryz.prog 69 #[V] w fun e w' => e = .returned (.agg (Lib.byteCells (Dg.sum b)).toArray) ∧ Below w.heap.size w w' := by
  obtain ⟨ad, cap, rfl, hcap, hnil, hbx⟩ := hb.ex
  have HT : Hid _ := hT
  have HBs : Hid _ := hb
  obtain ⟨L, hL⟩ : ∃ L, L = b.length := ⟨_, rfl⟩
  have HL : Hid (L = b.length) := hL
  rw [← hL] at HBs hv ⊢
  have HV : Hid _ := hv
  obtain ⟨M, hM⟩ : ∃ M, M = Dg.sum b := ⟨_, rfl⟩
  have hMl : M.length = 32 := by rw [hM]; exact Dg.sum_len b
  have HM : Hid (M = Dg.sum b) := hM
  clear hT hb hbx hnil hcap hL hM hv
  go_enter Tryz.func69, Tryz.ntmps69
  go_upto_region 1 with (fail)
  obtain ⟨wa, hwa⟩ : ∃ wa, wa = w.alloc (.cells (Lib.byteCells (List.replicate 32 0)).toArray 102) := ⟨_, rfl⟩
  have hsa : wa.heap.size = w.heap.size + 1 := by rw [hwa]; simp only [World.size_alloc]
  have HA : Hid (Dg.Br 102 wa w.heap.size (List.replicate 32 0) ∧ Below w.heap.size w wa) := by
    rw [hwa]
    exact ⟨heap_alloc_new w _, (Below.refl _ w).alloc (Nat.le_refl _) _⟩
  have hnew := Tryz.new_any wa (HT.out.below HA.out.2 HT.out.sz)
  rw [hsa] at hnew
  have ew : w.alloc (.cells (Lib.byteCells (List.replicate 32 0)).toArray 102) = wa := hwa.symm
  have Hew : Hid _ := ew
  have Hsa : Hid (wa.heap.size = w.heap.size + 1) := hsa
  clear hwa ew hsa
  refine wp_region_lit ?_
  show wpList _ _ _ _ _ (w.alloc (.cells (Lib.byteCells (List.replicate 32 0)).toArray 102))
  rw [Hew.out]
  go_upto_region 2 with (first | (go_at_call 81; refine hnew.mono ?_; clear hnew; rintro z wb ⟨rfl, hh, hbb⟩; have HB : Hid (Tryz.Hsh wb (w.heap.size + 1) Dg.start (List.replicate 64 0) 0 ∧ Below (w.heap.size + 1) wa wb) := ⟨hh, hbb⟩; clear hh hbb) | fail)
  have HB2 : Hid (Below w.heap.size w wb ∧ Dg.Br 102 wb w.heap.size (List.replicate 32 0) ∧ Tryz.Tq wb ∧ Bs wb (.slice ad L cap) b ∧ (Value.slice ad L cap).ownBlock ≠ some (w.heap.size + 1)) := by
    have hb1 : Below w.heap.size w wb := HA.out.2.trans (HB.out.2.mono (by omega))
    exact ⟨hb1, HA.out.1.keep (HB.out.2.block _ (by omega)), HT.out.below hb1 HT.out.sz, HBs.out.below hb1 HV.out, fun e => by have := HV.out _ e; omega⟩
  have hwr := Tryz.write_any (w := wb) (g := w.heap.size + 1) (l := []) HB2.out.2.2.1 (by have := HT.out.sz; omega) HB.out.1 (Dg.sofar_nil _) HB2.out.2.2.2.1 HB2.out.2.2.2.2 (by simp; omega)
  rw [List.length_nil, Nat.zero_add, List.nil_append] at hwr
  go_upto_region 3 with (first
    | (go_at_call 71; refine hwr.mono ?_; clear hwr; rintro z wd ⟨rfl, s', R', hh, hs', ho⟩; have HD : Hid (Tryz.Hsh wd (w.heap.size + 1) s' R' b.length ∧ Dg.Sofar s' R' b ∧ Wo (fun j => j = w.heap.size + 1) wb wd) := ⟨hh, hs', ho⟩; clear hh hs' ho)
    | fail)
  have HE : Hid (Below w.heap.size w wd ∧ Dg.Br 102 wd w.heap.size (List.replicate 32 0)) := by
    have h1 := HB2.out.2.1.lt
    exact ⟨Wo.toBelow HB2.out.1 HD.out.2.2 (fun k e => by rw [e]; omega) (by omega), HB2.out.2.1.keep (HD.out.2.2.block _ h1 (by omega))⟩
  have hsm := Tryz.sumH_any (w := wd) (g := w.heap.size + 1) (HT.out.below HE.out.1 HT.out.sz) HD.out.1 HD.out.2.1 hc
  rw [← HM.out] at hsm
  go_wp2_with (fail)
  refine hsm.mono ?_
  clear hsm
  rintro z we ⟨rfl, hbe⟩
  have hszd : w.heap.size + 1 ≤ wd.heap.size := by have h1 := HE.out.2.lt; omega
  have hbr : Dg.Br 102 we w.heap.size (List.replicate 32 0) := HE.out.2.keep (hbe.block _ (by omega))
  have HBR : Hid _ := hbr
  have st := Tryz.over32 hbr (by simp) M hMl
  have l32 : (Lib.byteCells M).length = 32 := by rw [byteCells_len]; exact hMl
  have HBE : Hid _ := hbe
  clear hbr hbe
  go_wp2
  refine bodyPost_ret (results_cell_row rfl _ _ w.heap.size _ _ _ _ rfl (Dg.Br.setRow HBR.out M) Tryz.underlying102 rfl (Tryz.size32 M hMl)) rfl ⟨by rw [HM.out], below_setRow (HE.out.1.trans (HBE.out.mono (by omega))) (Nat.le_refl _) _⟩
end Go.Proofs
