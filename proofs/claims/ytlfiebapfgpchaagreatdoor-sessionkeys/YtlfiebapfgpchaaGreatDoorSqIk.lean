/-
  Laid together by merge.py of Ik.
-/
import Derived.Test.YtlfiebapfgpchaaGreatDoorSqIi
namespace Go.Proofs
open Go.RowKit Go.Wi Go.Dg
/-- What stands while bytes are added: k of them are in. -/
structure Tryz.Wr (w0 : World) (g : Nat) (l b : List UInt8) (k : Nat) (V : Value) (wr : World) : Prop where
  ex : ∃ s R, Tryz.Hsh wr g s R (l.length + b.length) ∧ Small s.l ∧ s = blks ((l.length + k) / 64) (l ++ b.take k) Dg.start
  m : (l.length + k) % 64 = 0
  kl : k ≤ b.length
  v : Bs wr V (b.drop k)
  n : V.ownBlock ≠ some g
  o : Wo (fun j => j = g) w0 wr
  t : Tryz.Tq wr
theorem Dg.inf8 : (Tryz.prog.info? 5).map (·.size) = some 1 := by kernel_rfl
theorem Dg.bs_wo {own : Nat → Prop} {w w' : World} {v : Value} {b : List UInt8} (h : Bs w v b) (g : Wo own w w') (hn : ∀ k, v.ownBlock = some k → ¬ own k) : Bs w' v b := by
  obtain ⟨ad, cap, rfl, hc, hnil, h1⟩ := h.ex
  rcases h1 with h1 | ⟨gb, o, rfl, hgb, h1⟩
  · exact ⟨ad, cap, rfl, hc, hnil, .inl h1⟩
  · exact h.keep fun k hk => g.block k (by cases hk; exact hgb) (hn k hk)
set_option maxRecDepth 20000 in
/-- Bytes copied into the block that is not whole. -/
theorem Tryz.Hsh.copy {w : World} {g : Nat} {s : S8} {R : List UInt8} {c : Nat} (h : Tryz.Hsh w g s R c) {ad : Option Addr} {L cap : Nat} {b : List UInt8} (hb : Bs w (.slice ad L cap) b) (o d dc : Nat) (ho : o + d = 64) (ty : TypeId) :
    (Builtin.copy_ #[29, 29] ty #[.slice (some ⟨g, 8 + o, none⟩) d dc, .slice ad L cap]).run Tryz.prog w = .ok (goInt (b.take d).length) (w.setCells g (8 + o) (Lib.byteCells (b.take d))) := by
  obtain ⟨ad', cap', e, hcap, hnil, hbx⟩ := hb.ex
  injection e with e1 e2 e3
  subst e1 e2 e3
  have hlen : (Lib.byteCells (b.take d)).length = Nat.min b.length d := by rw [byteCells_len, List.length_take, Nat.min_comm]
  rcases hbx with rfl | ⟨gb, ob, rfl, hgb, hce⟩
  · rw [List.take_nil]
    exact run_copy_none (P := Tryz.prog) w 29 29 ty 5 _ ad d dc 0 cap Tryz.underlying29 Dg.inf8 (by show min 0 d = 0; omega)
  · have := run_copy_cells (P := Tryz.prog) w 29 29 ty 5 g (8 + o) d dc ⟨gb, ob, none⟩ b.length cap (Lib.byteCells (b.take d)) Tryz.underlying29 Dg.inf8 hlen (fun j v hv => by
      rw [Addr.add_mid]
      refine hce j v ?_
      simp only [Lib.byteCells, List.getElem?_map, List.getElem?_take] at hv ⊢
      split at hv
      · exact hv
      · cases hv) (fun j hj => (h.there (o := 8 + o) (n := d) (by omega) j (by rw [hlen] at hj; exact Nat.lt_of_lt_of_le hj (Nat.min_le_right _ _))).1) (fun j _ => h.frozen _) (fun v hv => by
      simp only [Lib.byteCells, List.mem_map] at hv
      obtain ⟨x, _, rfl⟩ := hv
      rfl)
    rw [byteCells_len] at this
    exact this
theorem Dg.fill_block {s : S8} {R l xs : List UInt8} (h : Dg.Sofar s R l) (hx : l.length % 64 + xs.length = 64) : blk s (R.take (l.length % 64) ++ xs) = blks ((l.length + xs.length) / 64) (l ++ xs) Dg.start := by
  have e1 : (l.length + xs.length) / 64 = l.length / 64 + 1 := by omega
  have e2 : l ++ xs = l.take (64 * (l.length / 64)) ++ (l.drop (64 * (l.length / 64)) ++ xs) := by rw [← List.append_assoc, List.take_append_drop]
  have e3 : (l.take (64 * (l.length / 64))).length = 64 * (l.length / 64) := by rw [List.length_take]; omega
  have e4 : s = blks (l.length / 64) (l.take (64 * (l.length / 64))) Dg.start := by
    have h1 := Dg.blks_take (l.length / 64) (l.take (64 * (l.length / 64))) (l.drop (64 * (l.length / 64))) Dg.start (by omega)
    rw [List.take_append_drop] at h1
    exact h.s.trans h1
  rw [e1, e2, Dg.blks_one _ _ _ _ e3 (by rw [List.length_append, List.length_drop]; omega), ← e4, h.r]
theorem Dg.more_block {s : S8} {l b : List UInt8} {k : Nat} (h : s = blks ((l.length + k) / 64) (l ++ b.take k) Dg.start) (hm : (l.length + k) % 64 = 0) (hk : k + 64 ≤ b.length) : blk s ((b.drop k).take 64) = blks ((l.length + (k + 64)) / 64) (l ++ b.take (k + 64)) Dg.start := by
  have e1 : (l.length + (k + 64)) / 64 = (l.length + k) / 64 + 1 := by omega
  rw [e1, List.take_add, ← List.append_assoc, Dg.blks_one _ _ _ _ (by rw [List.length_append, List.length_take]; omega) (by rw [List.length_take, List.length_drop]; omega), ← h]
theorem Dg.sofar_short {s : S8} {R l b : List UInt8} (h : Dg.Sofar s R l) (hx : l.length % 64 + b.length < 64) (hR : R.length = 64) : Dg.Sofar s (R.take (l.length % 64) ++ b ++ R.drop (l.length % 64 + b.length)) (l ++ b) := by
  have e1 : (l ++ b).length / 64 = l.length / 64 := by rw [List.length_append]; omega
  have e2 : (l ++ b).length % 64 = l.length % 64 + b.length := by rw [List.length_append]; omega
  refine ⟨h.small, ?_, ?_⟩
  · rw [e1, Dg.blks_take _ _ _ _ (by omega)]
    exact h.s
  · rw [e1, e2, List.drop_append_of_le_length (by omega), ← h.r, List.take_append_of_le_length (by rw [List.length_append, List.length_take]; omega), List.take_of_length_le (by rw [List.length_append, List.length_take]; omega)]
theorem Dg.sofar_end {s : S8} {R l b : List UInt8} {k : Nat} (hs : Small s.l) (h : s = blks ((l.length + k) / 64) (l ++ b.take k) Dg.start) (hm : (l.length + k) % 64 = 0) (hk : k ≤ b.length) (hb : (b.drop k).length < 64) : Dg.Sofar s ([] ++ b.drop k ++ R) (l ++ b) := by
  rw [List.length_drop] at hb
  have e1 : (l ++ b).length / 64 = (l.length + k) / 64 := by rw [List.length_append]; omega
  have e2 : (l ++ b).length % 64 = (b.drop k).length := by rw [List.length_append, List.length_drop]; omega
  have e3 : l ++ b = (l ++ b.take k) ++ b.drop k := by rw [List.append_assoc, List.take_append_drop]
  have e4 : (l ++ b.take k).length = 64 * ((l.length + k) / 64) := by rw [List.length_append, List.length_take]; omega
  refine ⟨hs, ?_, ?_⟩
  · rw [e1, e3, Dg.blks_take _ _ _ _ (by omega)]
    exact h
  · rw [e1, e2, List.nil_append, List.take_left, e3, ← e4, List.drop_left]
theorem Dg.bs_drop {w : World} {ad : Option Addr} {L cap : Nat} {b : List UInt8} (h : Bs w (.slice ad L cap) b) (n : Nat) (hn : n ≤ L) : Bs w (.slice (if cap = n then ad else ad.map (·.add n)) (L - n) (cap - n)) (b.drop n) := by
  obtain ⟨ad', cap', e, hc, hnil, h1⟩ := h.ex
  injection e with e1 e2 e3
  subst e1 e2 e3
  have hl : (b.drop n).length = b.length - n := List.length_drop
  rcases h1 with rfl | ⟨gb, o, rfl, hgb, h1⟩
  · refine ⟨_, _, by rw [hl], by rw [hl]; omega, fun e => ?_, .inl (by simp)⟩
    split at e
    · rename_i hcn; omega
    · cases ad with
      | none => have := hnil rfl; omega
      | some x => cases e
  · by_cases hcn : cap = n
    · have : b.drop n = [] := List.drop_of_length_le (by omega)
      rw [if_pos hcn]
      exact ⟨_, _, by rw [hl], by rw [hl]; omega, (fun e => by cases e), .inl this⟩
    · rw [if_neg hcn]
      refine ⟨some ⟨gb, o + n, none⟩, _, by rw [hl, Option.map_some, Addr.add_mid], by rw [hl]; omega, (fun e => by cases e), .inr ⟨gb, o + n, rfl, hgb, fun j u hu => ?_⟩⟩
      have := h1 (n + j) u (by simpa [Lib.byteCells] using hu)
      rw [show o + (n + j) = o + n + j by omega] at this
      exact this
theorem Dg.own_drop {ad : Option Addr} {L cap n L' cap' : Nat} {k : Nat} (h : (Value.slice (if cap = n then ad else ad.map (·.add n)) L' cap').ownBlock = some k) : (Value.slice ad L cap).ownBlock = some k := by
  by_cases hc : cap = n
  · rw [if_pos hc] at h
    cases ad with
    | none => cases h
    | some x => exact h
  · rw [if_neg hc] at h
    cases ad with
    | none => cases h
    | some x =>
      have e : (x.add n).block = x.block := by unfold Addr.add; split <;> rfl
      rw [Option.map_some] at h
      show some x.block = some k
      rw [← e]
      exact h
set_option maxRecDepth 20000 in
theorem Tryz.sl_first {gb ob N cap : Nat} (hN : 64 ≤ cap) (W : World) : (Instr.sliceAt 29 (.slice (some ⟨gb, ob, none⟩) N cap) none (some (.int .i64 64)) none).run Tryz.prog W = .ok (.slice (some ⟨gb, ob, none⟩) 64 cap) W := by
  have h1 : (64 : Int) ≤ cap := by omega
  rw [run_sliceAt_slice (P := Tryz.prog) (w := W) 29 _ _ _ _ Tryz.underlying29, run_slice_h (P := Tryz.prog) (w := W) (ht := Tryz.underlying29) (kh := .i64) (h := 64) (h0 := by decide) (h2 := h1)]
  have h2 : Tryz.prog.elem 29 = 5 := by kernel_rfl
  rw [h2, Tryz.szu8 W]
  simp [Result.andThen, sliced, Addr.add_mid]
set_option maxRecDepth 20000 in
theorem Tryz.sl_from {ad : Option Addr} {L cap n : Nat} (hn : n ≤ L) (W : World) : (Instr.sliceAt 29 (.slice ad L cap) (some (.int .i64 (n : Int))) none none).run Tryz.prog W = .ok (.slice (if cap = n then ad else ad.map (·.add n)) (L - n) (cap - n)) W := by
  have h1 : (n : Int) ≤ L := by omega
  rw [run_sliceAt_slice (P := Tryz.prog) (w := W) 29 _ _ _ _ Tryz.underlying29, run_slice_l (P := Tryz.prog) (w := W) (ht := Tryz.underlying29) (kl := .i64) (l := n) (h0 := by omega) (h1 := h1)]
  have h2 : Tryz.prog.elem 29 = 5 := by kernel_rfl
  rw [h2, Tryz.szu8 W]
  simp [Result.andThen, sliced]
section
variable {P : Program} {a : Act} {w w' : World} {o : Oper} {v : Value}
theorem Dg.run_slL {t : TypeId} {x lo : Operand} {xv lv : Value} (ho : o.op = .slice t x (some lo) none none) (hx : a.eval x = xv) (hlo : a.eval lo = lv) (h : (Instr.sliceAt t xv (some lv) none none).run P w = .ok v w') : (execOp a.eval o).run P w = .ok (.value v) w' := by
  unfold execOp
  rw [ho]
  simp only [hx, hlo, Option.map_some, Option.map_none, Sem.run_bind, h, Result.andThen, Sem.run_pure]
theorem Dg.run_slH {t : TypeId} {x hi : Operand} {xv lv : Value} (ho : o.op = .slice t x none (some hi) none) (hx : a.eval x = xv) (hlo : a.eval hi = lv) (h : (Instr.sliceAt t xv none (some lv) none).run P w = .ok v w') : (execOp a.eval o).run P w = .ok (.value v) w' := by
  unfold execOp
  rw [ho]
  simp only [hx, hlo, Option.map_some, Option.map_none, Sem.run_bind, h, Result.andThen, Sem.run_pure]
theorem Dg.run_arr {t : TypeId} {x : Operand} {xv : Value} (ho : o.op = .sliceToArrayPointer t x) (hx : a.eval x = xv) (h : (Instr.arrayAt t xv).run P w = .ok v w') : (execOp a.eval o).run P w = .ok (.value v) w' := by
  unfold execOp
  rw [ho]
  simp only [hx, Sem.run_bind, h, Result.andThen, Sem.run_pure]
end
theorem Tryz.arr_at (x : Addr) (cap : Nat) (W : World) : (Instr.arrayAt 155 (.slice (some x) 64 cap)).run Tryz.prog W = .ok (.pointer (some x)) W := by
  kernel_rfl
set_option maxRecDepth 20000 in
set_option maxHeartbeats 1000000 in
theorem Tryz.write_any {w : World} {g : Nat} {s : S8} {R l b : List UInt8} {V : Value} (hT : Tryz.Tq w) (hg : 2 ≤ g) (h : Tryz.Hsh w g s R l.length) (hl : Dg.Sofar s R l) (hb : Bs w V b) (hn : V.ownBlock ≠ some g) (hc : l.length + b.length ≤ 1000000000000000) :
    Calls Tryz.prog 71 #[.pointer (some ⟨g, 0, none⟩), V] w fun e w' => e = .returned (.tuple #[]) ∧ ∃ s' R', Tryz.Hsh w' g s' R' (l.length + b.length) ∧ Dg.Sofar s' R' (l ++ b) ∧ Wo (fun j => j = g) w w' := by
  obtain ⟨ad, cap, rfl, hcap, hnil, hbx⟩ := hb.ex
  clear hbx hnil hcap
  obtain ⟨c, hcl⟩ : ∃ c, c = l.length := ⟨_, rfl⟩
  obtain ⟨L, hL⟩ : ∃ L, L = b.length := ⟨_, rfl⟩
  obtain ⟨CL, hCL⟩ : ∃ CL : Nat, CL = c + L := ⟨_, rfl⟩
  obtain ⟨H, hH⟩ : ∃ H : Nat, H = c % 64 := ⟨_, rfl⟩
  rw [← hcl] at h hc
  rw [← hL] at hb hn hc ⊢
  have e1 : (c : Int) % 64 = (H : Int) := by omega
  have e2 : (c : Int) + (L : Int) = (CL : Int) := by omega
  have d1 := h.ct
  have d2 := h.frozen 72
  have d3 := h.at 72
  have HC : Hid (CL = c + L ∧ c = l.length ∧ L = b.length ∧ H = c % 64) := ⟨hCL, hcl, hL, hH⟩
  have HH : Hid _ := h
  have HB : Hid _ := hb
  have HL : Hid _ := hl
  have HT : Hid _ := hT
  have hc2 : (c : Int) ≤ 1000000000000000 := by omega
  have hc3 : (L : Int) ≤ 1000000000000000 := by omega
  have hc4 : (CL : Int) ≤ 1000000000000000 := by omega
  have hH64 : H < 64 := by omega
  clear hCL hcl hL hH h hb hl hT d3
  go_enter Tryz.func71, Tryz.ntmps71
  go_upto_if 23 with (fail)
  obtain ⟨w1, hw1⟩ : ∃ w1, w1 = w.setCell ⟨g, 72, none⟩ (.int .u64 (CL : Int)) := ⟨_, rfl⟩
  have H1 : Hid (Tryz.Hsh w1 g s R CL ∧ Bs w1 (.slice ad L cap) b ∧ Wo (fun j => j = g) w w1 ∧ Tryz.Tq w1) := by
    rw [hw1]
    have o1 : Wo (fun j => j = g) w (w.setCell ⟨g, 72, none⟩ (.int .u64 (CL : Int))) := (Wo.refl _ w).setCell g 72 _ (.inl rfl)
    exact ⟨HH.out.setC _ CL rfl, Dg.bs_wo HB.out o1 (fun k hk e => hn (by rw [hk, e])), o1, HT.out.keep o1.size fun k hk => o1.block k (by have := HT.out.sz; omega) (by omega)⟩
  rw [← hw1]
  clear hw1 d1 d2 HH HB HT
  go_cut [1] (fun bv wx => ∃ k, Hid (Tryz.Wr w g l b k bv wx))
  case first =>
    by_cases hp : 0 < H
    · have hcp := H1.out.1.copy H1.out.2.1 H (64 - H) (64 - H) (by omega)
      obtain ⟨xs, hxs⟩ : ∃ xs, xs = b.take (64 - H) := ⟨_, rfl⟩
      obtain ⟨n, hnx⟩ : ∃ n, n = xs.length := ⟨_, rfl⟩
      rw [← hxs, ← hnx] at hcp
      have hn1 : n ≤ 64 - H := by rw [hnx, hxs, List.length_take]; omega
      have hn2 : n ≤ L := by rw [hnx, hxs, List.length_take, HC.out.2.2.1]; omega
      have hn3 : n = 64 - H ∨ n = L := by rw [hnx, hxs, List.length_take, HC.out.2.2.1]; omega
      have HX : Hid (xs = b.take (64 - H) ∧ n = xs.length) := ⟨hxs, hnx⟩
      clear hxs hnx
      have r1 : (H : Int) ≤ 64 := by omega
      have r2 : ¬ 64 = H := by omega
      have r3 : (0 : Int) ≤ (H : Int) := by omega
      go_upto_if 34 with (fail)
      obtain ⟨w2, hw2⟩ : ∃ w2, w2 = w1.setCells g (8 + H) (Lib.byteCells xs) := ⟨_, rfl⟩
      have H2 : Hid (Tryz.Hsh w2 g s (R.take H ++ xs ++ R.drop (H + n)) CL ∧ Bs w2 (.slice ad L cap) b ∧ Wo (fun j => j = g) w w2 ∧ Tryz.Tq w2) := by
        rw [hw2]
        have o1 := Dg.setCells_wo g (Lib.byteCells xs) (8 + H) w1
        have h1 := H1.out.1.setR H xs (by rw [← HX.out.2]; omega)
        rw [← HX.out.2] at h1
        exact ⟨h1, Dg.bs_wo H1.out.2.1 o1 (fun k hk e => hn (by rw [hk, e])), H1.out.2.2.1.trans o1, H1.out.2.2.2.keep o1.size fun k hk => o1.block k (by have := H1.out.2.2.2.sz; omega) (by omega)⟩
      rw [← hw2]
      clear hw2 hcp
      by_cases hlt : H + n < 64
      · have q1 : (H : Int) + (n : Int) < 64 := by omega
        have hnL : n = L := by omega
        go_wp2
        refine bodyPost_ret (results_none rfl _ _ _) rfl ⟨rfl, s, R.take H ++ xs ++ R.drop (H + n), ?_, ?_, H2.out.2.2.1⟩
        · have h1 := H2.out.1
          rw [HC.out.1, HC.out.2.1] at h1
          exact h1
        · have e3 : xs = b := by rw [HX.out.1, List.take_of_length_le (by rw [← HC.out.2.2.1]; omega)]
          have h1 := Dg.sofar_short (b := b) HL.out (by rw [← HC.out.2.1, ← HC.out.2.2.2, ← HC.out.2.2.1]; omega) H1.out.1.r
          rw [← HC.out.2.1, ← HC.out.2.2.2, ← HC.out.2.2.1, ← hnL] at h1
          rw [e3]
          exact h1
      · have q1 : ¬ (H : Int) + (n : Int) < 64 := by omega
        have hn64 : n = 64 - H := by omega
        have Hn64 : Hid (n = 64 - H) := hn64
        clear hn64 hn3
        go_upto_region 5 with (fail)
        have hn64 : n = 64 - H := Hn64.out
        obtain ⟨R2, hR2⟩ : ∃ R2, R2 = R.take H ++ xs := ⟨_, rfl⟩
        have hR2l : R2.length = 64 := by rw [hR2, List.length_append, List.length_take, H1.out.1.r, ← HX.out.2]; omega
        have H3 : Hid (Tryz.Hsh w2 g s R2 CL) := by
          have h1 := H2.out.1
          rw [List.drop_of_length_le (by rw [H1.out.1.r]; omega), List.append_nil, ← hR2] at h1
          exact h1
        obtain ⟨s2, hs2⟩ : ∃ s2, s2 = blk s R2 := ⟨_, rfl⟩
        have HS2 : Hid (s2 = blk s R2) := hs2
        have HR2 : Hid (R2 = R.take H ++ xs) := hR2
        clear hR2 hs2 hn64
        have kS : ∀ W, Below w2.heap.size w2 W → Tryz.Hsh W g s R2 CL := fun W hW => H3.out.keep (hW.block _ H3.out.lt)
        refine Go.Lq.wp_region_lastC (fun W => Below w2.heap.size w2 W) 12 (by kernel_rfl) (by kernel_rfl) ⟨rfl, rfl, rfl, Nat.le_refl _, fun _ _ => rfl⟩ ?_
        dsimp only [List.dropLast]
        refine Go.Lq.q_val (v := .pointer (some ⟨g, 0, none⟩)) rfl (fun _ _ => by kernel_rfl) ?_
        try simp only [Act.put, List.setIfInBounds_toArray, List.set_cons_zero, List.set_cons_succ]
        refine Go.Lq.q_val (v := .pointer (some ⟨g, 0, none⟩)) rfl (fun _ _ => by kernel_rfl) ?_
        try simp only [Act.put, List.setIfInBounds_toArray, List.set_cons_zero, List.set_cons_succ]
        refine Go.Lq.q_val (v := .pointer (some ⟨g, 0, none⟩)) rfl (fun _ _ => by kernel_rfl) ?_
        try simp only [Act.put, List.setIfInBounds_toArray, List.set_cons_zero, List.set_cons_succ]
        refine Go.Lq.q_val (v := .pointer (some ⟨g, 0, none⟩)) rfl (fun _ _ => by kernel_rfl) ?_
        try simp only [Act.put, List.setIfInBounds_toArray, List.set_cons_zero, List.set_cons_succ]
        refine Go.Lq.q_val (v := .agg (Dg.wcells s.l).toArray) rfl (fun W hW => by have ld := (kS W hW).loadS; exact Dg.run_load rfl rfl ld) ?_
        try simp only [Act.put, List.setIfInBounds_toArray, List.set_cons_zero, List.set_cons_succ]
        refine Go.Lq.q_val (v := .pointer (some ⟨g, 0, none⟩)) rfl (fun _ _ => by kernel_rfl) ?_
        try simp only [Act.put, List.setIfInBounds_toArray, List.set_cons_zero, List.set_cons_succ]
        refine Go.Lq.q_val (v := .pointer (some ⟨g, 0, none⟩)) rfl (fun _ _ => by kernel_rfl) ?_
        try simp only [Act.put, List.setIfInBounds_toArray, List.set_cons_zero, List.set_cons_succ]
        refine Go.Lq.q_val (v := .pointer (some ⟨g, 8, none⟩)) rfl (fun _ _ => by kernel_rfl) ?_
        try simp only [Act.put, List.setIfInBounds_toArray, List.set_cons_zero, List.set_cons_succ]
        refine Go.Lq.q_val (v := .agg (Lib.byteCells R2).toArray) rfl (fun W hW => by have ld := (kS W hW).loadR; exact Dg.run_load rfl rfl ld) ?_
        try simp only [Act.put, List.setIfInBounds_toArray, List.set_cons_zero, List.set_cons_succ]
        refine Go.Lq.q_call (v := .agg (Dg.wcells s2.l).toArray) (f := 82) (args := #[.agg (Dg.wcells s.l).toArray, .agg (Lib.byteCells R2).toArray]) rfl (fun _ _ => by kernel_rfl) (fun W hW => ?_) ?_
        · have h1 := Tryz.stir_any s R2 hR2l HL.out.small W (H2.out.2.2.2.below hW H2.out.2.2.2.sz)
          rw [← HS2.out] at h1
          exact h1.mono fun _ _ ⟨h2, h3⟩ => ⟨h2, hW.trans (h3.mono hW.size)⟩
        try simp only [Act.put, List.setIfInBounds_toArray, List.set_cons_zero, List.set_cons_succ]
        refine Go.Lq.q_val (v := .pointer (some ⟨g, 0, none⟩)) rfl (fun _ _ => by kernel_rfl) ?_
        try simp only [Act.put, List.setIfInBounds_toArray, List.set_cons_zero, List.set_cons_succ]
        refine Go.Lq.q_val (v := .pointer (some ⟨g, 0, none⟩)) rfl (fun _ _ => by kernel_rfl) ?_
        try simp only [Act.put, List.setIfInBounds_toArray, List.set_cons_zero, List.set_cons_succ]
        refine wpQuiet_nil ?_
        intro W hW
        refine Go.Lq.wpOp_last rfl rfl ?_
        have st := (kS W hW).storeS s2
        unfold Oper.wp
        rw [Dg.run_store (a := _) (o := _) rfl rfl rfl st]
        obtain ⟨w3, hw3⟩ : ∃ w3, w3 = W.setCells g 0 (Dg.wcells s2.l) := ⟨_, rfl⟩
        have HB3 : Hid (Bs w3 (.slice ad L cap) b ∧ Tryz.Hsh w3 g s2 R2 CL ∧ Wo (fun j => j = g) w w3 ∧ Tryz.Tq w3) := by
          have o1 := Dg.setCells_wo g (Dg.wcells s2.l) 0 W
          have o2 : Wo (fun j => j = g) w2 W := Wo.ofBelow (own := fun j => j = g) (w := w2) ⟨hW.os, hW.tape, hW.output, hW.size, hW.block⟩
          have o3 := o2.trans o1
          rw [hw3]
          exact ⟨Dg.bs_wo H2.out.2.1 o3 (fun k hk e => hn (by rw [hk, e])), (kS W hW).setS s2, H2.out.2.2.1.trans o3, H2.out.2.2.2.keep o3.size fun k hk => o3.block k (by have := H2.out.2.2.2.sz; omega) (by omega)⟩
        have HS3 : Hid (s2 = blks ((l.length + n) / 64) (l ++ b.take n) Dg.start ∧ Small s2.l) := by
          have h1 := Dg.fill_block (xs := xs) HL.out (by rw [← HC.out.2.1, ← HC.out.2.2.2, ← HX.out.2]; have := Hn64.out; omega)
          rw [← HC.out.2.1, ← HC.out.2.2.2, ← HR2.out, ← HS2.out, ← HX.out.2, HX.out.1, ← Hn64.out] at h1
          rw [← HC.out.2.1]
          exact ⟨h1, by rw [HS2.out]; exact Dg.small_blk _ _⟩
        rw [← hw3]
        clear st hw3
        go_upto_region 6 with (fail)
        refine wp_region_lit ?_
        refine Dg.step_value rfl (v := .slice ad L cap) (w' := w3) (by kernel_rfl) ?_
        try simp only [Act.put, List.setIfInBounds_toArray, List.set_cons_zero, List.set_cons_succ]
        refine Dg.step_value rfl (v := .int .i64 (n : Int)) (w' := w3) (by kernel_rfl) ?_
        try simp only [Act.put, List.setIfInBounds_toArray, List.set_cons_zero, List.set_cons_succ]
        refine Dg.step_value rfl (v := .slice (if cap = n then ad else ad.map (·.add n)) (L - n) (cap - n)) (w' := w3) (by have sl := Tryz.sl_from (ad := ad) (cap := cap) hn2 w3; exact Dg.run_slL rfl rfl rfl sl) ?_
        try simp only [Act.put, List.setIfInBounds_toArray, List.set_cons_zero, List.set_cons_succ]
        obtain ⟨V2, hV2⟩ : ∃ V2, V2 = Value.slice (if cap = n then ad else ad.map (·.add n)) (L - n) (cap - n) := ⟨_, rfl⟩
        have HW : Hid (Tryz.Wr w g l b n V2 w3) := by
          rw [hV2]
          refine ⟨⟨s2, R2, ?_, HS3.out.2, HS3.out.1⟩, ?_, ?_, Dg.bs_drop HB3.out.1 n hn2, fun e => hn (Dg.own_drop e), HB3.out.2.2.1, HB3.out.2.2.2⟩
          · have h1 := HB3.out.2.1
            rw [HC.out.1, HC.out.2.1, HC.out.2.2.1] at h1
            exact h1
          · rw [← HC.out.2.1]
            have := HC.out.2.2.2
            omega
          · rw [← HC.out.2.2.1]
            exact hn2
        rw [← hV2]
        clear hV2
        go_wp2
        go_meet
        case rel => exact ⟨n, HW⟩
    · obtain rfl : H = 0 := by omega
      go_wp2
      go_meet
      case rel =>
        refine ⟨0, ⟨s, R, ?_, HL.out.small, ?_⟩, ?_, Nat.zero_le _, H1.out.2.1, hn, H1.out.2.2.1, H1.out.2.2.2⟩
        · have h1 := H1.out.1
          rw [HC.out.1, HC.out.2.1, HC.out.2.2.1] at h1
          exact h1
        · rw [List.take_zero, List.append_nil]
          exact HL.out.s
        · rw [← HC.out.2.1]
          have := HC.out.2.2.2
          omega
  case rest =>
    clear H1
    clear HL
    obtain ⟨k0, HW0⟩ := hcut
    obtain ⟨ad0, cap0, e0, _⟩ := HW0.out.v.ex
    subst e0
    obtain ⟨N0, hN0⟩ : ∃ N0, N0 = (b.drop k0).length := ⟨_, rfl⟩
    rw [← hN0] at HW0 ⊢
    go_wp2
    go_loopw [1] (fun bv wr => ∃ (k N : Nat) (ad : Option Addr) (cap : Nat), bv = .slice ad N cap ∧ Hid (N = (b.drop k).length) ∧ Hid (Tryz.Wr w g l b k bv wr)) (fun bv _ => Dg.lenV bv)
    case atStart => exact ⟨k0, N0, ad0, cap0, rfl, hN0, HW0⟩
    case round =>
      clear HW0 hN0
      obtain ⟨k, N, ad, cap, rfl, HN, HW⟩ := hrel
      obtain ⟨s, R, hh, hs, he⟩ := HW.out.ex
      have HH : Hid _ := hh
      have HE : Hid _ := he
      clear hh he
      by_cases hlt : 64 ≤ N
      · have q1 : (64 : Int) ≤ (N : Int) := by omega
        obtain ⟨gb, ob, rfl, hgb, HR, hcN⟩ : ∃ gb ob, ad = some ⟨gb, ob, none⟩ ∧ gb < wr.heap.size ∧ Hid (wr.rangeAt gb ob (Lib.byteCells ((b.drop k).take 64))) ∧ N ≤ cap := by
          obtain ⟨ad', cap', e, h1, h2, h3⟩ := HW.out.v.ex
          injection e with e1 e2 e3
          subst e1 e3
          rcases h3 with h3 | ⟨gb, ob, rfl, h4, h5⟩
          · rw [h3] at e2
            simp at e2
            omega
          · refine ⟨gb, ob, rfl, h4, fun j u hu => h5 j u ?_, by omega⟩
            simp only [Lib.byteCells, List.getElem?_map, List.getElem?_take] at hu ⊢
            split at hu
            · exact hu
            · cases hu
        obtain ⟨m, hm⟩ : ∃ m, m = (b.drop k).take 64 := ⟨_, rfl⟩
        have hml : m.length = 64 := by rw [hm, List.length_take, ← HN.out]; omega
        have HM : Hid (m = (b.drop k).take 64) := hm
        rw [← hm] at HR
        obtain ⟨s2, hs2⟩ : ∃ s2, s2 = blk s m := ⟨_, rfl⟩
        have HS2 : Hid (s2 = blk s m) := hs2
        clear hm hs2
        have kS : ∀ W, Below wr.heap.size wr W → Tryz.Hsh W g s R (l.length + b.length) := fun W hW => HH.out.keep (hW.block _ HH.out.lt)
        have kR : ∀ W, Below wr.heap.size wr W → W.rangeAt gb ob (Lib.byteCells m) := fun W hW j v hv => by
          rw [hW.cell (p := ⟨gb, ob + j, none⟩) hgb]
          exact HR.out j v hv
        go_upto_region 8 with (fail)
        refine Go.Lq.wp_region_lastC (fun W => Below wr.heap.size wr W) 12 (by kernel_rfl) (by kernel_rfl) ⟨rfl, rfl, rfl, Nat.le_refl _, fun _ _ => rfl⟩ ?_
        dsimp only [List.dropLast]
        refine Go.Lq.q_val (v := .pointer (some ⟨g, 0, none⟩)) rfl (fun _ _ => by kernel_rfl) ?_
        try simp only [Act.put, List.setIfInBounds_toArray, List.set_cons_zero, List.set_cons_succ]
        refine Go.Lq.q_val (v := .pointer (some ⟨g, 0, none⟩)) rfl (fun _ _ => by kernel_rfl) ?_
        try simp only [Act.put, List.setIfInBounds_toArray, List.set_cons_zero, List.set_cons_succ]
        refine Go.Lq.q_val (v := .pointer (some ⟨g, 0, none⟩)) rfl (fun _ _ => by kernel_rfl) ?_
        try simp only [Act.put, List.setIfInBounds_toArray, List.set_cons_zero, List.set_cons_succ]
        refine Go.Lq.q_val (v := .pointer (some ⟨g, 0, none⟩)) rfl (fun _ _ => by kernel_rfl) ?_
        try simp only [Act.put, List.setIfInBounds_toArray, List.set_cons_zero, List.set_cons_succ]
        refine Go.Lq.q_val (v := .agg (Dg.wcells s.l).toArray) rfl (fun W hW => by have ld := (kS W hW).loadS; exact Dg.run_load rfl rfl ld) ?_
        try simp only [Act.put, List.setIfInBounds_toArray, List.set_cons_zero, List.set_cons_succ]
        refine Go.Lq.q_val (v := .slice (some ⟨gb, ob, none⟩) N cap) rfl (fun _ _ => by kernel_rfl) ?_
        try simp only [Act.put, List.setIfInBounds_toArray, List.set_cons_zero, List.set_cons_succ]
        refine Go.Lq.q_val (v := .slice (some ⟨gb, ob, none⟩) 64 cap) rfl (fun W _ => by have sl := Tryz.sl_first (gb := gb) (ob := ob) (N := N) (cap := cap) (by omega) W; exact Dg.run_slH rfl rfl rfl sl) ?_
        try simp only [Act.put, List.setIfInBounds_toArray, List.set_cons_zero, List.set_cons_succ]
        refine Go.Lq.q_val (v := .pointer (some ⟨gb, ob, none⟩)) rfl (fun W _ => by have sl := Tryz.arr_at ⟨gb, ob, none⟩ cap W; exact Dg.run_arr rfl rfl sl) ?_
        try simp only [Act.put, List.setIfInBounds_toArray, List.set_cons_zero, List.set_cons_succ]
        refine Go.Lq.q_val (v := .agg (Lib.byteCells m).toArray) rfl (fun W hW => by have ld := run_loadAt_mid (P := Tryz.prog) W gb ob 155 (Lib.byteCells m) _ (kR W hW) Tryz.underlying155 rfl (by rw [byteCells_len, hml]; exact Tryz.size64b); exact Dg.run_load rfl rfl ld) ?_
        try simp only [Act.put, List.setIfInBounds_toArray, List.set_cons_zero, List.set_cons_succ]
        refine Go.Lq.q_call (v := .agg (Dg.wcells s2.l).toArray) (f := 82) (args := #[.agg (Dg.wcells s.l).toArray, .agg (Lib.byteCells m).toArray]) rfl (fun _ _ => by kernel_rfl) (fun W hW => ?_) ?_
        · have h1 := Tryz.stir_any s m hml hs W (HW.out.t.below hW HW.out.t.sz)
          rw [← HS2.out] at h1
          exact h1.mono fun _ _ ⟨h2, h3⟩ => ⟨h2, hW.trans (h3.mono hW.size)⟩
        try simp only [Act.put, List.setIfInBounds_toArray, List.set_cons_zero, List.set_cons_succ]
        refine Go.Lq.q_val (v := .pointer (some ⟨g, 0, none⟩)) rfl (fun _ _ => by kernel_rfl) ?_
        try simp only [Act.put, List.setIfInBounds_toArray, List.set_cons_zero, List.set_cons_succ]
        refine Go.Lq.q_val (v := .pointer (some ⟨g, 0, none⟩)) rfl (fun _ _ => by kernel_rfl) ?_
        try simp only [Act.put, List.setIfInBounds_toArray, List.set_cons_zero, List.set_cons_succ]
        refine wpQuiet_nil ?_
        intro W hW
        refine Go.Lq.wpOp_last rfl rfl ?_
        have st := (kS W hW).storeS s2
        unfold Oper.wp
        rw [Dg.run_store (a := _) (o := _) rfl rfl rfl st]
        obtain ⟨w3, hw3⟩ : ∃ w3, w3 = W.setCells g 0 (Dg.wcells s2.l) := ⟨_, rfl⟩
        obtain ⟨V2, hV2⟩ : ∃ V2, V2 = Value.slice (if cap = 64 then some ⟨gb, ob, none⟩ else (some (⟨gb, ob, none⟩ : Addr)).map (·.add 64)) (N - 64) (cap - 64) := ⟨_, rfl⟩
        have hk64 : k + 64 ≤ b.length := by have := HN.out; rw [List.length_drop] at this; omega
        have HW2 : Hid (Tryz.Wr w g l b (k + 64) V2 w3) := by
          have o1 := Dg.setCells_wo g (Dg.wcells s2.l) 0 W
          have o3 : Wo (fun j => j = g) wr (W.setCells g 0 (Dg.wcells s2.l)) := (Wo.ofBelow (own := fun j => j = g) hW).trans o1
          rw [hw3, hV2]
          refine ⟨⟨s2, R, (kS W hW).setS s2, by rw [HS2.out]; exact Dg.small_blk _ _, ?_⟩, by have := HW.out.m; omega, hk64, ?_, fun e => HW.out.n (Dg.own_drop e), HW.out.o.trans o3, HW.out.t.keep o3.size fun j hj => o3.block j (by have := HW.out.t.sz; omega) (by omega)⟩
          · rw [HS2.out, HM.out]
            exact Dg.more_block HE.out HW.out.m hk64
          · have h1 := Dg.bs_drop (Dg.bs_wo HW.out.v o3 (fun j hj e => HW.out.n (by rw [hj, e]))) 64 hlt
            rw [List.drop_drop] at h1
            exact h1
        rw [← hw3]
        clear st hw3
        go_upto_region 9 with (fail)
        refine wp_region_lit ?_
        refine Dg.step_value rfl (v := .slice (some ⟨gb, ob, none⟩) N cap) (w' := w3) (by kernel_rfl) ?_
        try simp only [Act.put, List.setIfInBounds_toArray, List.set_cons_zero, List.set_cons_succ]
        refine Dg.step_value rfl (v := .slice (if cap = 64 then some ⟨gb, ob, none⟩ else (some (⟨gb, ob, none⟩ : Addr)).map (·.add 64)) (N - 64) (cap - 64)) (w' := w3) (by have sl := Tryz.sl_from (ad := some ⟨gb, ob, none⟩) (cap := cap) (n := 64) hlt w3; exact Dg.run_slL rfl rfl rfl sl) ?_
        try simp only [Act.put, List.setIfInBounds_toArray, List.set_cons_zero, List.set_cons_succ]
        rw [← hV2]
        obtain ⟨ad2, hV3⟩ : ∃ ad2, V2 = Value.slice ad2 (N - 64) (cap - 64) := ⟨_, hV2⟩
        clear hV2
        subst hV3
        go_wp2
        go_roundw
        case rel =>
          refine ⟨k + 64, N - 64, ad2, cap - 64, rfl, ?_, HW2⟩
          show _ = _
          rw [HN.out, List.length_drop, List.length_drop]
          omega
        case measure => show N - 64 < N; omega
      · have q1 : ¬ (64 : Int) ≤ (N : Int) := by omega
        have hcp := HH.out.copy HW.out.v 0 64 64 rfl
        have hlt2 : (b.drop k).length < 64 := by rw [← HN.out]; omega
        rw [List.take_of_length_le (by omega), Nat.add_zero] at hcp
        obtain ⟨xs, hxs⟩ : ∃ xs, xs = b.drop k := ⟨_, rfl⟩
        have HX : Hid (xs = b.drop k) := hxs
        rw [← hxs] at hcp
        have Hlt2 : Hid (xs.length < 64) := by rw [hxs]; exact hlt2
        clear hxs hlt2
        go_wp2
        have h1 := HH.out.setR 0 xs (by have := Hlt2.out; omega)
        rw [Nat.add_zero, Nat.zero_add, List.take_zero] at h1
        refine bodyPost_end (results_none rfl _ _ _) rfl ⟨rfl, s, [] ++ xs ++ R.drop xs.length, ?_, ?_, HW.out.o.trans (Dg.setCells_wo g (Lib.byteCells xs) 8 wr)⟩
        · rw [HC.out.2.2.1]
          exact h1
        · have h2 := Dg.sofar_end (R := R.drop xs.length) hs HE.out HW.out.m HW.out.kl (by rw [← HX.out]; exact Hlt2.out)
          rw [← HX.out] at h2
          exact h2
end Go.Proofs
