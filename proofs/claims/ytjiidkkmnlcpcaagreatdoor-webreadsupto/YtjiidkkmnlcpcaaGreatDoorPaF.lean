/-
  Laid together by packg.py of Yc Yd Ye Yf.
-/
import Derived.Test.YtjiidkkmnlcpcaaGreatDoorPYb
import Derived.Test.YtjiidkkmnlcpcaaGreatDoorLq
namespace Go.Proofs
open Go.RowKit Go.Wi Go.Wb
theorem Tryz.mc_size (m : Msg) (Vw Vh Vb : Value) : (Tryz.mc m Vw Vh Vb).size = 22 := rfl
/-- A new request's cells. -/
def Tryz.nrCells (n : Nat) : Array Value := Tryz.mc (newReq n) (.slice none 0 0) (.slice none 0 0) (.slice none 0 0)
set_option maxRecDepth 20000 in
set_option maxHeartbeats 1000000 in
theorem Tryz.newRequest_any (n : Nat) (w : World) :
    Calls Tryz.prog 26 #[.int .i64 n] w fun e w' => e = .returned (.agg (Tryz.nrCells n)) ∧ Below w.heap.size w w' := by
  go_enter Tryz.func26, Tryz.ntmps26
  go_upto_region 1 with (fail)
  generalize hW : w.alloc _ = W
  have hg : W.heap[w.heap.size]? = some (.cells (Tryz.mc zero (.slice none 0 0) (.slice none 0 0) (.slice none 0 0)) 65 (0, 0)) := by rw [← hW]; exact heap_alloc_new w _
  have hb : Below w.heap.size w W := by rw [← hW]; exact (Below.refl _ w).alloc (Nat.le_refl _) _
  clear hW
  refine wp_region_lit ?_
  refine Wb.step_value rfl (v := .agg #[Tryz.tkV .ahead, .nilFunc]) (w' := W) (by kernel_rfl) ?_
  refine Wb.step_value rfl (v := .int .i64 n) (w' := W) (by kernel_rfl) ?_
  refine Wb.step_value rfl (v := .int .i64 n) (w' := W) (by kernel_rfl) ?_
  refine Wb.step_value rfl (v := .agg (Tryz.nrCells n)) (w' := W) (by kernel_rfl) ?_
  have hth : W.there w.heap.size 0 22 := fun j hj => by
    rw [Nat.zero_add]
    exact ⟨by rw [cell_of_row _ _ j _ _ _ hg, Array.getElem?_eq_getElem (by rw [Tryz.mc_size]; exact hj)]; rfl, frozen_of_row _ _ j _ _ hg⟩
  refine wpList_store_mid rfl 65 _ _ rfl w.heap.size 0 _ rfl rfl hth (by kernel_rfl) (by kernel_rfl) ?_
  have hr := Wb.setCells_row w.heap.size 65 (Tryz.nrCells n).toList 0 W _ hg (Nat.le_of_eq rfl)
  have hb2 : Below w.heap.size w (W.setCells w.heap.size 0 (Tryz.nrCells n).toList) := Wo.toBelow hb (Wb.setCells_wo (own := fun k => w.heap.size ≤ k) w.heap.size (Nat.le_refl _) _ 0 W W (Wo.refl _ _)) (fun k e => e) hb.size
  generalize W.setCells _ _ _ = W2 at *
  go_wp2
  exact bodyPost_ret (results_cell_row rfl _ _ w.heap.size _ _ _ _ rfl hr Tryz.underlying65 rfl (by kernel_rfl)) rfl ⟨rfl, hb2⟩
/-- A parser's blocks, all released but its own one. -/
theorem Tryz.Ms.alone {T : TypeId} {w : World} {own : Nat → Prop} {b : Nat} {m : Msg} (h : Tryz.Ms T w own b m) (hw : m.word = []) (hh : m.headers = []) (hb : m.body = []) (hx : w.heap[b]? = some (.cells (Tryz.mc m (.slice none 0 0) (.slice none 0 0) (.slice none 0 0)) T (0, 0))) : Tryz.Ms T w (fun k => k = b) b m := by
  obtain ⟨aw, cw, ah, ch, ab, cb, h1⟩ := h.ex
  refine ⟨none, 0, none, 0, none, 0, by rw [hw, hh, hb]; exact hx, by rw [hw]; exact World.ownsRow_nil _ _ _ _, by rw [hh]; exact World.ownsRow_nil _ _ _ _, by rw [hb]; exact World.ownsRow_nil _ _ _ _, (fun k e => by cases e), (fun k e => by cases e), (fun k e => by cases e), rfl, fun k e => by rw [e]; exact h1.lt b h1.ob⟩
set_option maxRecDepth 20000 in
set_option maxHeartbeats 1000000 in
theorem Tryz.newParser_any (w : World) :
    Calls Tryz.prog 11 #[] w fun e w' => ∃ b, e = .returned (.pointer (some ⟨b, 0, none⟩)) ∧ w.heap.size ≤ b ∧ Tryz.Ms 77 w' (fun k => k = b) b (newReq 0) ∧ Below w.heap.size w w' := by
  have kr := Tryz.newRequest_any 0 w
  simp only [Tryz.nrCells, Tryz.mc, newReq, Tryz.tkV, Tryz.thV] at kr
  go_enter Tryz.func11, Tryz.ntmps11
  go_wp2_with (first | (go_at_call 26; refine kr.mono ?_; clear kr; rintro e w1 ⟨rfl, hb1⟩) | fail)
  go_ret
  have hn := heap_alloc_new w1 (.cells (Tryz.nrCells 0) 77)
  have hb2 : Below w1.heap.size w1 (w1.alloc (.cells (Tryz.nrCells 0) 77)) := (Below.refl _ w1).alloc (Nat.le_refl _) _
  refine ⟨w1.heap.size, rfl, hb1.size, ?_, hb1.trans (hb2.mono hb1.size)⟩
  exact ⟨none, 0, none, 0, none, 0, hn, World.ownsRow_nil _ _ _ _, World.ownsRow_nil _ _ _ _, World.ownsRow_nil _ _ _ _, (fun k e => by cases e), (fun k e => by cases e), (fun k e => by cases e), rfl, fun k e => by rw [e]; exact block_lt hn⟩
set_option maxRecDepth 20000 in
set_option maxHeartbeats 1000000 in
theorem Tryz.goOn_any {w : World} {own : Nat → Prop} {b : Nat} {m : Msg} (h : Tryz.Ms 77 w own b m) :
    Calls Tryz.prog 33 #[.pointer (some ⟨b, 0, none⟩), .bool m.last] w fun e w' => (∃ v, e = .returned v) ∧ Tryz.Ms 77 w' (fun k => k = b) b (goOn m) ∧ Wo (fun k => k = b) w w' := by
  have hth := h.there
  have c3 : w.cell? ⟨b, 3, none⟩ = some (.int .i64 m.at_) := by
    obtain ⟨aw, cw, ah, ch, ab, cb, hmw⟩ := h.ex
    exact (cell_of_row _ _ 3 _ _ _ hmw.blk).trans rfl
  have key : ∀ (W : World) (m' : Msg), Below w.heap.size w W → m'.word = [] → m'.headers = [] → m'.body = [] → Tryz.Ms 77 (W.setCells b 0 (Tryz.mc m' (.slice none 0 0) (.slice none 0 0) (.slice none 0 0)).toList) (fun k => k = b) b m' ∧ Wo (fun k => k = b) w (W.setCells b 0 (Tryz.mc m' (.slice none 0 0) (.slice none 0 0) (.slice none 0 0)).toList) := fun W m' hb h1 h2 h3 => by
    have hW := h.below hb
    obtain ⟨hM, -⟩ := hW.renew m' h1 h2 h3
    obtain ⟨aw, cw, ah, ch, ab, cb, hmw⟩ := hW.ex
    have hr := Wb.setCells_row b 77 (Tryz.mc m' (.slice none 0 0) (.slice none 0 0) (.slice none 0 0)).toList 0 W _ hmw.blk (Nat.le_of_eq rfl)
    exact ⟨hM.alone h1 h2 h3 hr, Wb.setCells_wo (own := fun k => k = b) b rfl _ 0 w W (Wo.ofBelow hb)⟩
  cases hl : m.last with
  | true =>
    have e1 : goOn m = zero := by unfold goOn; rw [if_pos hl]
    rw [e1]
    clear hl e1 h
    go_enter Tryz.func33, Tryz.ntmps33
    go_upto_region 1 with (fail)
    refine wp_region_lit ?_
    refine Wb.step_value rfl (v := .pointer (some ⟨b, 0, none⟩)) (w' := w) (by kernel_rfl) ?_
    refine Wb.step_value rfl (v := .agg (Tryz.mc zero (.slice none 0 0) (.slice none 0 0) (.slice none 0 0))) (w' := w) (by kernel_rfl) ?_
    refine Wb.step_value rfl (v := .pointer (some ⟨b, 0, none⟩)) (w' := w) (by kernel_rfl) ?_
    refine Wb.step_value rfl (v := .pointer (some ⟨b, 0, none⟩)) (w' := w) (by kernel_rfl) ?_
    refine wpList_store_mid rfl 65 _ _ rfl b 0 _ rfl rfl hth (by kernel_rfl) (by kernel_rfl) ?_
    obtain ⟨k1, k2⟩ := key w zero (Below.refl _ _) rfl rfl rfl
    generalize w.setCells _ _ _ = W1 at *
    go_wp2
    exact bodyPost_ret (results_none rfl _ _ _) rfl ⟨⟨_, rfl⟩, k1, k2⟩
  | false =>
    have e1 : goOn m = newReq m.at_ := by unfold goOn; rw [if_neg (by rw [hl]; exact Bool.false_ne_true)]
    rw [e1]
    have kr := Tryz.newRequest_any m.at_ w
    have hth1 : ∀ W, Below w.heap.size w W → W.there b 0 22 := fun W hb => (h.below hb).there
    have hsz : (Tryz.nrCells m.at_).size = 22 := rfl
    have hone : (Tryz.nrCells m.at_).all (·.oneCell') = true := by kernel_rfl
    have HST : Hid (∀ W, Below w.heap.size w W → (storeCells ⟨b, 0, none⟩ (Tryz.nrCells m.at_).toList 0).run Tryz.prog W = .ok () (W.setCells b 0 (Tryz.nrCells m.at_).toList)) := fun W hb => by
      have ht := hth1 W hb
      have := run_storeCells_cells (P := Tryz.prog) b 0 (Tryz.nrCells m.at_).toList 0 W (fun j hj => by simpa using (ht j (by rw [Array.length_toList, hsz] at hj; exact hj)).1) (fun j hj => by simpa using (ht j (by rw [Array.length_toList, hsz] at hj; exact hj)).2) (fun v hv => (Array.all_eq_true_iff_forall_mem.1 hone) v (by simpa using hv))
      simpa only [Nat.add_zero] using this
    have HK : Hid (∀ W, Below w.heap.size w W → Tryz.Ms 77 (W.setCells b 0 (Tryz.nrCells m.at_).toList) (fun k => k = b) b (newReq m.at_) ∧ Wo (fun k => k = b) w (W.setCells b 0 (Tryz.nrCells m.at_).toList)) := fun W hb => key W (newReq m.at_) hb rfl rfl rfl
    clear hl e1 h hth1 hth key hone
    generalize Tryz.nrCells m.at_ = NR at *
    go_enter Tryz.func33, Tryz.ntmps33
    go_wp2_with (first | (go_at_call 26; refine kr.mono ?_; clear kr; rintro e w1 ⟨rfl, hb1⟩; have hsv := HST.out w1 hb1) | fail)
    go_end0
    exact ⟨⟨_, rfl⟩, HK.out w1 hb1⟩
end Go.Proofs
namespace Go.Proofs
open Go.RowKit Go.Wi Go.Wb
set_option maxRecDepth 20000 in
set_option maxHeartbeats 2000000 in
theorem Tryz.request_any {T : TypeId} {w : World} {own : Nat → Prop} {b : Nat} {m : Msg} {aw ah ab : Option Addr} {cw ch cb : Nat} (h : Tryz.Mw T w own b m aw cw ah ch ab cb) :
    Calls Tryz.prog 32 #[.pointer (some ⟨b, 0, none⟩)] w fun e w' => e = .returned (.agg #[.string ⟨m.method.toArray⟩, .string ⟨m.target.toArray⟩, .slice ah m.headers.length ch, .slice ab m.body.length cb, .bool m.last]) ∧ Below w.heap.size w w' := by
  have hlt := h.lt b h.ob
  have hblk := h.blk
  clear h
  go_enter Tryz.func32, Tryz.ntmps32
  go_upto_region 1 with (fail)
  generalize hW : w.alloc _ = W
  have hg : W.heap[w.heap.size]? = some (.cells #[.string ⟨#[]⟩, .string ⟨#[]⟩, .slice none 0 0, .slice none 0 0, .bool false] 56 (0, 0)) := by rw [← hW]; exact heap_alloc_new w _
  have hb : Below w.heap.size w W := by rw [← hW]; exact (Below.refl _ w).alloc (Nat.le_refl _) _
  clear hW
  have hB := (hb.block b hlt).trans hblk
  have c7 : W.cell? ⟨b, 7, none⟩ = some (.string ⟨m.method.toArray⟩) := (cell_of_row _ _ 7 _ _ _ hB).trans rfl
  have c8 : W.cell? ⟨b, 8, none⟩ = some (.string ⟨m.target.toArray⟩) := (cell_of_row _ _ 8 _ _ _ hB).trans rfl
  have c13 : W.cell? ⟨b, 13, none⟩ = some (.slice ah m.headers.length ch) := (cell_of_row _ _ 13 _ _ _ hB).trans rfl
  have c19 : W.cell? ⟨b, 19, none⟩ = some (.slice ab m.body.length cb) := (cell_of_row _ _ 19 _ _ _ hB).trans rfl
  have c15 : W.cell? ⟨b, 15, none⟩ = some (.bool m.last) := (cell_of_row _ _ 15 _ _ _ hB).trans rfl
  have g0 : W.cell? ⟨w.heap.size, 0, none⟩ = some (.string ⟨#[]⟩) := cell_of_row _ _ 0 _ _ _ hg
  have g1 : W.cell? ⟨w.heap.size, 1, none⟩ = some (.string ⟨#[]⟩) := cell_of_row _ _ 1 _ _ _ hg
  have g2 : W.cell? ⟨w.heap.size, 2, none⟩ = some (.slice none 0 0) := cell_of_row _ _ 2 _ _ _ hg
  have g3 : W.cell? ⟨w.heap.size, 3, none⟩ = some (.slice none 0 0) := cell_of_row _ _ 3 _ _ _ hg
  have g4 : W.cell? ⟨w.heap.size, 4, none⟩ = some (.bool false) := cell_of_row _ _ 4 _ _ _ hg
  have z0 := frozen_of_row W w.heap.size 0 _ _ hg
  have z1 := frozen_of_row W w.heap.size 1 _ _ hg
  have z2 := frozen_of_row W w.heap.size 2 _ _ hg
  have z3 := frozen_of_row W w.heap.size 3 _ _ hg
  have z4 := frozen_of_row W w.heap.size 4 _ _ hg
  have HG : Hid _ := hg
  have HB : Hid _ := hb
  clear hg hb hB hblk hlt
  (refine Go.Lq.wp_region_last 21 (by kernel_rfl) (by kernel_rfl) ?_; dsimp only [List.dropLast]; (repeat (quiet_step (fail))); refine wpQuiet_nil ?_; intro _ hw'; obtain ⟨nq, hw''⟩ := hw'; subst hw''; refine Go.Lq.wpOp_last rfl rfl ?_; unfold Oper.wp; go_simp)
  go_wp2
  have e0 := heap_setCell_same (W.drewN nq) w.heap.size 0 _ _ (.string ⟨m.method.toArray⟩) HG.out
  have e1 := heap_setCell_same _ w.heap.size 1 _ _ (.string ⟨m.target.toArray⟩) e0
  have e2 := heap_setCell_same _ w.heap.size 2 _ _ (.slice ah m.headers.length ch) e1
  have e3 := heap_setCell_same _ w.heap.size 3 _ _ (.slice ab m.body.length cb) e2
  have e4 := heap_setCell_same _ w.heap.size 4 _ _ (.bool m.last) e3
  exact bodyPost_ret (results_cell_row rfl _ _ w.heap.size _ _ _ _ rfl e4 Tryz.underlying56 rfl (by kernel_rfl)) rfl ⟨rfl, (((((belowN HB.out nq).setCell (p := ⟨w.heap.size, 0, none⟩) (Nat.le_refl _) _).setCell (p := ⟨w.heap.size, 1, none⟩) (Nat.le_refl _) _).setCell (p := ⟨w.heap.size, 2, none⟩) (Nat.le_refl _) _).setCell (p := ⟨w.heap.size, 3, none⟩) (Nat.le_refl _) _).setCell (p := ⟨w.heap.size, 4, none⟩) (Nat.le_refl _) _⟩
set_option maxHeartbeats 1000000 in
theorem Tryz.wrong_any {T : TypeId} {w : World} {own : Nat → Prop} {b : Nat} {m : Msg} (h : Tryz.Ms T w own b m) :
    Calls Tryz.prog 21 #[.pointer (some ⟨b, 0, none⟩)] w fun e w' => (m.fErr = 0 ∧ e = .returned .nilIface ∨ m.fErr ≠ 0 ∧ e = .returned (.iface 97 (.pointer (some ⟨w.heap.size, 0, none⟩))) ∧ w'.heap[w.heap.size]? = some (.cells #[.int .i64 m.fAt, .int .i64 m.fErr] 63 (0, 0))) ∧ Below w.heap.size w w' := by
  obtain ⟨c20, c21⟩ : w.cell? ⟨b, 20, none⟩ = some (.int .i64 m.fAt) ∧ w.cell? ⟨b, 21, none⟩ = some (.int .i64 m.fErr) := by
    obtain ⟨aw, cw, ah, ch, ab, cb, hmw⟩ := h.ex
    exact ⟨(cell_of_row _ _ 20 _ _ _ hmw.blk).trans rfl, (cell_of_row _ _ 21 _ _ _ hmw.blk).trans rfl⟩
  clear h
  by_cases h0 : m.fErr = 0
  · have q : ((m.fErr : Int) == 0) = true := by rw [h0]; rfl
    have H0 : Hid (m.fErr = 0) := h0
    clear h0
    go_enter Tryz.func21, Tryz.ntmps21
    go_wp2
    go_ret
    exact ⟨.inl ⟨H0.out, rfl⟩, Below.refl _ _⟩
  · have q : ((m.fErr : Int) == 0) = false := by simp; omega
    have H0 : Hid (m.fErr ≠ 0) := h0
    clear h0
    go_enter Tryz.func21, Tryz.ntmps21
    go_wp2
    go_ret
    exact ⟨.inr ⟨H0.out, rfl, heap_alloc_new w _⟩, (Below.refl _ w).alloc (Nat.le_refl _) _⟩
/-- What waits, as a number. -/
def Wb.waitsI (m : Msg) : Int := if Wb.over m then 0 else (m.at_ : Int) - m.begin
set_option maxHeartbeats 1000000 in
theorem Tryz.waits_any {w : World} {own : Nat → Prop} {b : Nat} {m : Msg} (h : Tryz.Ms 77 w own b m) (hat : m.at_ ≤ 4611686018427387904) (hbg : m.begin ≤ 4611686018427387904) :
    Calls Tryz.prog 12 #[.pointer (some ⟨b, 0, none⟩)] w fun e w' => e = .returned (.int .i64 (Wb.waitsI m)) ∧ ∃ n, w' = w.drewN n := by
  obtain ⟨c2, c3⟩ : w.cell? ⟨b, 2, none⟩ = some (.int .i64 m.begin) ∧ w.cell? ⟨b, 3, none⟩ = some (.int .i64 m.at_) := by
    obtain ⟨aw, cw, ah, ch, ab, cb, hmw⟩ := h.ex
    exact ⟨(cell_of_row _ _ 2 _ _ _ hmw.blk).trans rfl, (cell_of_row _ _ 3 _ _ _ hmw.blk).trans rfl⟩
  have ko := Tryz.over_any h
  have hwr : IntKind.i64.wrap ((m.at_ : Int) - (m.begin : Int)) = (m.at_ : Int) - m.begin := by rw [IntKind.wrap_i64]; omega
  clear h
  unfold Wb.waitsI
  cases ho : Wb.over m with
  | true =>
    rw [ho] at ko
    rw [if_pos rfl]
    go_enter Tryz.func12, Tryz.ntmps12
    go_wp2_with (first | (go_at_call 27; refine ko.mono ?_; clear ko; rintro e w1 ⟨rfl, rfl⟩) | fail)
    go_ret
    exact ⟨rfl, 0, rfl⟩
  | false =>
    rw [ho] at ko
    rw [if_neg Bool.false_ne_true]
    go_enter Tryz.func12, Tryz.ntmps12
    go_wp2_with (first | (go_at_call 27; refine ko.mono ?_; clear ko; rintro e w1 ⟨rfl, rfl⟩) | fail)
    go_quiet (fail)
    go_wp2
    go_ret
    exact ⟨rfl, _, rfl⟩
end Go.Proofs
namespace Go.Wb
/-- A request, and where its rows lie. -/
structure Pr where
  rq : Rq
  ah : Option Addr
  ch : Nat
  ab : Option Addr
  cb : Nat
def Pr.vh (p : Pr) : Value := .slice p.ah p.rq.headers.length p.ch
def Pr.vb (p : Pr) : Value := .slice p.ab p.rq.body.length p.cb
def Pr.cells (p : Pr) : List Value := [.string ⟨p.rq.method.toArray⟩, .string ⟨p.rq.target.toArray⟩, p.vh, p.vb, .bool p.rq.last]
def prCells (l : List Pr) : List Value := l.flatMap Pr.cells
theorem prCells_app (a b : List Pr) : prCells (a ++ b) = prCells a ++ prCells b := by simp [prCells]
end Go.Wb
namespace Go.Proofs
open Go.RowKit Go.Wi Go.Wb
structure Tryz.PrOk (w : World) (P : Nat → Prop) (V : Value) (p : Pr) : Prop where
  heads : w.ownsRow 0 57 2 p.vh p.rq.headers.length (hdCells p.rq.headers)
  body : w.ownsRow 0 5 1 p.vb p.rq.body.length (Lib.byteCells p.rq.body)
  ph : ∀ k, p.vh.ownBlock = some k → P k ∧ V.ownBlock ≠ some k
  pb : ∀ k, p.vb.ownBlock = some k → P k ∧ V.ownBlock ≠ some k
/-- Requests in a row, in blocks of which P holds. -/
structure Tryz.Rl (w : World) (P : Nat → Prop) (V : Value) (rs : List Rq) : Prop where
  ex : ∃ ps : List Pr, rs = ps.map (·.rq) ∧ w.ownsRow 0 56 5 V ps.length (prCells ps) ∧ (∀ k, V.ownBlock = some k → P k) ∧ ∀ p ∈ ps, Tryz.PrOk w P V p
theorem Tryz.PrOk.keep {w w' : World} {P P' : Nat → Prop} {V : Value} {p : Pr} (h : Tryz.PrOk w P V p) (hk : ∀ k, k < w.heap.size → P k → V.ownBlock ≠ some k → w'.heap[k]? = w.heap[k]? ∧ P' k) : Tryz.PrOk w' P' V p :=
  ⟨row_keep h.heads fun k e => (hk k (h.heads.lt k e).2 (h.ph k e).1 (h.ph k e).2).1, row_keep h.body fun k e => (hk k (h.body.lt k e).2 (h.pb k e).1 (h.pb k e).2).1, fun k e => ⟨(hk k (h.heads.lt k e).2 (h.ph k e).1 (h.ph k e).2).2, (h.ph k e).2⟩, fun k e => ⟨(hk k (h.body.lt k e).2 (h.pb k e).1 (h.pb k e).2).2, (h.pb k e).2⟩⟩
theorem Tryz.Rl.keep {w w' : World} {P P' : Nat → Prop} {V : Value} {rs : List Rq} (h : Tryz.Rl w P V rs) (hk : ∀ k, k < w.heap.size → P k → w'.heap[k]? = w.heap[k]? ∧ P' k) : Tryz.Rl w' P' V rs := by
  obtain ⟨ps, h1, h2, h3, h4⟩ := h.ex
  exact ⟨ps, h1, row_keep h2 fun k e => (hk k (h2.lt k e).2 (h3 k e)).1, fun k e => (hk k (h2.lt k e).2 (h3 k e)).2, fun p hp => (h4 p hp).keep fun k a b _ => hk k a b⟩
theorem Tryz.Rl.none (w : World) (P : Nat → Prop) : Tryz.Rl w P (.slice none 0 0) [] := ⟨[], rfl, World.ownsRow_nil _ _ _ _, (fun k e => by cases e), (fun p hp => by cases hp)⟩
theorem Tryz.infoReq : (Tryz.prog.info? 56).map (fun i => (i.zero, i.size, i.bytes)) = some (some (.agg #[.string ByteArray.empty, .string ByteArray.empty, .slice none 0 0, .slice none 0 0, .bool false]), 5, 88) := by kernel_rfl
/-- 'append' of a request. -/
theorem Tryz.appReq {ops : Array Oper} {rest : List Oper} {o : Oper} {a : Act} {Q : Exit → Act → World → Prop} (hgd : o.guard = none) (s y : Operand)
    (ho : o.op = .call { callee := .builtin .append, args := #[s, y], argTypes := #[43, 43] })
    {w : World} {P P' : Nat → Prop} {V : Value} {rs : List Rq} (hR : Tryz.Rl w P V rs) (p : Pr) (hp : Tryz.PrOk w P V p) (hs : a.eval s = V) {H : Nat} (hy : a.eval y = .slice (some ⟨H, 0, none⟩) 1 1) (hH : H = w.heap.size) (hlen : rs.length + 1 ≤ 1000000000000)
    (hP : ∀ k, P k → P' k) (hP2 : ∀ k, w.heap.size ≤ k → P' k)
    (hK : ∀ g n cap w1, Tryz.Rl w1 P' (.slice (some ⟨g, 0, none⟩) n cap) (rs ++ [p.rq]) → Wo (fun k => V.ownBlock = some k) w w1 → wpList Tryz.prog ops Q rest (a.put o.dst (.slice (some ⟨g, 0, none⟩) n cap)) w1) :
    wpList Tryz.prog ops Q (o :: rest) a (w.alloc (.cells #[.string ⟨p.rq.method.toArray⟩, .string ⟨p.rq.target.toArray⟩, p.vh, p.vb, .bool p.rq.last] 56)) := by
  subst hH
  obtain ⟨ps, h1, h2, h3, h4⟩ := hR.ex
  have hpl : ps.length = rs.length := by rw [h1, List.length_map]
  obtain ⟨i0, hi0, hz0, hz1, hz2⟩ := info_parts Tryz.infoReq
  have hn := heap_alloc_new w (.cells #[.string ⟨p.rq.method.toArray⟩, .string ⟨p.rq.target.toArray⟩, p.vh, p.vb, .bool p.rq.last] 56)
  have hb : Below w.heap.size w (w.alloc (.cells #[.string ⟨p.rq.method.toArray⟩, .string ⟨p.rq.target.toArray⟩, p.vh, p.vb, .bool p.rq.last] 56)) := (Below.refl w.heap.size w).alloc (Nat.le_refl _) _
  have hrow1 := row_keep h2 fun k e => hb.block k (h2.lt k e).2
  have hsz : (w.alloc (.cells #[.string ⟨p.rq.method.toArray⟩, .string ⟨p.rq.target.toArray⟩, p.vh, p.vb, .bool p.rq.last] 56)).heap.size = w.heap.size + 1 := by simp
  refine wpList_append_lies _ hgd s y 43 ho 0 56 i0 _ 5 88 Tryz.underlying43 hi0 hz0 hz1 hz2 rfl (by omega) V ps.length (prCells ps) hs hrow1 ⟨w.heap.size, 0, none⟩ 1 1 p.cells hy rfl (World.news_of_block (cs := #[.string ⟨p.rq.method.toArray⟩, .string ⟨p.rq.target.toArray⟩, p.vh, p.vb, .bool p.rq.last]) hn) (fun u hu => by
    simp only [Pr.cells, List.mem_cons, List.not_mem_nil, or_false] at hu
    rcases hu with rfl | rfl | rfl | rfl | rfl <;> rfl) (by omega) (by unfold maxLen; omega) (by omega) (by omega) _ rfl ?_
  intro g cap w' hown hg hat hlt
  have hw : Wo (fun k => V.ownBlock = some k) w w' := (Wo.ofBelow hb).grown hg fun k e => .inl e
  have hl : V.ownBlock = some g ∨ w.heap.size ≤ g := by
    rcases hat with e1 | e1
    · exact .inl e1
    · exact .inr (by show w.heap.size ≤ g; rw [e1, hsz]; omega)
  have hne : ∀ k, k < w.heap.size → V.ownBlock ≠ some k → (Value.slice (some ⟨g, 0, none⟩) (ps.length + 1) cap).ownBlock ≠ some k := fun k hk hv e => by
    cases e
    rcases hl with e1 | e1
    · exact hv e1
    · have : g < w.heap.size := hk
      omega
  have hone : ∀ q : Pr, Tryz.PrOk w P V q → Tryz.PrOk w' P' (.slice (some ⟨g, 0, none⟩) (ps.length + 1) cap) q := fun q hq =>
    ⟨row_keep hq.heads fun k e => hw.block k (hq.heads.lt k e).2 (hq.ph k e).2, row_keep hq.body fun k e => hw.block k (hq.body.lt k e).2 (hq.pb k e).2, fun k e => ⟨hP k (hq.ph k e).1, hne k (hq.heads.lt k e).2 (hq.ph k e).2⟩, fun k e => ⟨hP k (hq.pb k e).1, hne k (hq.body.lt k e).2 (hq.pb k e).2⟩⟩
  refine hK g _ cap w' ⟨ps ++ [p], by rw [List.map_append, ← h1]; rfl, ?_, fun k e => ?_, fun q hq => ?_⟩ hw
  · rw [List.length_append, prCells_app]
    exact hown
  · cases e
    rcases hl with e1 | e1
    · exact hP g (h3 g e1)
    · exact hP2 g e1
  · rcases List.mem_append.1 hq with hq | hq
    · exact hone q (h4 q hq)
    · rw [List.mem_singleton.1 hq]; exact hone p hp
/-- The request that a message has become. -/
theorem Tryz.Mw.told {T : TypeId} {w : World} {own : Nat → Prop} {b : Nat} {m : Msg} {aw ah ab : Option Addr} {cw ch cb : Nat} (h : Tryz.Mw T w own b m aw cw ah ch ab cb) {V : Value} (hV : ∀ k, V.ownBlock = some k → ¬ own k) : Tryz.PrOk w (fun k => own k ∧ k ≠ b) V ⟨req m, ah, ch, ab, cb⟩ :=
  ⟨h.heads, h.body, fun k e => ⟨⟨(h.dh k e).1, (h.dh k e).2.1⟩, fun e' => hV k e' (h.dh k e).1⟩, fun k e => ⟨⟨(h.db k e).1, (h.db k e).2⟩, fun e' => hV k e' (h.db k e).1⟩⟩
end Go.Proofs
namespace Go.Wb
theorem Good.rd {m : Msg} (h : Good m) : ∀ (l : List UInt8), Good (rd m l).1 ∧ (rd m l).1.at_ ≤ m.at_ + (rd m l).2 ∧ (rd m l).2 ≤ l.length := by
  intro l
  induction l generalizing m with
  | nil => exact ⟨h, Nat.le_refl _, Nat.le_refl _⟩
  | cons c r ih =>
    cases ho : over m with
    | true => rw [rd_over ho]; exact ⟨h, Nat.le_refl _, Nat.zero_le _⟩
    | false =>
      rw [rd_cons ho]
      obtain ⟨h1, h2, h3⟩ := ih (h.bite c)
      have := bite_at m c
      exact ⟨h1, by show (Wb.rd (Wb.bite m c) r).1.at_ ≤ m.at_ + ((Wb.rd (Wb.bite m c) r).2 + 1); omega, by show (Wb.rd (Wb.bite m c) r).2 + 1 ≤ (c :: r).length; rw [List.length_cons]; omega⟩
theorem rd_pos {m : Msg} (h : over m = false) {l : List UInt8} (hl : l ≠ []) : 0 < (rd m l).2 := by
  cases l with
  | nil => exact absurd rfl hl
  | cons c r => rw [rd_cons h]; exact Nat.succ_pos _
theorem goOn_at (m : Msg) : (goOn m).at_ ≤ m.at_ := by unfold goOn; split; exact Nat.zero_le _; exact Nat.le_refl _
def sliceLen : Value → Nat
  | .slice _ n _ => n
  | _ => 0
end Go.Wb
namespace Go.Proofs
open Go.RowKit Go.Wi Go.Wb
/-- The rest of a row of bytes. -/
theorem Wb.bs_rest {w : World} {g o n cap : Nat} {l : List UInt8} (h : Bs w (.slice (some ⟨g, o, none⟩) n cap) l) {K : Nat} (hK : K ≤ n) (ad : Option Addr) (had : ad = some ⟨g, o + K, none⟩ ∨ K = n ∧ ∃ a, ad = some a) : Bs w (.slice ad (n - K) (cap - K)) (l.drop K) := by
  obtain ⟨ad', cap', e, hc, hn, h1⟩ := h.ex
  injection e with e1 e2 e3
  subst e2 e3
  refine ⟨ad, cap - K, by rw [List.length_drop], by rw [List.length_drop]; omega, (fun e => by rcases had with q | ⟨_, a, q⟩ <;> rw [q] at e <;> cases e), ?_⟩
  rcases had with rfl | ⟨rfl, a, rfl⟩
  · rcases h1 with rfl | ⟨g', o', e, hg, h2⟩
    · exact .inl (by simp)
    · rw [← e1] at e
      cases e
      refine .inr ⟨g, o + K, rfl, hg, fun j u hu => ?_⟩
      rw [Nat.add_assoc]
      refine h2 (K + j) u ?_
      rw [← hu]
      simp only [Lib.byteCells, List.getElem?_map, List.getElem?_drop]
  · exact .inl (List.drop_of_length_le (Nat.le_refl _))
/-- What a Feed leaves: the requests that it told, the fault's value. -/
structure Tryz.Fed (own : Nat → Prop) (w w' : World) (b : Nat) (m : Msg) (V ev : Value) (rs : List Rq) (own' : Nat → Prop) : Prop where
  ms : Tryz.Ms 77 w' own' b m
  sub : ∀ k, own' k → own k ∨ w.heap.size ≤ k
  wo : Wo own w w'
  rl : Tryz.Rl w' (fun k => (own k ∨ w.heap.size ≤ k) ∧ ¬ own' k) V rs
  err : m.fErr = 0 ∧ ev = .nilIface ∨ m.fErr ≠ 0 ∧ ∃ g, ev = .iface 97 (.pointer (some ⟨g, 0, none⟩)) ∧ w'.heap[g]? = some (.cells #[.int .i64 m.fAt, .int .i64 m.fErr] 63 (0, 0)) ∧ w.heap.size ≤ g ∧ ¬ own' g
theorem Wb.err_value {e : Ending} {A B C : Prop} {x y : Value} (h : A ∧ e = .returned x ∨ B ∧ e = .returned y ∧ C) : ∃ ev, e = .returned ev ∧ (A ∧ ev = x ∨ B ∧ ev = y ∧ C) := by
  rcases h with ⟨h1, h2⟩ | ⟨h1, h2, h3⟩
  · exact ⟨x, h2, .inl ⟨h1, rfl⟩⟩
  · exact ⟨y, h2, .inr ⟨h1, rfl, h3⟩⟩
theorem Tryz.fed_end {own own1 : Nat → Prop} {w wr w1 : World} {b : Nat} {mk : Msg} {V ev : Value} {rs : List Rq} (hms : Tryz.Ms 77 wr own1 b mk) (hsub : ∀ k, own1 k → own k ∨ w.heap.size ≤ k) (hwo : Wo own w wr) (hrl : Tryz.Rl wr (fun k => (own k ∨ w.heap.size ≤ k) ∧ ¬ own1 k) V rs) (hb : Below wr.heap.size wr w1)
    (hev : mk.fErr = 0 ∧ ev = .nilIface ∨ mk.fErr ≠ 0 ∧ ev = .iface 97 (.pointer (some ⟨wr.heap.size, 0, none⟩)) ∧ w1.heap[wr.heap.size]? = some (.cells #[.int .i64 mk.fAt, .int .i64 mk.fErr] 63 (0, 0))) : Tryz.Fed own w w1 b mk V ev rs own1 := by
  refine ⟨hms.below hb, hsub, hwo.below hb hwo.size, hrl.keep fun k hk hp => ⟨hb.block k hk, hp⟩, ?_⟩
  rcases hev with h | ⟨h1, h2, h3⟩
  · exact .inl h
  · refine .inr ⟨h1, _, h2, h3, hwo.size, fun e => ?_⟩
    obtain ⟨aw, cw, ah, ch, ab, cb, hmw⟩ := hms.ex
    exact absurd (hmw.lt _ e) (Nat.lt_irrefl _)
theorem Tryz.fed_next {own own1 own2 : Nat → Prop} {w wr w2 : World} {V : Value} {rs : List Rq} (hsub : ∀ k, own1 k → own k ∨ w.heap.size ≤ k) (hwo : Wo own w wr) (hrl : Tryz.Rl wr (fun k => (own k ∨ w.heap.size ≤ k) ∧ ¬ own1 k) V rs) (hw : Wo own1 wr w2) (ho : ∀ k, own2 k → own1 k ∨ wr.heap.size ≤ k) :
    (∀ k, own2 k → own k ∨ w.heap.size ≤ k) ∧ Wo own w w2 ∧ Tryz.Rl w2 (fun k => (own k ∨ w.heap.size ≤ k) ∧ ¬ own2 k) V rs := by
  have hs := hwo.size
  refine ⟨fun k e => ?_, hwo.step hsub hw, hrl.keep fun k hk hp => ⟨hw.block k hk hp.2, hp.1, fun e => ?_⟩⟩
  · rcases ho k e with e1 | e1
    · exact hsub k e1
    · exact .inr (by omega)
  · rcases ho k e with e1 | e1
    · exact hp.2 e1
    · omega
theorem Tryz.fed_told {own own2 : Nat → Prop} {w w2 W4 : World} {b : Nat} {m1 : Msg} {aw ah ab : Option Addr} {cw ch cb : Nat} {V : Value} {rs : List Rq} (hmw : Tryz.Mw 77 w2 own2 b m1 aw cw ah ch ab cb) (hsub : ∀ k, own2 k → own k ∨ w.heap.size ≤ k) (hrl : Tryz.Rl w2 (fun k => (own k ∨ w.heap.size ≤ k) ∧ ¬ own2 k) V rs) (hb : Below w2.heap.size w2 W4) :
    Tryz.Rl W4 (fun k => (own k ∨ w.heap.size ≤ k) ∧ k ≠ b) V rs ∧ Tryz.PrOk W4 (fun k => (own k ∨ w.heap.size ≤ k) ∧ k ≠ b) V ⟨req m1, ah, ch, ab, cb⟩ ∧ (∀ k, V.ownBlock = some k → ¬ own2 k ∧ k < w2.heap.size ∧ (own k ∨ w.heap.size ≤ k)) ∧ (w.heap.size ≤ w2.heap.size → ∀ k, W4.heap.size ≤ k → (own k ∨ w.heap.size ≤ k) ∧ k ≠ b) := by
  have hV : ∀ k, V.ownBlock = some k → ¬ own2 k ∧ k < w2.heap.size ∧ (own k ∨ w.heap.size ≤ k) := fun k e => by
    obtain ⟨ps, h1, h2, h3, h4⟩ := hrl.ex
    exact ⟨(h3 k e).2, (h2.lt k e).2, (h3 k e).1⟩
  refine ⟨hrl.keep fun k hk hp => ⟨hb.block k hk, hp.1, fun e => hp.2 (e ▸ hmw.ob)⟩, ?_, hV, fun hs k hk => ?_⟩
  · exact (hmw.told fun k e => (hV k e).1).keep fun k hk hp _ => ⟨hb.block k hk, hsub k hp.1, hp.2⟩
  · have h1 := hmw.lt b hmw.ob
    have h2 := hb.size
    exact ⟨.inr (by omega), by omega⟩
theorem Tryz.fed_app {own own2 : Nat → Prop} {w w2 W4 w5 : World} {b : Nat} {m1 : Msg} {aw ah ab : Option Addr} {cw ch cb : Nat} {V : Value} (hmw : Tryz.Mw 77 w2 own2 b m1 aw cw ah ch ab cb) (hb : Below w2.heap.size w2 W4) (hV : ∀ k, V.ownBlock = some k → ¬ own2 k ∧ k < w2.heap.size ∧ (own k ∨ w.heap.size ≤ k)) (hw : Wo (fun k => V.ownBlock = some k) W4 w5) :
    Tryz.Ms 77 w5 own2 b m1 ∧ ∀ x, w2.heap.size ≤ x → x < W4.heap.size → w5.heap[x]? = W4.heap[x]? := by
  refine ⟨⟨aw, cw, ah, ch, ab, cb, hmw.keep (fun k e => ?_) (Nat.le_trans hb.size hw.size)⟩, fun x h1 h2 => hw.block x h2 fun e => ?_⟩
  · have hk := hmw.lt k e
    exact (hw.block k (Nat.lt_of_lt_of_le hk hb.size) fun e' => (hV k e').1 e).trans (hb.block k hk)
  · have := (hV x e).2.1
    omega
set_option maxRecDepth 20000 in
set_option maxHeartbeats 4000000 in
theorem Tryz.feed_any {w : World} {own : Nat → Prop} {b : Nat} {m : Msg} (h : Tryz.Ms 77 w own b m) (hG : Wb.Good m) {V : Value} {l : List UInt8} (hV : Bs w V l) (hVo : ∀ k, V.ownBlock = some k → ¬ own k ∧ k < w.heap.size) (hat : m.at_ + l.length ≤ 140737488355328) (hll : l.length ≤ 999999999999) :
    Calls Tryz.prog 16 #[.pointer (some ⟨b, 0, none⟩), V] w fun e w' => ∃ ad n cap ev own', e = .returned (.tuple #[.slice ad n cap, ev]) ∧ Tryz.Fed own w w' b (fd m l).2 (.slice ad n cap) ev (fd m l).1 own' := by
  have HI : Hid (∃ (k : Nat) (mk : Msg) (rs : List Rq) (own1 : Nat → Prop) (ad : Option Addr) (n cap : Nat), Bs w V (l.drop k) ∧ (∀ j, V.ownBlock = some j → ¬ own j ∧ j < w.heap.size) ∧ k ≤ l.length ∧ fd m l = (rs ++ (fd mk (l.drop k)).1, (fd mk (l.drop k)).2) ∧ Wb.Good mk ∧ mk.at_ ≤ m.at_ + k ∧ Tryz.Ms 77 w own1 b mk ∧ (∀ k, own1 k → own k ∨ w.heap.size ≤ k) ∧ Wo own w w ∧ (Value.slice none 0 0 = .slice ad n cap) ∧ Tryz.Rl w (fun k => (own k ∨ w.heap.size ≤ k) ∧ ¬ own1 k) (.slice none 0 0) rs ∧ rs.length ≤ k) :=
    ⟨0, m, [], own, none, 0, 0, hV, hVo, Nat.zero_le _, by simp, hG, Nat.le_refl _, h, fun _ e => .inl e, Wo.refl _ _, rfl, Tryz.Rl.none _ _, Nat.le_refl _⟩
  have HAT : Hid (m.at_ + l.length ≤ 140737488355328) := hat
  have HLL : Hid (l.length ≤ 999999999999) := hll
  obtain ⟨adV, capV, rfl, -⟩ := hV.ex
  clear hV hVo hat h hG hll
  go_enter Tryz.func16, Tryz.ntmps16
  go_wp2
  go_loopw [1, 6, 7] (fun Vb Vw _ wr => ∃ (k : Nat) (mk : Msg) (rs : List Rq) (own1 : Nat → Prop) (ad : Option Addr) (n cap : Nat), Bs wr Vb (l.drop k) ∧ (∀ j, Vb.ownBlock = some j → ¬ own j ∧ j < w.heap.size) ∧ k ≤ l.length ∧ fd m l = (rs ++ (fd mk (l.drop k)).1, (fd mk (l.drop k)).2) ∧ Wb.Good mk ∧ mk.at_ ≤ m.at_ + k ∧ Tryz.Ms 77 wr own1 b mk ∧ (∀ k, own1 k → own k ∨ w.heap.size ≤ k) ∧ Wo own w wr ∧ (Vw = .slice ad n cap) ∧ Tryz.Rl wr (fun k => (own k ∨ w.heap.size ≤ k) ∧ ¬ own1 k) Vw rs ∧ rs.length ≤ k) (fun Vb _ _ _ => sliceLen Vb)
  case atStart => exact HI.out
  case round =>
    clear HI
    obtain ⟨k, mk, rs, own1, ad, n, cap, hBs, hVo, hk, hfd, hG, hmat, hm, hsub, hwo, rfl, hrl, hrk⟩ := hrel
    obtain ⟨adb, capb, rfl, hcapb, hnilb, hxb⟩ := hBs.ex
    have HBs : Hid (Bs wr (.slice adb (l.drop k).length capb) (l.drop k)) := hBs
    have HVO : Hid (∀ j, (Value.slice adb (l.drop k).length capb).ownBlock = some j → ¬ own j ∧ j < w.heap.size) := hVo
    have HFD : Hid (fd m l = (rs ++ (fd mk (l.drop k)).1, (fd mk (l.drop k)).2)) := hfd
    have HG : Hid (Wb.Good mk) := hG
    have HMA : Hid (mk.at_ ≤ m.at_ + k) := hmat
    have HMS : Hid (Tryz.Ms 77 wr own1 b mk) := hm
    have HSUB : Hid (∀ k, own1 k → own k ∨ w.heap.size ≤ k) := hsub
    have HWO : Hid (Wo own w wr) := hwo
    have HRL : Hid (Tryz.Rl wr (fun k => (own k ∨ w.heap.size ≤ k) ∧ ¬ own1 k) (.slice ad n cap) rs) := hrl
    have HRK : Hid (rs.length ≤ k) := hrk
    have HK : Hid (k ≤ l.length) := hk
    have ko := Tryz.over_any hm
    have hob : own1 b := by obtain ⟨aw, cw, ah, ch, ab, cb, hmw⟩ := hm.ex; exact hmw.ob
    clear hBs hVo hfd hG hmat hm hsub hwo hrl hrk hk
    obtain ⟨L, hL⟩ : ∃ L, l.drop k = L := ⟨_, rfl⟩
    have HLk : Hid (L.length + k = l.length) := (by show L.length + k = l.length; rw [← hL, List.length_drop]; have := HK.out; omega)
    have HLD : Hid (∀ j, L.drop j = l.drop (k + j)) := fun j => by rw [← hL, List.drop_drop]
    rw [hL] at HBs HVO HFD hcapb hxb ⊢
    clear hL
    by_cases hlt : 0 < L.length
    · have q : (0 : Int) < (L.length : Int) := by omega
      have hLn : L ≠ [] := by intro e; rw [e] at hlt; cases hlt
      obtain ⟨g, o, rfl⟩ : ∃ g o, adb = some ⟨g, o, none⟩ := by
        rcases hxb with e | ⟨g, o, e, _⟩
        · exact absurd e hLn
        · exact ⟨g, o, e⟩
      cases hov : Wb.over mk with
      | true =>
        rw [hov] at ko
        have kw := Tryz.wrong_any HMS.out
        have HE : Hid (fd m l = (rs, mk)) := (by show fd m l = (rs, mk); have := HFD.out; rw [fd_over hov] at this; simpa using this)
        clear hxb hcapb hov
        go_wp2_with (first
          | (go_at_call 27; refine ko.mono ?_; clear ko; rintro e w1 ⟨rfl, rfl⟩)
          | (go_at_call 21; refine kw.mono ?_; clear kw; rintro e w1 ⟨he1, hb1⟩; obtain ⟨ev, rfl, hev⟩ := Wb.err_value he1)
          | fail)
        go_ret2
        exact ⟨ad, n, cap, ev, own1, rfl, by rw [HE.out]; exact Tryz.fed_end HMS.out HSUB.out HWO.out HRL.out hb1 hev⟩
      | false =>
        rw [hov] at ko
        have hl1 := HLk.out
        have hl2 := HMA.out
        have hl3 := HAT.out
        have kr := Tryz.read_any HMS.out HG.out HBs.out (fun j e => fun e' => by
          obtain ⟨a1, a2⟩ := HVO.out j e
          rcases HSUB.out j e' with q | q
          · exact a1 q
          · omega) (by have := (HG.out.rd L).2.2; omega) (by omega)
        obtain ⟨hG1, ha1, hK1⟩ := HG.out.rd L
        have hKp := rd_pos hov hLn
        have HFR : Hid _ := fd_rd hov L hLn
        obtain ⟨K, hKe⟩ : ∃ K, (rd mk L).2 = K := ⟨_, rfl⟩
        obtain ⟨m1, hm1e⟩ : ∃ m1, (rd mk L).1 = m1 := ⟨_, rfl⟩
        rw [hKe, hm1e] at kr ha1 HFR
        rw [hm1e] at hG1
        rw [hKe] at hK1 hKp
        have HG1 : Hid (Wb.Good m1) := hG1
        have HA1 : Hid (m1.at_ ≤ mk.at_ + K) := ha1
        clear hG1 ha1 hm1e hKe hl1 hl2 hl3 hov
        have HKp : Hid (0 < K ∧ K ≤ L.length) := ⟨hKp, hK1⟩
        have HRest : Hid (∀ W, (∀ j, (Value.slice (some ⟨g, o, none⟩) L.length capb).ownBlock = some j → W.heap[j]? = wr.heap[j]?) → Bs W (.slice (if capb = K then some ⟨g, o, none⟩ else some ⟨g, o + K, none⟩) (L.length - K) (capb - K)) (l.drop (k + K))) := fun W hW => by
          rw [← HLD.out]
          refine Wb.bs_rest (HBs.out.keep hW) hK1 _ ?_
          by_cases e : capb = K
          · exact .inr ⟨by omega, _, if_pos e⟩
          · exact .inl (if_neg e)
        have HVO2 : Hid (∀ j, (Value.slice (if capb = K then some ⟨g, o, none⟩ else some ⟨g, o + K, none⟩) (L.length - K) (capb - K)).ownBlock = some j → ¬ own j ∧ j < w.heap.size) := fun j e => HVO.out j (by
          by_cases e1 : capb = K
          · rw [if_pos e1] at e; exact e
          · rw [if_neg e1] at e; exact e)
        rw [HLD.out] at HFR
        have HOG : Hid (¬ own1 g) := fun e' => by
          obtain ⟨a1, a2⟩ := HVO.out g rfl
          rcases HSUB.out g e' with q | q
          · exact a1 q
          · omega
        have HGW : Hid (g < wr.heap.size) := Nat.lt_of_lt_of_le (HVO.out g rfl).2 HWO.out.size
        clear hxb hnilb
        cases hwh : Wb.whole m1 with
        | false =>
          have HF : Hid (fd m l = (rs ++ (fd m1 (l.drop (k + K))).1, (fd m1 (l.drop (k + K))).2)) := (by
            show fd m l = _
            rw [HFD.out, HFR.out, hwh]
            rfl)
          have kWh : ∀ w2, Tryz.MChg 77 own1 wr w2 b m1 → Calls Tryz.prog 20 #[.pointer (some ⟨b, 0, none⟩)] w2 fun e w' => e = .returned (.bool false) ∧ w' = w2 := fun w2 hC => by
            obtain ⟨own2, hm2, ho2⟩ := hC.ex
            have := Tryz.whole_any hm2
            rw [hwh] at this
            exact this
          clear hwh
          go_wp2_with (first
            | (go_at_call 27; refine ko.mono ?_; clear ko; rintro e w1 ⟨rfl, rfl⟩)
            | (go_at_call 19; refine kr.mono ?_; clear kr; rintro e w2 ⟨rfl, hC⟩; have kw2 := kWh w2 hC; clear kWh)
            | (go_at_call 20; refine kw2.mono ?_; clear kw2; rintro e w1 ⟨rfl, rfl⟩)
            | fail)
          go_roundw
          case rel =>
            obtain ⟨own2, hm2, ho2⟩ := hC.ex
            obtain ⟨n1, n2, n3⟩ := Tryz.fed_next HSUB.out HWO.out HRL.out hC.wo ho2
            have z1 := HKp.out
            have z2 := HLk.out
            have z3 := HMA.out
            have z4 := HA1.out
            have z5 := HRK.out
            exact ⟨k + K, m1, rs, own2, ad, n, cap, HRest.out _ (fun j e => by cases e; exact hC.wo.block g HGW.out HOG.out), HVO2.out, by omega, HF.out, HG1.out, by omega, hm2, n1, n2, rfl, n3, by omega⟩
          case measure => have := HKp.out; simp [sliceLen]; omega
        | true =>
          have HF : Hid (fd m l = ((rs ++ [req m1]) ++ (fd (goOn m1) (l.drop (k + K))).1, (fd (goOn m1) (l.drop (k + K))).2)) := (by
            show fd m l = _
            rw [HFD.out, HFR.out, hwh, if_pos rfl, List.append_assoc]
            rfl)
          have kWh : ∀ w2, Tryz.MChg 77 own1 wr w2 b m1 → Calls Tryz.prog 20 #[.pointer (some ⟨b, 0, none⟩)] w2 fun e w' => e = .returned (.bool true) ∧ w' = w2 := fun w2 hC => by
            obtain ⟨own2, hm2, ho2⟩ := hC.ex
            have := Tryz.whole_any hm2
            rw [hwh] at this
            exact this
          have HLEN : Hid (rs.length + 1 ≤ 1000000000000) := (by show rs.length + 1 ≤ _; have := HRK.out; have := HK.out; have := HLL.out; omega)
          clear hwh
          go_upto_region 4 with (first
            | (go_at_call 27; refine ko.mono ?_; clear ko; rintro e wr ⟨rfl, rfl⟩)
            | (go_at_call 19; refine kr.mono ?_; clear kr; rintro e w2 ⟨rfl, hC⟩)
            | fail)
          have kw2 := kWh w2 hC
          clear kWh
          obtain ⟨own2, ⟨aw, cw, ah, ch, ab, cb, hmw⟩, ho2⟩ := hC.ex
          have krq := Tryz.request_any hmw
          have HMW : Hid (Tryz.Mw 77 w2 own2 b m1 aw cw ah ch ab cb) := hmw
          have HC : Hid (Tryz.MChg 77 own1 wr w2 b m1) := hC
          have HO2 : Hid (∀ k, own2 k → own1 k ∨ wr.heap.size ≤ k) := ho2
          have hN := Tryz.fed_next HSUB.out HWO.out HRL.out hC.wo ho2
          have HN : Hid ((∀ k, own2 k → own k ∨ w.heap.size ≤ k) ∧ Wo own w w2 ∧ Tryz.Rl w2 (fun k => (own k ∨ w.heap.size ≤ k) ∧ ¬ own2 k) (.slice ad n cap) rs) := hN
          clear hmw hC ho2 hN
          go_upto_region 6 with (first
            | (go_at_call 20; refine kw2.mono ?_; clear kw2; rintro e w2 ⟨rfl, rfl⟩)
            | (go_at_call 32; refine krq.mono ?_; clear krq; rintro e w3 ⟨rfl, hb3⟩)
            | fail)
          have HB4 : Hid (Below w2.heap.size w2 (w3.alloc (.cells #[.string ⟨m1.method.toArray⟩, .string ⟨m1.target.toArray⟩, .slice ah m1.headers.length ch, .slice ab m1.body.length cb, .bool m1.last] 56))) := hb3.trans (((Below.refl _ w3).alloc (Nat.le_refl _) _).mono hb3.size)
          have hbx := heap_alloc_new w3 (.cells #[.string ⟨m1.method.toArray⟩, .string ⟨m1.target.toArray⟩, .slice ah m1.headers.length ch, .slice ab m1.body.length cb, .bool m1.last] 56)
          have HX3 : Hid (w2.heap.size ≤ w3.heap.size) := hb3.size
          clear hb3
          generalize w3.alloc _ = W4 at *
          generalize w3.heap.size = x3 at *
          have HBX : Hid (W4.heap[x3]? = some (.cells #[.string ⟨m1.method.toArray⟩, .string ⟨m1.target.toArray⟩, .slice ah m1.headers.length ch, .slice ab m1.body.length cb, .bool m1.last] 56 (0, 0))) := hbx
          have b0 := cell_of_row _ _ 0 _ _ _ hbx
          have b1 := cell_of_row _ _ 1 _ _ _ hbx
          have b2 := cell_of_row _ _ 2 _ _ _ hbx
          have b3 := cell_of_row _ _ 3 _ _ _ hbx
          have b4 := cell_of_row _ _ 4 _ _ _ hbx
          simp only [List.getElem?_toArray, List.getElem?_cons_succ, List.getElem?_cons_zero] at b0 b1 b2 b3 b4
          have hT4 := Tryz.fed_told HMW.out HN.out.1 HN.out.2.2 HB4.out
          have HR4 : Hid (Tryz.Rl W4 (fun k => (own k ∨ w.heap.size ≤ k) ∧ k ≠ b) (.slice ad n cap) rs) := hT4.1
          have HP4 : Hid (Tryz.PrOk W4 (fun k => (own k ∨ w.heap.size ≤ k) ∧ k ≠ b) (.slice ad n cap) ⟨req m1, ah, ch, ab, cb⟩) := hT4.2.1
          have HV4 : Hid (∀ k, (Value.slice ad n cap).ownBlock = some k → ¬ own2 k ∧ k < w2.heap.size ∧ (own k ∨ w.heap.size ≤ k)) := hT4.2.2.1
          have HN4 : Hid (∀ k, W4.heap.size ≤ k → (own k ∨ w.heap.size ≤ k) ∧ k ≠ b) := hT4.2.2.2 HN.out.2.1.size
          clear hT4 hbx
          go_upto_region 7 with (first
            | (at_builtin; refine Tryz.appReq rfl _ _ rfl HR4.out ⟨req m1, ah, ch, ab, cb⟩ HP4.out rfl rfl (by simp) HLEN.out (fun _ e => e) HN4.out ?_; intro g5 n5 cap5 w5 hR5 hw5)
            | fail)
          have hA5 := Tryz.fed_app HMW.out HB4.out HV4.out hw5
          have hx5 := (hA5.2 x3 HX3.out (block_lt HBX.out)).trans HBX.out
          have d4 : w5.cell? ⟨x3, 4, none⟩ = some (.bool m1.last) := (cell_of_row _ _ 4 _ _ _ hx5).trans rfl
          have kgo := Tryz.goOn_any hA5.1
          have HR5 : Hid (Tryz.Rl w5 (fun k => (own k ∨ w.heap.size ≤ k) ∧ k ≠ b) (.slice (some ⟨g5, 0, none⟩) n5 cap5) (rs ++ [req m1])) := hR5
          have HW5 : Hid (Wo (fun k => (Value.slice ad n cap).ownBlock = some k) W4 w5) := hw5
          clear hA5 hx5 hR5 hw5 b0 b1 b2 b3 b4
          go_wp2_with (first
            | (go_at_call 33; refine kgo.mono ?_; clear kgo; rintro e w6 ⟨⟨v6, rfl⟩, hm6, hw6⟩)
            | fail)
          go_roundw
          case rel =>
            have z1 := HKp.out
            have z2 := HLk.out
            have z3 := HMA.out
            have z4 := HA1.out
            have z5 := HRK.out
            have z6 := goOn_at m1
            have hs4 := HB4.out.size
            have hob2 := HMW.out.ob
            have hbl := HMW.out.lt b hob2
            have hwo4 : Wo own w W4 := HN.out.2.1.below HB4.out HN.out.2.1.size
            have hwo5 : Wo own w w5 := hwo4.step (fun j e => (HV4.out j e).2.2) HW5.out
            have hwo6 : Wo own w w6 := hwo5.step (fun j e => by rw [e]; exact HN.out.1 b hob2) hw6
            have hs5 := HW5.out.size
            refine ⟨k + K, goOn m1, rs ++ [req m1], (fun j => j = b), some ⟨g5, 0, none⟩, n5, cap5, HRest.out _ (fun j e => ?_), HVO2.out, by omega, HF.out, HG1.out.goOn, by omega, hm6, (fun j e => by rw [e]; exact HN.out.1 b hob2), hwo6, rfl, HR5.out.keep fun j hj hp => ⟨hw6.block j hj hp.2, hp⟩, by rw [List.length_append, List.length_singleton]; omega⟩
            cases e
            have hgw := HGW.out
            have hg2 : g < w2.heap.size := Nat.lt_of_lt_of_le hgw HC.out.wo.size
            have hvg := HVO.out g rfl
            have hgb : g ≠ b := fun e => HOG.out (e ▸ hob)
            rw [hw6.block g (by omega) hgb, HW5.out.block g (by omega) (fun e => by
              rcases (HV4.out g e).2.2 with q | q
              · exact hvg.1 q
              · have := hvg.2; omega), HB4.out.block g hg2]
            exact HC.out.wo.block g hgw HOG.out
          case measure => have := HKp.out; simp [sliceLen]; omega
    · have q : ¬ (0 : Int) < (L.length : Int) := by omega
      have hL0 : L = [] := List.eq_nil_of_length_eq_zero (by omega)
      have kw := Tryz.wrong_any HMS.out
      have HE : Hid (fd m l = (rs, mk)) := (by show fd m l = (rs, mk); have := HFD.out; rw [hL0, show fd mk [] = ([], mk) from rfl] at this; simpa using this)
      clear hxb hcapb hL0
      go_wp2_with (first
        | (go_at_call 27; refine ko.mono ?_; clear ko; rintro e w1 ⟨rfl, rfl⟩)
        | (go_at_call 21; refine kw.mono ?_; clear kw; rintro e w1 ⟨he1, hb1⟩; obtain ⟨ev, rfl, hev⟩ := Wb.err_value he1)
        | fail)
      go_ret2
      exact ⟨ad, n, cap, ev, own1, rfl, by rw [HE.out]; exact Tryz.fed_end HMS.out HSUB.out HWO.out HRL.out hb1 hev⟩
end Go.Proofs
