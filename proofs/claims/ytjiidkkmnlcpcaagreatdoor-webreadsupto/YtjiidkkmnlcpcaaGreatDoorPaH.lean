/-
  Laid together by packg.py of Yg Yh.
-/
import Derived.Test.YtjiidkkmnlcpcaaGreatDoorPaF
import Derived.Deep.WholeRow
namespace Go.Proofs
open Go.RowKit Go.Wi Go.Wb
/-- A new response's cells. -/
def Tryz.nsCells : Array Value := Tryz.mc newRes (.slice none 0 0) (.slice none 0 0) (.slice none 0 0)
set_option maxRecDepth 20000 in
set_option maxHeartbeats 1000000 in
theorem Tryz.newResponse_any (w : World) :
    Calls Tryz.prog 18 #[] w fun e w' => e = .returned (.agg Tryz.nsCells) ∧ Below w.heap.size w w' := by
  go_enter Tryz.func18, Tryz.ntmps18
  go_upto_region 1 with (fail)
  generalize hW : w.alloc _ = W
  have hg : W.heap[w.heap.size]? = some (.cells (Tryz.mc zero (.slice none 0 0) (.slice none 0 0) (.slice none 0 0)) 65 (0, 0)) := by rw [← hW]; exact heap_alloc_new w _
  have hb : Below w.heap.size w W := by rw [← hW]; exact (Below.refl _ w).alloc (Nat.le_refl _) _
  clear hW
  refine wp_region_lit ?_
  refine Wb.step_value rfl (v := .agg #[Tryz.tkV .inVersion, Tryz.thV .statusFollows]) (w' := W) (by kernel_rfl) ?_
  refine Wb.step_value rfl (v := .agg Tryz.nsCells) (w' := W) (by kernel_rfl) ?_
  have hth : W.there w.heap.size 0 22 := fun j hj => by
    rw [Nat.zero_add]
    exact ⟨by rw [cell_of_row _ _ j _ _ _ hg, Array.getElem?_eq_getElem (by rw [Tryz.mc_size]; exact hj)]; rfl, frozen_of_row _ _ j _ _ hg⟩
  refine wpList_store_mid rfl 65 _ _ rfl w.heap.size 0 _ rfl rfl hth (by kernel_rfl) (by kernel_rfl) ?_
  have hr := Wb.setCells_row w.heap.size 65 Tryz.nsCells.toList 0 W _ hg (Nat.le_of_eq rfl)
  have hb2 : Below w.heap.size w (W.setCells w.heap.size 0 Tryz.nsCells.toList) := Wo.toBelow hb (Wb.setCells_wo (own := fun k => w.heap.size ≤ k) w.heap.size (Nat.le_refl _) _ 0 W W (Wo.refl _ _)) (fun k e => e) hb.size
  generalize W.setCells _ _ _ = W2 at *
  go_wp2
  exact bodyPost_ret (results_cell_row rfl _ _ w.heap.size _ _ _ _ rfl hr Tryz.underlying65 rfl (by kernel_rfl)) rfl ⟨rfl, hb2⟩
set_option maxRecDepth 20000 in
set_option maxHeartbeats 2000000 in
theorem Tryz.response_any {T : TypeId} {w : World} {own : Nat → Prop} {b : Nat} {m : Msg} {aw ah ab : Option Addr} {cw ch cb : Nat} (h : Tryz.Mw T w own b m aw cw ah ch ab cb) :
    Calls Tryz.prog 22 #[.pointer (some ⟨b, 0, none⟩)] w fun e w' => e = .returned (.agg #[.int .i64 m.status, .slice ah m.headers.length ch, .slice ab m.body.length cb, .bool m.last]) ∧ Below w.heap.size w w' := by
  have hlt := h.lt b h.ob
  have hblk := h.blk
  clear h
  go_enter Tryz.func22, Tryz.ntmps22
  go_upto_region 1 with (fail)
  generalize hW : w.alloc _ = W
  have hg : W.heap[w.heap.size]? = some (.cells #[.int .i64 0, .slice none 0 0, .slice none 0 0, .bool false] 27 (0, 0)) := by rw [← hW]; exact heap_alloc_new w _
  have hb : Below w.heap.size w W := by rw [← hW]; exact (Below.refl _ w).alloc (Nat.le_refl _) _
  clear hW
  have hB := (hb.block b hlt).trans hblk
  have c9 : W.cell? ⟨b, 9, none⟩ = some (.int .i64 m.status) := (cell_of_row _ _ 9 _ _ _ hB).trans rfl
  have c13 : W.cell? ⟨b, 13, none⟩ = some (.slice ah m.headers.length ch) := (cell_of_row _ _ 13 _ _ _ hB).trans rfl
  have c19 : W.cell? ⟨b, 19, none⟩ = some (.slice ab m.body.length cb) := (cell_of_row _ _ 19 _ _ _ hB).trans rfl
  have c15 : W.cell? ⟨b, 15, none⟩ = some (.bool m.last) := (cell_of_row _ _ 15 _ _ _ hB).trans rfl
  have g0 : W.cell? ⟨w.heap.size, 0, none⟩ = some (.int .i64 0) := cell_of_row _ _ 0 _ _ _ hg
  have g1 : W.cell? ⟨w.heap.size, 1, none⟩ = some (.slice none 0 0) := cell_of_row _ _ 1 _ _ _ hg
  have g2 : W.cell? ⟨w.heap.size, 2, none⟩ = some (.slice none 0 0) := cell_of_row _ _ 2 _ _ _ hg
  have g3 : W.cell? ⟨w.heap.size, 3, none⟩ = some (.bool false) := cell_of_row _ _ 3 _ _ _ hg
  have z0 := frozen_of_row W w.heap.size 0 _ _ hg
  have z1 := frozen_of_row W w.heap.size 1 _ _ hg
  have z2 := frozen_of_row W w.heap.size 2 _ _ hg
  have z3 := frozen_of_row W w.heap.size 3 _ _ hg
  have HG : Hid _ := hg
  have HB : Hid _ := hb
  clear hg hb hB hblk hlt
  (refine Go.Lq.wp_region_last 17 (by kernel_rfl) (by kernel_rfl) ?_; dsimp only [List.dropLast]; (repeat (quiet_step (fail))); refine wpQuiet_nil ?_; intro _ hw'; obtain ⟨nq, hw''⟩ := hw'; subst hw''; refine Go.Lq.wpOp_last rfl rfl ?_; unfold Oper.wp; go_simp)
  go_wp2
  have e0 := heap_setCell_same (W.drewN nq) w.heap.size 0 _ _ (.int .i64 m.status) HG.out
  have e1 := heap_setCell_same _ w.heap.size 1 _ _ (.slice ah m.headers.length ch) e0
  have e2 := heap_setCell_same _ w.heap.size 2 _ _ (.slice ab m.body.length cb) e1
  have e3 := heap_setCell_same _ w.heap.size 3 _ _ (.bool m.last) e2
  exact bodyPost_ret (results_cell_row rfl _ _ w.heap.size _ _ _ _ rfl e3 Tryz.underlying27 rfl (by kernel_rfl)) rfl ⟨rfl, ((((belowN HB.out nq).setCell (p := ⟨w.heap.size, 0, none⟩) (Nat.le_refl _) _).setCell (p := ⟨w.heap.size, 1, none⟩) (Nat.le_refl _) _).setCell (p := ⟨w.heap.size, 2, none⟩) (Nat.le_refl _) _).setCell (p := ⟨w.heap.size, 3, none⟩) (Nat.le_refl _) _⟩
end Go.Proofs
namespace Go.Wb
open Go.RowKit Go.Proofs
theorem results_row2 {P : Program} {fn : Func} {p t u : Tmp} {ty : TypeId} (h : fn.results = #[.cell p ty, .tmp t, .tmp u]) (tmps : Array Value) (w : World) (g : Nat) (tt : TypeId) (cs : Array Value) (fr : Nat × Nat) (d : TypeDesc)
    (hp : tmps.getD p undef = .pointer (some ⟨g, 0, none⟩)) (hg : w.heap[g]? = some (.cells cs tt fr))
    (hu : P.underlying ty = some d) (hd : (match d with | .struct _ | .array _ _ => true | _ => false) = true) (hi : (P.info? ty).map (·.size) = some cs.size) :
    (results fn tmps).run P w = .ok (.tuple #[.agg cs, tmps.getD t undef, tmps.getD u undef]) w := by
  have hp' : tmps[p]?.getD undef = .pointer (some ⟨g, 0, none⟩) := by simpa using hp
  simp [results, h, hp', asAddr, run_loadVar_row w g tt ty cs fr d hg hu hd hi]
theorem row_base {w : World} {B C : Nat} {e : TypeId} {size : Nat} {v : Value} {n : Nat} {xs : List Value} (h : w.ownsRow C e size v n xs) (hk : ∀ k, v.ownBlock = some k → B ≤ k) : w.ownsRow B e size v n xs := by
  refine ⟨h.1, ?_⟩
  rcases h.2 with h0 | ⟨g, cap, cur, rfl, h1, h2, h3⟩
  · exact .inl h0
  · exact .inr ⟨g, cap, cur, rfl, hk g rfl, h2, h3⟩
end Go.Wb
namespace Go.Proofs
open Go.RowKit Go.Wi Go.Wb
/-- What ParseResponse answers. -/
structure Tryz.Par (w w' : World) (m : Msg) (n : Nat) (e : Ending) : Prop where
  ex : ∃ ah ch ab cb ev, e = .returned (.tuple #[.agg (if Wb.whole m then #[.int .i64 m.status, .slice ah m.headers.length ch, .slice ab m.body.length cb, .bool m.last] else #[.int .i64 0, .slice none 0 0, .slice none 0 0, .bool false]), .int .i64 (if Wb.whole m then n else 0 : Nat), ev]) ∧
    (Wb.whole m = true → w'.ownsRow w.heap.size 57 2 (.slice ah m.headers.length ch) m.headers.length (hdCells m.headers) ∧ w'.ownsRow w.heap.size 5 1 (.slice ab m.body.length cb) m.body.length (Lib.byteCells m.body) ∧ (∀ k, (Value.slice ah m.headers.length ch).ownBlock = some k → (Value.slice ab m.body.length cb).ownBlock ≠ some k)) ∧
    (m.fErr = 0 ∧ ev = .nilIface ∨ m.fErr ≠ 0 ∧ ∃ g, w.heap.size ≤ g ∧ ev = .iface 97 (.pointer (some ⟨g, 0, none⟩)) ∧ w'.heap[g]? = some (.cells #[.int .i64 m.fAt, .int .i64 m.fErr] 63 (0, 0)))
  bel : Below w.heap.size w w'
set_option maxRecDepth 20000 in
set_option maxHeartbeats 2000000 in
theorem Tryz.parse_any {w : World} {V : Value} {l : List UInt8} (hV : Bs w V l) (hVl : ∀ k, V.ownBlock = some k → k < w.heap.size) (hat : (rd newRes l).2 ≤ 140737488355328) (hl62 : l.length ≤ 4611686018427387904) :
    Calls Tryz.prog 7 #[V] w fun e w' => Tryz.Par w w' (rd newRes l).1 (rd newRes l).2 e := by
  have HV : Hid (Bs w V l) := hV
  have HVL : Hid (∀ k, V.ownBlock = some k → k < w.heap.size) := hVl
  have HAT : Hid ((rd newRes l).2 ≤ 140737488355328) := hat
  have HL62 : Hid (l.length ≤ 4611686018427387904) := hl62
  have hG := good_newRes.rd l
  have HG : Hid (Wb.Good (rd newRes l).1) := hG.1
  obtain ⟨adV, capV, rfl, -⟩ := hV.ex
  clear hV hVl hat hl62 hG
  have hone : Tryz.nsCells.all (·.oneCell') = true := by kernel_rfl
  have hnsz : Tryz.nsCells.size = 22 := rfl
  have kn : ∀ W : World, Calls Tryz.prog 18 #[] W fun e w' => e = .returned (.agg Tryz.nsCells) ∧ Below W.heap.size W w' := Tryz.newResponse_any
  have HNS : Hid (Tryz.nsCells = Tryz.mc newRes (.slice none 0 0) (.slice none 0 0) (.slice none 0 0)) := rfl
  have HONE : Hid (Tryz.nsCells.all (·.oneCell') = true) := hone
  clear hone
  generalize Tryz.nsCells = NS at *
  go_enter Tryz.func7, Tryz.ntmps7
  go_upto_region 1 with (fail)
  generalize hW : w.alloc _ = W0
  have HBX : Hid (W0.heap[w.heap.size]? = some (.cells #[.int .i64 0, .slice none 0 0, .slice none 0 0, .bool false] 27 (0, 0))) := (by show W0.heap[w.heap.size]? = _; rw [← hW]; exact heap_alloc_new w _)
  have HB0 : Hid (Below w.heap.size w W0) := (by show Below _ _ _; rw [← hW]; exact (Below.refl _ w).alloc (Nat.le_refl _) _)
  clear hW
  go_upto_region 2 with (first
    | (go_at_call 18; refine (kn _).mono ?_; clear kn; rintro e w1 ⟨rfl, hb1⟩; have hsc := run_storeCells_new (P := Tryz.prog) w1 65 #[.nilFunc, .nilFunc, .int .i64 0, .int .i64 0, .int .i64 0, .int .i64 0, .slice none 0 0, .string ⟨#[]⟩, .string ⟨#[]⟩, .int .i64 0, .bool false, .int .i64 0, .string ⟨#[]⟩, .slice none 0 0, .bool false, .bool false, .int .i64 0, .int .i64 0, .int .i64 0, .slice none 0 0, .int .i64 0, .int .i64 0] NS (by rw [hnsz]; kernel_rfl) (by rw [hnsz]; rfl) HONE.out)
    | fail)
  have hb5 : Below w1.heap.size w1 (w1.alloc (.cells NS 65)) := (Below.refl _ w1).alloc (Nat.le_refl _) _
  have hx5 := heap_alloc_new w1 (.cells NS 65)
  have HB5 : Hid (Below w.heap.size w (w1.alloc (.cells NS 65))) := (HB0.out.trans (hb1.mono HB0.out.size)).trans (hb5.mono (Nat.le_trans HB0.out.size hb1.size))
  have hsz0 := block_lt HBX.out
  have HBX5 : Hid ((w1.alloc (.cells NS 65)).heap[w.heap.size]? = some (.cells #[.int .i64 0, .slice none 0 0, .slice none 0 0, .bool false] 27 (0, 0))) := (hb5.block _ (Nat.lt_of_lt_of_le hsz0 hb1.size)).trans ((hb1.block _ hsz0).trans HBX.out)
  have HS1 : Hid (w.heap.size < w1.heap.size) := Nat.lt_of_lt_of_le hsz0 hb1.size
  have hM5 : Tryz.Ms 65 (w1.alloc (.cells NS 65)) (fun k => k = w1.heap.size) w1.heap.size newRes := ⟨none, 0, none, 0, none, 0, HNS.out ▸ hx5, World.ownsRow_nil _ _ _ _, World.ownsRow_nil _ _ _ _, World.ownsRow_nil _ _ _ _, (fun k e => by cases e), (fun k e => by cases e), (fun k e => by cases e), rfl, fun k e => by rw [e]; exact block_lt hx5⟩
  clear hsc hb5 hx5 hb1 hsz0 HBX HB0
  generalize w1.alloc _ = W5 at *
  generalize w1.heap.size = x5 at *
  have kr := Tryz.read_any hM5 good_newRes (V := .slice adV l.length capV) (l := l) (HV.out.keep fun k e => HB5.out.block k (HVL.out k e)) (fun k e (e' : k = x5) => by have h1 := HVL.out k e; have h2 := HS1.out; omega) (by show 0 + (rd newRes l).2 ≤ _; have := HAT.out; omega) HL62.out
  obtain ⟨n, hn⟩ : ∃ n, (rd newRes l).2 = n := ⟨_, rfl⟩
  obtain ⟨m, hm⟩ : ∃ m, (rd newRes l).1 = m := ⟨_, rfl⟩
  rw [hn, hm] at kr
  have HNN : Hid ((rd newRes l).2 = n) := hn
  have HMM : Hid ((rd newRes l).1 = m) := hm
  clear hn hm HG
  have hb0 : ∀ (W : World), Wo (fun k => k = x5) W5 W → W.heap[w.heap.size]? = some (.cells #[.int .i64 0, .slice none 0 0, .slice none 0 0, .bool false] 27 (0, 0)) := fun W hw => (hw.block _ (block_lt HBX5.out) (fun e => by have := HS1.out; rw [e] at this; exact absurd this (Nat.lt_irrefl _))).trans HBX5.out
  have HBX6 : Hid (∀ (W : World), Wo (fun k => k = x5) W5 W → W.heap[w.heap.size]? = some (.cells #[.int .i64 0, .slice none 0 0, .slice none 0 0, .bool false] 27 (0, 0))) := hb0
  have hM6 := hM5
  clear hb0 hM5
  have HX5 : Hid (x5 < W5.heap.size) := (by obtain ⟨aw, cw, ah, ch, ab, cb, hmw⟩ := hM6.ex; exact hmw.lt x5 rfl)
  clear hM6
  cases hwh : Wb.whole m with
  | true =>
    go_upto_region 3 with (first
      | (go_at_call 19; refine kr.mono ?_; clear kr; rintro e w6 ⟨rfl, hC⟩)
      | fail)
    obtain ⟨own6, ⟨aw, cw, ah, ch, ab, cb, hmw⟩, ho6⟩ := hC.ex
    have kw : Calls Tryz.prog 20 #[.pointer (some ⟨x5, 0, none⟩)] w6 fun e w' => e = .returned (.bool true) ∧ w' = w6 := by
      have := Tryz.whole_any (⟨aw, cw, ah, ch, ab, cb, hmw⟩ : Tryz.Ms _ w6 own6 x5 m)
      rw [hwh] at this
      exact this
    have kp := Tryz.response_any hmw
    have hx6 := HBX6.out w6 hC.wo
    have HMW : Hid (Tryz.Mw 65 w6 own6 x5 m aw cw ah ch ab cb) := hmw
    have HC : Hid (Tryz.MChg 65 (fun k => k = x5) W5 w6 x5 m) := hC
    have HO6 : Hid (∀ k, own6 k → k = x5 ∨ W5.heap.size ≤ k) := ho6
    have HX6 : Hid (w6.heap[w.heap.size]? = some (.cells #[.int .i64 0, .slice none 0 0, .slice none 0 0, .bool false] 27 (0, 0))) := hx6
    clear hmw hC ho6 hx6
    go_wp2_with (first
      | (go_at_call 20; refine kw.mono ?_; clear kw; rintro e w6 ⟨rfl, rfl⟩)
      | (go_at_call 22; refine kp.mono ?_; clear kp; rintro e w7 ⟨rfl, hb7⟩; have hx7 := (hb7.block _ (block_lt HX6.out)).trans HX6.out; have b0 := cell_of_row _ _ 0 _ _ _ hx7; have b1 := cell_of_row _ _ 1 _ _ _ hx7; have b2 := cell_of_row _ _ 2 _ _ _ hx7; have b3 := cell_of_row _ _ 3 _ _ _ hx7; simp only [List.getElem?_toArray, List.getElem?_cons_succ, List.getElem?_cons_zero] at b0 b1 b2 b3; have z0 := frozen_of_row _ _ 0 _ _ hx7; have z1 := frozen_of_row _ _ 1 _ _ hx7; have z2 := frozen_of_row _ _ 2 _ _ hx7; have z3 := frozen_of_row _ _ 3 _ _ hx7; have HX7 : Hid _ := hx7; clear hx7)
      | fail)
    have hs5 := HS1.out
    have hc6 := HC.out.wo.size
    have hs7 := hb7.size
    have e0 := heap_setCell_same w7 w.heap.size 0 _ _ (.int .i64 m.status) HX7.out
    have e1 := heap_setCell_same _ w.heap.size 1 _ _ (.slice ah m.headers.length ch) e0
    have e2 := heap_setCell_same _ w.heap.size 2 _ _ (.slice ab m.body.length cb) e1
    have e3 := heap_setCell_same _ w.heap.size 3 _ _ (.bool m.last) e2
    have hother : ∀ j, j ≠ w.heap.size → ((((w7.setCell ⟨w.heap.size, 0, none⟩ (.int .i64 m.status)).setCell ⟨w.heap.size, 1, none⟩ (.slice ah m.headers.length ch)).setCell ⟨w.heap.size, 2, none⟩ (.slice ab m.body.length cb)).setCell ⟨w.heap.size, 3, none⟩ (.bool m.last)).heap[j]? = w7.heap[j]? := fun j hj => by
      have hx : ∀ (W : World) (i : Nat) (v : Value), (W.setCell ⟨w.heap.size, i, none⟩ v).heap[j]? = W.heap[j]? := fun W i v => Below.heap_setCell W ⟨w.heap.size, i, none⟩ v j (fun e => hj (by simpa using e))
      rw [hx, hx, hx, hx]
    have hbel : Below w.heap.size w ((((w7.setCell ⟨w.heap.size, 0, none⟩ (.int .i64 m.status)).setCell ⟨w.heap.size, 1, none⟩ (.slice ah m.headers.length ch)).setCell ⟨w.heap.size, 2, none⟩ (.slice ab m.body.length cb)).setCell ⟨w.heap.size, 3, none⟩ (.bool m.last)) := by
      have h6 : Below w.heap.size w w6 := Wo.toBelow HB5.out HC.out.wo (fun k e => by rw [e]; omega) HB5.out.size
      exact ((((h6.trans (hb7.mono h6.size)).setCell (p := ⟨w.heap.size, 0, none⟩) (Nat.le_refl _) _).setCell (p := ⟨w.heap.size, 1, none⟩) (Nat.le_refl _) _).setCell (p := ⟨w.heap.size, 2, none⟩) (Nat.le_refl _) _).setCell (p := ⟨w.heap.size, 3, none⟩) (Nat.le_refl _) _
    refine bodyPost_ret (Wb.results_row2 rfl _ _ w.heap.size _ _ _ _ rfl e3 Tryz.underlying27 rfl (by kernel_rfl)) rfl ?_
    rw [HMM.out, HNN.out]
    have hge : ∀ k, own6 k → w.heap.size < k := fun k e => by
      rcases HO6.out k e with q | q
      · rw [q]; exact hs5
      · have := HX5.out; omega
    have hk : ∀ k, own6 k → ((((w7.setCell ⟨w.heap.size, 0, none⟩ (.int .i64 m.status)).setCell ⟨w.heap.size, 1, none⟩ (.slice ah m.headers.length ch)).setCell ⟨w.heap.size, 2, none⟩ (.slice ab m.body.length cb)).setCell ⟨w.heap.size, 3, none⟩ (.bool m.last)).heap[k]? = w6.heap[k]? := fun k e => (hother k (by have := hge k e; omega)).trans (hb7.block k (HMW.out.lt k e))
    have hfe : m.fErr = 0 := by
      have h0 := hwh
      unfold Wb.whole at h0
      simp only [Bool.and_eq_true, beq_iff_eq] at h0
      exact h0.2
    refine ⟨⟨ah, ch, ab, cb, .nilIface, by rw [hwh]; rfl, fun _ => ⟨row_base (row_keep HMW.out.heads fun k e => hk k (HMW.out.dh k e).1) (fun k e => Nat.le_of_lt (hge k (HMW.out.dh k e).1)), row_base (row_keep HMW.out.body fun k e => hk k (HMW.out.db k e).1) (fun k e => Nat.le_of_lt (hge k (HMW.out.db k e).1)), fun k e => (HMW.out.dh k e).2.2⟩, .inl ⟨hfe, rfl⟩⟩, hbel⟩
  | false =>
    go_upto_region 3 with (first
      | (go_at_call 19; refine kr.mono ?_; clear kr; rintro e w6 ⟨rfl, hC⟩)
      | fail)
    obtain ⟨own6, hm6, ho6⟩ := hC.ex
    have kw : Calls Tryz.prog 20 #[.pointer (some ⟨x5, 0, none⟩)] w6 fun e w' => e = .returned (.bool false) ∧ w' = w6 := by
      have := Tryz.whole_any hm6
      rw [hwh] at this
      exact this
    have kp := Tryz.wrong_any hm6
    have hx6 := HBX6.out w6 hC.wo
    have HC : Hid (Tryz.MChg 65 (fun k => k = x5) W5 w6 x5 m) := hC
    have HX6 : Hid (w6.heap[w.heap.size]? = some (.cells #[.int .i64 0, .slice none 0 0, .slice none 0 0, .bool false] 27 (0, 0))) := hx6
    clear hm6 hC ho6 hx6
    go_wp2_with (first
      | (go_at_call 20; refine kw.mono ?_; clear kw; rintro e w6 ⟨rfl, rfl⟩)
      | (go_at_call 21; refine kp.mono ?_; clear kp; rintro e w7 ⟨he7, hb7⟩; obtain ⟨ev, rfl, hev⟩ := Wb.err_value he7; have HEV : Hid _ := hev; clear hev he7; have hx7 := (hb7.block _ (block_lt HX6.out)).trans HX6.out; have b0 := cell_of_row _ _ 0 _ _ _ hx7; have b1 := cell_of_row _ _ 1 _ _ _ hx7; have b2 := cell_of_row _ _ 2 _ _ _ hx7; have b3 := cell_of_row _ _ 3 _ _ _ hx7; simp only [List.getElem?_toArray, List.getElem?_cons_succ, List.getElem?_cons_zero] at b0 b1 b2 b3; have z0 := frozen_of_row _ _ 0 _ _ hx7; have z1 := frozen_of_row _ _ 1 _ _ hx7; have z2 := frozen_of_row _ _ 2 _ _ hx7; have z3 := frozen_of_row _ _ 3 _ _ hx7; have HX7 : Hid _ := hx7; clear hx7)
      | fail)
    have hs5 := HS1.out
    have hc6 := HC.out.wo.size
    have hs7 := hb7.size
    have e0 := heap_setCell_same w7 w.heap.size 0 _ _ (.int .i64 0) HX7.out
    have e1 := heap_setCell_same _ w.heap.size 1 _ _ (.slice none 0 0) e0
    have e2 := heap_setCell_same _ w.heap.size 2 _ _ (.slice none 0 0) e1
    have e3 := heap_setCell_same _ w.heap.size 3 _ _ (.bool false) e2
    have hother : ∀ j, j ≠ w.heap.size → ((((w7.setCell ⟨w.heap.size, 0, none⟩ (.int .i64 0)).setCell ⟨w.heap.size, 1, none⟩ (.slice none 0 0)).setCell ⟨w.heap.size, 2, none⟩ (.slice none 0 0)).setCell ⟨w.heap.size, 3, none⟩ (.bool false)).heap[j]? = w7.heap[j]? := fun j hj => by
      have hx : ∀ (W : World) (i : Nat) (v : Value), (W.setCell ⟨w.heap.size, i, none⟩ v).heap[j]? = W.heap[j]? := fun W i v => Below.heap_setCell W ⟨w.heap.size, i, none⟩ v j (fun e => hj (by simpa using e))
      rw [hx, hx, hx, hx]
    have hbel : Below w.heap.size w ((((w7.setCell ⟨w.heap.size, 0, none⟩ (.int .i64 0)).setCell ⟨w.heap.size, 1, none⟩ (.slice none 0 0)).setCell ⟨w.heap.size, 2, none⟩ (.slice none 0 0)).setCell ⟨w.heap.size, 3, none⟩ (.bool false)) := by
      have h6 : Below w.heap.size w w6 := Wo.toBelow HB5.out HC.out.wo (fun k e => by rw [e]; omega) HB5.out.size
      exact ((((h6.trans (hb7.mono h6.size)).setCell (p := ⟨w.heap.size, 0, none⟩) (Nat.le_refl _) _).setCell (p := ⟨w.heap.size, 1, none⟩) (Nat.le_refl _) _).setCell (p := ⟨w.heap.size, 2, none⟩) (Nat.le_refl _) _).setCell (p := ⟨w.heap.size, 3, none⟩) (Nat.le_refl _) _
    refine bodyPost_ret (Wb.results_row2 rfl _ _ w.heap.size _ _ _ _ rfl e3 Tryz.underlying27 rfl (by kernel_rfl)) rfl ?_
    rw [HMM.out, HNN.out]
    refine ⟨⟨none, 0, none, 0, ev, by rw [hwh]; rfl, (fun e => by rw [hwh] at e; cases e), ?_⟩, hbel⟩
    rcases HEV.out with q | ⟨q1, q2, q3⟩
    · exact .inl q
    · refine .inr ⟨q1, w6.heap.size, ?_, q2, ?_⟩
      · have := HX5.out; omega
      · rw [hother _ (by have := HX5.out; omega)]; exact q3
end Go.Proofs
