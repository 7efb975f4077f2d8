/-
  Laid together by pack.py of St Su.
-/
import Derived.Test.YtlfiebapfgpchaaGreatDoorPkR
import Derived.Test.YtlfiebapfgpchaaGreatDoorSqIv
import Derived.Deep.RegionHeld3
namespace Go.Se
open Go.Wi
/-- What stands ahead of the sum. -/
def Tk.said (x : Tk) : List UInt8 := (([] ++ (cnt x.u.size ++ x.u.data.toList)) ++ cnt (zig x.t)) ++ cnt (zig x.n)
end Go.Se
namespace Go.Proofs
open Go.RowKit Go.Wi Go.Se Go.Ct Go.Dg
theorem Dg.mac_len (k b : List UInt8) : (Dg.mac k b).length = 32 := Dg.sum_len _
/-- A token's text under a key. -/
def Se.Tk.text (x : Tk) (key : List UInt8) : ByteArray := ⟨(enc (x.said ++ Dg.mac key x.said)).toArray⟩
/-- 'append(b, mac[:]...)'. -/
theorem Tryz.app32 {ops : Array Oper} {rest : List Oper} {o : Oper} {a : Act} {Q : Exit → Act → World → Prop} (hgd : o.guard = none) (s y : Operand)
    (ho : o.op = .call { callee := .builtin .append, args := #[s, y], argTypes := #[29, 29] })
    {w : World} {B N : Nat} {V : Value} {l M : List UInt8} (hrow : w.ownsRow B 5 1 V N (Lib.byteCells l)) (hB : B ≤ w.heap.size) (hs : a.eval s = V) {g : Nat} (hg : Dg.Br 102 w g M) (hM : M.length = 32) (hy : a.eval y = .slice (some ⟨g, 0, none⟩) 32 32) (hlen : N ≤ 1000000)
    (hK : ∀ ad n cap w1, Bs w1 (.slice ad n cap) (l ++ M) → (∀ k, (Value.slice ad n cap).ownBlock = some k → k < w1.heap.size) → Below B w w1 → wpList Tryz.prog ops Q rest (a.put o.dst (.slice ad n cap)) w1) : wpList Tryz.prog ops Q (o :: rest) a w := by
  obtain ⟨i0, hi0, hz0, hz1, hz2⟩ := info_parts Tryz.info_u8
  refine wpList_append_lies _ hgd s y 29 ho B 5 i0 _ 1 1 Tryz.underlying29 hi0 hz0 hz1 hz2 rfl (by omega) V N (Lib.byteCells l) hs hrow ⟨g, 0, none⟩ 32 32 (Lib.byteCells M) hy (by rw [byteCells_len]; omega) (fun j u hu => ?_) (fun u hu => ?_) (by omega) (by unfold maxLen; omega) (by omega) hB _ rfl ?_
  · rw [Addr.add_mid, Nat.zero_add]
    have := hg.at j
    rw [this]
    exact hu
  · simp only [Lib.byteCells, List.mem_map] at hu
    obtain ⟨b, _, rfl⟩ := hu
    rfl
  · intro g' cap w' hown hgr hat hlt
    rw [← byteCells_app] at hown
    refine hK _ _ cap w' (Bs.ofRow hown) (fun k e => by cases e; exact hlt) ((Below.refl B w).grown hgr hB fun k e => (hrow.lt k e).1)
theorem Se.said_len (x : Tk) (hu : x.u.size ≤ 60) (h1 : -9223372036854775808 ≤ x.n) (h2 : x.n ≤ 9223372036854775807) (h3 : -9223372036854775808 ≤ x.t) (h4 : x.t ≤ 9223372036854775807) : x.said.length ≤ 90 := by
  have a := cnt_len10 (n := x.u.size) (by omega)
  have b := cnt_len10 (zig_lt h1 h2)
  have c := cnt_len10 (zig_lt h3 h4)
  have d : x.u.data.toList.length = x.u.size := rfl
  unfold Tk.said
  simp only [List.length_append, List.length_nil]
  omega
set_option maxHeartbeats 4000000 in
set_option maxRecDepth 4000 in
theorem Tryz.text_any {w : World} (hT : Tryz.Tq w) (x : Tk) (hu : x.u.size ≤ 60) (h1 : -9223372036854775808 ≤ x.n) (h2 : x.n ≤ 9223372036854775807) (h3 : -9223372036854775808 ≤ x.t) (h4 : x.t ≤ 9223372036854775807) {U : Value} {key : List UInt8} (hk : Bs w U key) (hku : ∀ k, U.ownBlock = some k → k < w.heap.size) (hkl : key.length ≤ 64) :
    Calls Tryz.prog 26 #[.agg #[.string x.u, .int .i64 x.n, .int .i64 x.t], U] w fun e w' => e = .returned (.string (Se.Tk.text x key)) ∧ Below w.heap.size w w' := by
  have hsl := Se.said_len x hu h1 h2 h3 h4
  have a1 := cnt_len10 (n := x.u.size) (by omega)
  have a2 := cnt_len10 (zig_lt h3 h4)
  have a3 : x.u.data.toList.length = x.u.size := rfl
  have b1 : ([] ++ (cnt x.u.size ++ x.u.data.toList)).length ≤ 140737488355300 := by simp only [List.length_append, List.length_nil]; omega
  have b2 : (([] ++ (cnt x.u.size ++ x.u.data.toList)) ++ cnt (zig x.t)).length ≤ 140737488355300 := by simp only [List.length_append, List.length_nil]; omega
  obtain ⟨W, hW⟩ : ∃ W, W = w.alloc (.cells #[.string x.u, .int .i64 x.n, .int .i64 x.t] 58) := ⟨_, rfl⟩
  have hbel : Below w.heap.size w W := by rw [hW]; exact (Below.refl w.heap.size w).alloc (Nat.le_refl _) _
  have hWn : W.heap[w.heap.size]? = some (.cells #[.string x.u, .int .i64 x.n, .int .i64 x.t] 58 (0, 0)) := by rw [hW]; exact heap_alloc_new w _
  have hbx : ∀ w', Below W.heap.size W w' → w'.heap[w.heap.size]? = some (.cells #[.string x.u, .int .i64 x.n, .int .i64 x.t] 58 (0, 0)) := fun w' hb => (hb.block _ (block_lt hWn)).trans hWn
  have HW : Hid (w.alloc (.cells #[.string x.u, .int .i64 x.n, .int .i64 x.t] 58) = W) := hW.symm
  have h0 := Tryz.WB.new W
  have hsaid : ((([] ++ (cnt x.u.size ++ x.u.data.toList)) ++ cnt (zig x.t)) ++ cnt (zig x.n)) = x.said := rfl
  have HS : Hid (((([] ++ (cnt x.u.size ++ x.u.data.toList)) ++ cnt (zig x.t)) ++ cnt (zig x.n)) = x.said) := hsaid
  have HT : Hid _ := hT
  have HK : Hid (Bs w U key) := hk
  have HKU : Hid (∀ k, U.ownBlock = some k → k < w.heap.size) := hku
  obtain ⟨ad, cap, rfl, _⟩ := hk.ex
  clear hW a1 a2 a3 hWn hk hku hsaid hT
  generalize hKL : key.length = KL at *
  go_enter Tryz.func26, Tryz.ntmps26
  go_upto_region 1 with (fail)
  rw [HW.out]
  go_upto_region 6 with (first
    | (go_at_call 49; refine h0.mono ?_; clear h0; rintro e w1 ⟨wb, rfl, hW1⟩; have c1 : w1.cell? ⟨w.heap.size, 0, none⟩ = some (.string x.u) := cell_of_row w1 _ 0 _ _ _ (hbx w1 hW1.bel); have q1 := hW1.text x.u (by simp only [List.length_nil]; omega))
    | (go_at_call 50; refine q1.mono ?_; clear q1 c1 hW1; rintro e w2 ⟨⟨v2, rfl⟩, hW2⟩; have c2 : w2.cell? ⟨w.heap.size, 2, none⟩ = some (.int .i64 x.t) := cell_of_row w2 _ 2 _ _ _ (hbx w2 hW2.bel); have q2 := hW2.int x.t h3 h4 b1)
    | (go_at_call_of 51 (Value.int IntKind.i64 x.t); refine q2.mono ?_; clear q2 c2 hW2; rintro e w3 ⟨⟨v3, rfl⟩, hW3⟩; have c3 : w3.cell? ⟨w.heap.size, 1, none⟩ = some (.int .i64 x.n) := cell_of_row w3 _ 1 _ _ _ (hbx w3 hW3.bel); have q3 := hW3.int x.n h1 h2 b2)
    | (go_at_call 51; refine q3.mono ?_; clear q3 c3 hW3; rintro e w4 ⟨⟨v4, rfl⟩, hW4⟩; rw [HS.out] at hW4; have q4 := hW4.bytes (by omega))
    | (go_at_call 52; refine q4.mono ?_; clear q4; rintro e w5 ⟨ad5, cap5, rfl, hr5, hb5⟩)
    | fail)
  have hs5 : W.heap.size ≤ w5.heap.size := Nat.le_trans hW4.le hb5.size
  have hb5w : Below w.heap.size w w5 := hbel.trans ((hW4.bel.trans (hb5.mono hW4.le)).mono hbel.size)
  have hws : w.heap.size ≤ w5.heap.size := hb5w.size
  obtain ⟨M, hM⟩ : ∃ M, M = Dg.mac key x.said := ⟨_, rfl⟩
  have hMl : M.length = 32 := by rw [hM]; exact Dg.mac_len _ _
  have l32 : (Lib.byteCells M).length = 32 := by rw [byteCells_len]; exact hMl
  have hm := Tryz.mac_any (w := w5) (HT.out.below hb5w HT.out.sz) (HK.out.below hb5w HKU.out) (fun k e => by have := HKU.out k e; omega) (by omega) (Bs.ofRow hr5) (fun k e => (hr5.lt k e).2) (by omega)
  rw [← hM] at hm
  have HM : Hid (M = Dg.mac key x.said) := hM
  have HR5 : Hid (w5.ownsRow w4.heap.size 5 1 (.slice ad5 x.said.length cap5) x.said.length (Lib.byteCells x.said)) := hr5
  have hw4s : w.heap.size ≤ w4.heap.size := Nat.le_trans hbel.size hW4.le
  have hw45 : w4.heap.size ≤ w5.heap.size := hb5.size
  clear hM hW4 hbx HK HKU HT hb5 hr5 b1 b2
  go_upto_region 7 with (first
    | (go_at_call 53; refine hm.mono ?_; clear hm; rintro z w6 ⟨rfl, hb6⟩; have HB6 : Hid _ := hb6; clear hb6; have st := Tryz.new32 w6 M hMl)
    | fail)
  have hb7 : Below w6.heap.size w6 (w6.alloc (.cells (Lib.byteCells M).toArray 102)) := (Below.refl _ w6).alloc (Nat.le_refl _) _
  have hg7 : Dg.Br 102 (w6.alloc (.cells (Lib.byteCells M).toArray 102)) w6.heap.size M := heap_alloc_new w6 _
  have hs6 : w5.heap.size ≤ w6.heap.size := HB6.out.size
  have hs7 : w6.heap.size ≤ (w6.alloc (.cells (Lib.byteCells M).toArray 102)).heap.size := hb7.size
  have hB7 : Below w5.heap.size w5 (w6.alloc (.cells (Lib.byteCells M).toArray 102)) := HB6.out.trans (hb7.mono hs6)
  generalize hW7 : w6.alloc (.cells (Lib.byteCells M).toArray 102) = W7 at *
  have hr7 := Wi.row_heap (w' := W7) HR5.out fun k e => hB7.block k (HR5.out.lt k e).2
  have HR7 : Hid (W7.ownsRow w4.heap.size 5 1 (.slice ad5 x.said.length cap5) x.said.length (Lib.byteCells x.said)) := hr7
  have HG7 : Hid (Dg.Br 102 W7 w6.heap.size M) := hg7
  have HB7 : Hid _ := hB7
  have hsl7 := Tryz.sl32 w6.heap.size W7
  clear hW7 st hr7 hg7 hB7 hb7
  have hle7 : w4.heap.size ≤ W7.heap.size := by omega
  go_wp2_with (first
    | (at_builtin; refine Tryz.app32 rfl _ _ rfl HR7.out hle7 rfl HG7.out hMl rfl (by omega) ?_; intro ad8 n8 cap8 w8 hbs8 hv8 hb8; have he := Tryz.enc_any hbs8 hv8 (by rw [List.length_append]; omega))
    | (go_at_call 54; refine he.mono ?_; clear he; rintro z w9 ⟨rfl, hb9⟩)
    | fail)
  go_ret
  refine ⟨?_, ?_⟩
  · show Ending.returned (.string ⟨(enc (x.said ++ M)).toArray⟩) = .returned (.string (Se.Tk.text x key))
    rw [HM.out]
    rfl
  · have h57 := hb5w.trans (HB7.out.mono hws)
    have h58 := h57.trans (hb8.mono hw4s)
    exact h58.trans (hb9.mono h58.size)
end Go.Proofs
namespace Go.Proofs
open Go.RowKit Go.Wi Go.Se Go.Ct Go.Dg
set_option maxHeartbeats 4000000 in
set_option maxRecDepth 4000 in
theorem Tryz.issue_first {w : World} {own : Nat → Prop} {kb : Nat} {key : List UInt8} {n : Nu} {D D' : List (ByteArray × Int)} (h : Tryz.Kp w own kb key n [] none D) (hT : Tryz.Tq w) (hfl : ∀ k, own k → 2 ≤ k) (hkl : key.length ≤ 64) (hm : Se.Nu.May n) (hl0 : 0 ≤ n.latest) (hl1 : n.latest ≤ 1000000000) (hg0 : 0 ≤ n.given) (hg1 : n.given < 1000000000) (u : ByteArray) (hu1 : 1 ≤ u.size) (hu2 : u.size ≤ 60) (now : Int) (hn0 : 0 ≤ now) (hn1 : now ≤ 1000000000)
    (hD : Tryz.Left D D' (max now n.latest)) (x : {x : Tk // x.ok}) (hx : x.1 = ⟨u, n.given + 1, max now n.latest + n.life⟩) :
    Calls Tryz.prog 11 #[.pointer (some ⟨kb, 0, none⟩), .string u, .int .i64 now] w fun e w' =>
      e = .returned (.tuple #[.string (Se.Tk.text x.1 key), .int .i64 0]) ∧ Tryz.KChg own w w' kb key { n with latest := max now n.latest, given := n.given + 1 } [(x, x.1.t)] (some x) D' := by
  have hiu := Tryz.isUser_any u w
  have hit := Tryz.isTime_any now w
  rw [Se.dec2 (by omega) (by omega)] at hiu hit
  have hmo := Tryz.moveOn_any h now (.inl rfl) hD
  obtain ⟨⟨m1, m2⟩, ⟨m3, m4⟩, m5, m6⟩ := hm
  have hT0 : 0 ≤ max now n.latest := by omega
  have hT1 : max now n.latest ≤ 1000000000 := by omega
  obtain ⟨T, hTe⟩ : ∃ T, T = max now n.latest := ⟨_, rfl⟩
  rw [← hTe] at hmo hT0 hT1 hx ⊢
  obtain ⟨l, hnl⟩ : ∃ l, l = n.life := ⟨_, rfl⟩
  obtain ⟨gv, hng⟩ : ∃ gv, gv = n.given := ⟨_, rfl⟩
  rw [← hnl] at m1 m2 hx
  rw [← hng] at hg0 hg1 hx ⊢
  have hxu : x.1.u = u := by rw [hx]
  have hxn : x.1.n = gv + 1 := by rw [hx]
  have hxt : x.1.t = T + l := by rw [hx]
  have hmv : ∀ w', Tryz.KChg own w w' kb key { n with latest := T } [] none D' → ∃ own', Tryz.Kp (w'.setCell ⟨kb, 5, none⟩ (.int .i64 (gv + 1))) own' kb key { n with latest := T, given := gv + 1 } [] none D' ∧ (∀ k, own' k → own k ∨ w.heap.size ≤ k) ∧ Wo own w (w'.setCell ⟨kb, 5, none⟩ (.int .i64 (gv + 1))) ∧ ∃ V pb db, w'.heap[kb]? = some (.cells #[V, .int .i64 l, .int .i64 n.burst, .int .i64 n.rate, .int .i64 T, .int .i64 gv, .pointer (some ⟨pb, 0, none⟩), .pointer (some ⟨db, 0, none⟩)] 50 (0, 0)) := fun w' hc => by
    obtain ⟨own', hK, ho⟩ := hc.ex
    obtain ⟨V, pb, db, h1⟩ := hK.cells
    refine ⟨own', hK.set 5 _ (fun _ _ _ => rfl), ho, hc.wo.setCell kb 5 _ (ho kb hK.okb), V, pb, db, by rw [hnl, hng]; exact h1⟩
  have HX : Hid (x.1 = ⟨u, gv + 1, T + l⟩) := hx
  obtain ⟨V0, pb0, db0, h0⟩ := h.cells
  have c5 : w.cell? ⟨kb, 5, none⟩ = some (.int .i64 gv) := by rw [hng]; exact cell_of_row w kb 5 _ _ _ h0
  have q5 : ((gv : Int) == 1000000000) = false := by simp; omega
  clear hx hnl hng hTe h0
  go_enter Tryz.func11, Tryz.ntmps11
  go_upto_region 7 with (first
    | (go_at_call 20; refine hiu.mono ?_; clear hiu; rintro e w1 ⟨rfl, rfl⟩)
    | (go_at_call 21; refine hit.mono ?_; clear hit; rintro e w1 ⟨rfl, rfl⟩)
    | (go_at_call 22; refine hmo.mono ?_; clear hmo c5; rintro e w2 ⟨⟨v, rfl⟩, hc2⟩; obtain ⟨own', hK3, ho3, hwo3, V, pb, db, hb2⟩ := hmv w2 hc2; clear hmv; have d5 : w2.cell? ⟨kb, 5, none⟩ = some (.int .i64 gv) := cell_of_row w2 kb 5 _ _ _ hb2; have f5 := frozen_of_row w2 kb 5 _ _ hb2)
    | fail)
  obtain ⟨V3, pb3, db3, ok3, op3, od3, g1, g2, g3, g4, g5, g6, g7, g8⟩ := hK3.ex
  generalize hW3 : w2.setCell ⟨kb, 5, none⟩ (.int .i64 (gv + 1)) = W3 at *
  have hg1' : W3.heap[kb]? = some (.cells #[V, .int .i64 l, .int .i64 n.burst, .int .i64 n.rate, .int .i64 T, .int .i64 (gv + 1), .pointer (some ⟨pb, 0, none⟩), .pointer (some ⟨db, 0, none⟩)] 50 (0, 0)) := by rw [← hW3]; exact heap_setCell_same w2 kb 5 _ _ _ hb2
  have e5 : W3.cell? ⟨kb, 5, none⟩ = some (.int .i64 (gv + 1)) := cell_of_row W3 kb 5 _ _ _ hg1'
  have e4 : W3.cell? ⟨kb, 4, none⟩ = some (.int .i64 T) := cell_of_row W3 kb 4 _ _ _ hg1'
  have e1 : W3.cell? ⟨kb, 1, none⟩ = some (.int .i64 l) := cell_of_row W3 kb 1 _ _ _ hg1'
  have kw := Se.wrap_in (T + l) (by omega) (by omega)
  have hkl3 : kb < W3.heap.size := block_lt hg1'
  have hal : ∀ o : Obj, (W3.alloc o).cell? ⟨kb, 5, none⟩ = some (.int .i64 (gv + 1)) ∧ (W3.alloc o).cell? ⟨kb, 4, none⟩ = some (.int .i64 T) ∧ (W3.alloc o).cell? ⟨kb, 1, none⟩ = some (.int .i64 l) := fun o => ⟨(World.cell?_of_block (a := ⟨kb, 5, none⟩) (Ct.alloc_old o hkl3)).trans e5, (World.cell?_of_block (a := ⟨kb, 4, none⟩) (Ct.alloc_old o hkl3)).trans e4, (World.cell?_of_block (a := ⟨kb, 1, none⟩) (Ct.alloc_old o hkl3)).trans e1⟩
  clear hW3 hb2 d5 f5 hc2
  go_region_held3 (fun W => W.cell? ⟨kb, 5, none⟩ = some (.int .i64 (gv + 1)) ∧ W.cell? ⟨kb, 4, none⟩ = some (.int .i64 T) ∧ W.cell? ⟨kb, 1, none⟩ = some (.int .i64 l)) (first | exact ⟨e5, e4, e1⟩ | exact hal _ | go_keep) (fail)
  obtain ⟨rfl, rfl, rfl⟩ : V3 = V ∧ pb3 = pb ∧ db3 = db := by
    have := g1.symm.trans hg1'
    simp at this
    exact ⟨this.1, this.2.2.1, this.2.2.2⟩
  have hb4 : Below W3.heap.size W3 (W3.alloc (.cells #[.string u, .int .i64 (gv + 1), .int .i64 (T + l)] 58)).drew := ((Below.refl _ W3).alloc (Nat.le_refl _) _).drew
  have hn4 : (W3.alloc (.cells #[.string u, .int .i64 (gv + 1), .int .i64 (T + l)] 58)).drew.heap[W3.heap.size]? = some (.cells #[.string u, .int .i64 (gv + 1), .int .i64 (T + l)] 58 (0, 0)) := heap_alloc_new W3 _
  generalize (W3.alloc (.cells #[.string u, .int .i64 (gv + 1), .int .i64 (T + l)] 58)).drew = W4 at *
  have hK4 := hK3.keep (w' := W4) (fun k e => hb4.block k (hK3.lt k e)) hb4.size
  have hk4 : W4.heap[kb]? = _ := (hb4.block kb hkl3).trans g1
  have s6 : W4.cell? ⟨kb, 6, none⟩ = some (.pointer (some ⟨pb3, 0, none⟩)) := cell_of_row W4 kb 6 _ _ _ hk4
  have s0 : W4.cell? ⟨W3.heap.size, 0, none⟩ = some (.string u) := cell_of_row W4 _ 0 _ _ _ hn4
  have s1 : W4.cell? ⟨W3.heap.size, 1, none⟩ = some (.int .i64 (gv + 1)) := cell_of_row W4 _ 1 _ _ _ hn4
  have s2 : W4.cell? ⟨W3.heap.size, 2, none⟩ = some (.int .i64 (T + l)) := cell_of_row W4 _ 2 _ _ _ hn4
  have hwo4 : Wo own w1 W4 := hwo3.below hb4 hwo3.size
  have hadd : ∀ m, Calls Tryz.prog 25 #[.pointer (some ⟨pb3, 0, none⟩), .agg #[.string u, .int .i64 (gv + 1), .int .i64 (T + l)]] (W4.drewN m) fun e w' => (∃ v, e = .returned v) ∧ Tryz.KChg own w1 w' kb key { n with latest := T, given := gv + 1 } [(x, x.1.t)] (some x) D' ∧ w'.heap[W3.heap.size]? = W4.heap[W3.heap.size]? ∧ Bs w' V3 key ∧ (∀ k, V3.ownBlock = some k → k < w'.heap.size) ∧ w'.cell? ⟨kb, 0, none⟩ = some V3 ∧ Tryz.Tq w' := fun m => by
    have g4' : Tryz.Pu (W4.drewN m) op3 pb3 [] none := g4.keep (fun k e => hb4.block k (g4.lt k e)) hb4.size
    have hh := Tryz.add_new g4' x
    rw [hxu, hxn, hxt] at hh
    refine hh.mono fun e w' ⟨e1, e2⟩ => ?_
    rw [← hxt] at e2
    have hkey : Bs (W4.drewN m) V3 key := g2.keep fun k e => hb4.block k (hK3.lt k (g6 k (g3 k e)).1)
    have hkc := Tryz.Kp.purse (own := own') (w := W4.drewN m) (n := { n with latest := T, given := gv + 1 }) (V := V3) (pb := pb3) (db := db3) (key := key) (D := D') (ok := ok3) (od := od3) hk4 hkey g3 (g5.keep (fun k e => hb4.block k (g5.lt k e)) hb4.size) g6 g7 g8 hK3.okb hK4.lt e2
    have hkt : Tryz.KChg own w1 w' kb key { n with latest := T, given := gv + 1 } [(x, x.1.t)] (some x) D' := Tryz.KChg.trans (hwo4.drewN m) ho3 hkc
    refine ⟨e1, hkt, e2.wo.block _ (block_lt hn4) fun e => ?_, hkey.keep fun k e => e2.wo.block k (hK4.lt k (g6 k (g3 k e)).1) (g6 k (g3 k e)).2.2.1, fun k e => ?_, ?_, ?_⟩
    · have := g4.lt _ e
      omega
    · have := hK4.lt k (g6 k (g3 k e)).1
      have : W4.heap.size ≤ w'.heap.size := e2.wo.size
      omega
    · exact (World.cell?_of_block (w := W4) (a := ⟨kb, 0, none⟩) (e2.wo.block kb (hK4.lt kb hK4.okb) fun e => (g7 kb e).2.1 rfl)).trans (cell_of_row W4 kb 0 _ _ _ hk4)
    · exact hT.keep hkt.wo.size fun k hk => hkt.wo.block k (by have := hT.sz; omega) fun e => by have := hfl k e; omega
  have HN4 : Hid (W4.heap[W3.heap.size]? = some (.cells #[.string u, .int .i64 (gv + 1), .int .i64 (T + l)] 58 (0, 0))) := hn4
  clear hn4 hk4 hal e5 e4 e1 hg1' g1
  go_wp2
  (refine Go.Lq.wp_region_lastN (fun w' => ∃ k, w' = _root_.Go.World.drewN _ k) 5 (by kernel_rfl) (by kernel_rfl) ⟨1, rfl⟩ ?_; dsimp only [List.dropLast]; (repeat (quiet_step (fail))); refine wpQuiet_nil ?_; intro _ hw'; obtain ⟨nq, hw''⟩ := hw'; subst hw''; refine Go.Lq.wpOp_last rfl rfl ?_; unfold Oper.wp; go_simp)
  refine (hadd nq).mono ?_
  rintro e w5 ⟨⟨v5, rfl⟩, hc5, hbx5, hbs5, hv5, c05, hT5⟩
  clear hadd s0 s1 s2 s6
  have hn5 : w5.heap[W3.heap.size]? = _ := hbx5.trans HN4.out
  have s0 : w5.cell? ⟨W3.heap.size, 0, none⟩ = some (.string u) := cell_of_row w5 _ 0 _ _ _ hn5
  have s1 : w5.cell? ⟨W3.heap.size, 1, none⟩ = some (.int .i64 (gv + 1)) := cell_of_row w5 _ 1 _ _ _ hn5
  have s2 : w5.cell? ⟨W3.heap.size, 2, none⟩ = some (.int .i64 (T + l)) := cell_of_row w5 _ 2 _ _ _ hn5
  have htx := Tryz.text_any (w := w5.drew) ⟨hT5.sz, hT5.sq, hT5.cu⟩ ⟨u, gv + 1, T + l⟩ hu2 (by show _ ≤ gv + 1; omega) (by show gv + 1 ≤ _; omega) (by show _ ≤ T + l; omega) (by show T + l ≤ _; omega) (U := V3) (key := key) (hbs5.keep fun _ _ => rfl) hv5 hkl
  obtain ⟨ad5, cap5, hV5, _⟩ := hbs5.ex
  subst hV5
  clear hn5 hbx5 hbs5 hv5 hT5
  go_wp2
  go_region_with (first | (go_at_call 26; refine htx.mono ?_; rintro e w6 ⟨rfl, hb6⟩) | fail)
  all_goals
    go_wp2
    go_ret2
    refine ⟨?_, hc5.later ?_⟩
    · show Ending.returned (.tuple #[.string (Se.Tk.text ⟨u, gv + 1, T + l⟩ key), .int .i64 0]) = _
      rw [← HX.out]
    exact ⟨hb6.os, hb6.tape, hb6.output, hb6.size, hb6.block⟩
end Go.Proofs
