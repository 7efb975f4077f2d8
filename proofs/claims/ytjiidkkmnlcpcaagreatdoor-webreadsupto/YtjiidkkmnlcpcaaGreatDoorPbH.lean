/-
  Laid together by packg.py of WuH WuI WuJ WuK.
-/
import Derived.Test.YtjiidkkmnlcpcaaGreatDoorPbB
import Derived.Test.YtjiidkkmnlcpcaaGreatDoorPbC
import Derived.Test.YtjiidkkmnlcpcaaGreatDoorPaZ
import Derived.Test.YtjiidkkmnlcpcaaGreatDoorPYfD
import Derived.Deep.RegionWith
namespace Go.Wb
open Go.RowKit Go.Proofs Go.Wi
/-- A request that lies somewhere. -/
structure Pw (w : World) (p : Pr) : Prop where
  heads : Hs w p.vh p.rq.headers
  body : Bs w p.vb p.rq.body
  lt : ∀ k, p.vb.ownBlock = some k → k < w.heap.size
theorem Pw.below {w w' : World} {p : Pr} (h : Pw w p) (hb : Below w.heap.size w w') : Pw w' p := ⟨h.heads.below hb, h.body.below hb h.lt, fun k e => Nat.lt_of_lt_of_le (h.lt k e) hb.size⟩
/-- A row of requests, or the rest of one. -/
structure Rv (w : World) (V : Value) (ps : List Pr) : Prop where
  ex : ∃ ad cap, V = .slice ad ps.length cap ∧ (ps = [] ∨ ∃ g o, ad = some ⟨g, o, none⟩ ∧ g < w.heap.size ∧ ∀ j (hj : j < ps.length), w.cell? ⟨g, o + j * 5, none⟩ = some (.string ⟨ps[j].rq.method.toArray⟩) ∧ w.cell? ⟨g, o + j * 5 + 1, none⟩ = some (.string ⟨ps[j].rq.target.toArray⟩) ∧ w.cell? ⟨g, o + j * 5 + 2, none⟩ = some ps[j].vh ∧ w.cell? ⟨g, o + j * 5 + 3, none⟩ = some ps[j].vb ∧ w.cell? ⟨g, o + j * 5 + 4, none⟩ = some (.bool ps[j].rq.last))
theorem Rv.below {w w' : World} {V : Value} {ps : List Pr} (h : Rv w V ps) (hb : Below w.heap.size w w') : Rv w' V ps := by
  obtain ⟨ad, cap, rfl, h1⟩ := h.ex
  refine ⟨ad, cap, rfl, ?_⟩
  rcases h1 with h1 | ⟨g, o, rfl, hg, h1⟩
  · exact .inl h1
  · refine .inr ⟨g, o, rfl, Nat.lt_of_lt_of_le hg hb.size, fun j hj => ?_⟩
    obtain ⟨a0, a1, a2, a3, a4⟩ := h1 j hj
    exact ⟨(hb.cell (p := ⟨g, _, none⟩) hg).trans a0, (hb.cell (p := ⟨g, _, none⟩) hg).trans a1, (hb.cell (p := ⟨g, _, none⟩) hg).trans a2, (hb.cell (p := ⟨g, _, none⟩) hg).trans a3, (hb.cell (p := ⟨g, _, none⟩) hg).trans a4⟩
theorem prCells_at {ps : List Pr} {j : Nat} (hj : j < ps.length) (c : Nat) (hc : c < 5) : (prCells ps)[j * 5 + c]? = ps[j].cells[c]? := by
  induction ps generalizing j with
  | nil => cases hj
  | cons p r ih =>
    have e : prCells (p :: r) = p.cells ++ prCells r := rfl
    rw [e]
    cases j with
    | zero => rw [List.getElem?_append_left (by show _ < 5; omega)]; simp
    | succ j =>
      rw [List.getElem?_append_right (by show 5 ≤ _; omega), show (j + 1) * 5 + c - p.cells.length = j * 5 + c by show (j + 1) * 5 + c - 5 = _; omega]
      exact ih (by simpa using hj)
theorem Rv.ofRow {w : World} {B n : Nat} {T : TypeId} {V : Value} {ps : List Pr} (h : w.ownsRow B T 5 V n (prCells ps)) (hn : n = ps.length) : Rv w V ps := by
  subst hn
  rcases h.2 with ⟨h1, h2⟩ | ⟨g, cap, cur, rfl, _, hg, h3, _, h5, h6⟩
  · exact ⟨Option.none, 0, by rw [h2]; exact h1, .inl (List.eq_nil_of_length_eq_zero h2)⟩
  · refine ⟨_, cap, rfl, .inr ⟨g, 0, rfl, block_lt hg, fun j hj => ?_⟩⟩
    have hc : ∀ c, c < 5 → w.cell? ⟨g, 0 + j * 5 + c, none⟩ = ps[j].cells[c]? := fun c hc => by
      rw [cell_of_row _ _ _ _ _ _ hg, Nat.zero_add, ← prCells_at hj c hc, ← h6, List.getElem?_take, if_pos (by omega), Array.getElem?_toList]
    exact ⟨hc 0 (by omega), hc 1 (by omega), hc 2 (by omega), hc 3 (by omega), hc 4 (by omega)⟩
end Go.Wb
namespace Go.Proofs
open Go.RowKit Go.Wi Go.Wb
set_option maxRecDepth 20000 in
set_option maxHeartbeats 4000000 in
theorem Tryz.own_any {w : World} {own : Nat → Prop} {ah ab : Option Addr} {hn ch bn cb : Nat} (me ta : ByteArray) (la : Bool) (hH : Wk w 2 own (.slice ah hn ch) hn) (hB : Wk w 1 own (.slice ab bn cb) bn) (ho : ∀ k, own k → k < w.heap.size) (h1 : hn ≤ 4398046511000) (h2 : bn ≤ 140737488351900) :
    Calls Tryz.prog 50 #[.agg #[.string me, .string ta, .slice ah hn ch, .slice ab bn cb, .bool la]] w fun e w' => (∃ v, e = .returned v) ∧ Wo own w w' := by
  obtain ⟨g, hg⟩ : ∃ g, w.heap.size = g := ⟨_, rfl⟩
  go_enter Tryz.func50, Tryz.ntmps50
  go_upto_region 1 with (fail)
  generalize hW : w.alloc _ = W0
  have hb0 : Below w.heap.size w W0 := by rw [← hW]; exact (Below.refl _ w).alloc (Nat.le_refl _) _
  have hx0 : W0.heap[g]? = some (.cells #[.string me, .string ta, .slice ah hn ch, .slice ab bn cb, .bool la] 56 (0, 0)) := by rw [← hW, ← hg]; exact heap_alloc_new w _
  clear hW
  obtain ⟨P, hP⟩ : ∃ P : Nat → Prop, P = fun k => own k ∨ g < k := ⟨_, rfl⟩
  have hPo : ∀ k, own k → P k := fun k e => by rw [hP]; exact .inl e
  have HPN : Hid (∀ W : World, W0.heap.size ≤ W.heap.size → ∀ k, W.heap.size ≤ k → P k) := fun W hW k hk => (by rw [hP]; exact .inr (by have := block_lt hx0; omega))
  have HPG : Hid (¬ P g) := fun e => (by rw [hP] at e; rcases e with e | e; have := ho g e; omega; omega)
  have HWO : Hid (∀ W, Wo P W0 W → Wo own w W) := fun W hW => ⟨hW.os.trans hb0.os, hW.tape.trans hb0.tape, hW.output.trans hb0.output, Nat.le_trans hb0.size hW.size, fun k hk hn => (hW.block k (Nat.lt_of_lt_of_le hk hb0.size) (fun e => by rw [hP] at e; rcases e with e | e; exact hn e; omega)).trans (hb0.block k hk)⟩
  have HBX : Hid (∀ W, Wo P W0 W → W.cell? ⟨g, 2, none⟩ = some (.slice ah hn ch) ∧ W.cell? ⟨g, 3, none⟩ = some (.slice ab bn cb)) := fun W hW => (by
    have e := (hW.block g (block_lt hx0) HPG.out).trans hx0
    exact ⟨cell_of_row _ _ 2 _ _ _ e, cell_of_row _ _ 3 _ _ _ e⟩)
  have HH : Hid (Wk W0 2 P (.slice ah hn ch) hn) := (hH.keep fun k _ e => hb0.block k e).mono hPo
  have HB : Hid (Wk W0 1 P (.slice ab bn cb) bn) := (hB.keep fun k _ e => hb0.block k e).mono hPo
  clear hb0 hx0 hH hB hPo hP ho hg
  go_wp2
  go_loopw [2] (fun iv wr => ∃ i : Nat, iv = .int .i64 i ∧ i ≤ bn ∧ Hid (Wo P W0 wr) ∧ Hid (Wk wr 2 P (.slice ah hn ch) hn) ∧ Hid (Wk wr 1 P (.slice ab bn cb) bn)) (fun iv _ => bn - (intOf iv).toNat)
  case atStart => exact ⟨0, rfl, Nat.zero_le _, Wo.refl _ _, HH, HB⟩
  case round =>
    clear HH HB
    obtain ⟨i, rfl, hi, HW, HH, HB⟩ := hrel
    obtain ⟨c1, c2⟩ := HBX.out wr HW.out
    by_cases hlt : i < bn
    · have q : (i : Int) < (bn : Int) := by omega
      obtain ⟨gb, rfl, hgb⟩ := HB.out.at (by omega)
      have ht := HB.out.there hlt 0 (by omega)
      rw [Nat.mul_one, Nat.add_zero] at ht
      obtain ⟨v0, hv0⟩ := Option.isSome_iff_exists.1 ht.1
      have hf0 := ht.2
      have HW2 : Hid (Wo P W0 (wr.setCell ⟨gb, i, none⟩ (.int .u8 77))) := HW.out.setCell gb i _ (.inl hgb)
      have HH2 : Hid (Wk (wr.setCell ⟨gb, i, none⟩ (.int .u8 77)) 2 P (.slice ah hn ch) hn) := HH.out.setCell gb i _
      have HB2 : Hid (Wk (wr.setCell ⟨gb, i, none⟩ (.int .u8 77)) 1 P (.slice (some ⟨gb, 0, none⟩) bn cb) bn) := HB.out.setCell gb i _
      clear ht hgb HW HH HB
      go_wp2
      go_roundw
      case rel => exact ⟨i + 1, by simp, by omega, HW2, HH2, HB2⟩
      case measure => simp [intOf]; omega
    · have q : ¬ (i : Int) < (bn : Int) := by omega
      generalize wr = wa at *
      go_wp2
      go_loopw [3, 4] (fun bv iv wr => ∃ (i m cap : Nat) (ad : Option Addr), iv = .int .i64 i ∧ bv = .slice ad m cap ∧ i ≤ 300 ∧ m = bn + i ∧ Hid (Wo P W0 wr) ∧ Hid (Wk wr 2 P (.slice ah hn ch) hn) ∧ Hid (Wk wr 1 P (.slice ad m cap) m)) (fun _ iv _ => 300 - (intOf iv).toNat)
      case atStart => exact ⟨0, bn, cb, ab, rfl, rfl, by omega, rfl, HW, HH, HB⟩
      case round =>
        clear HW HH HB c1 c2 q hlt hi
        obtain ⟨i, m, cap, ad, rfl, rfl, hi, hm, HW, HH, HB⟩ := hrel
        obtain ⟨c1, c2⟩ := HBX.out wr HW.out
        have hm2 : m + 1 ≤ 140737488355328 := by omega
        have HM : Hid (m = bn + i) := hm
        clear hm
        by_cases hlt : i < 300
        · have q : (i : Int) < 300 := by omega
          have ha : Below wr.heap.size wr (wr.alloc (.cells #[.int .u8 77] 5)) := (Below.refl _ wr).alloc (Nat.le_refl _) _
          have han := heap_alloc_new wr (.cells #[.int .u8 77] 5)
          have HBa : Hid (Wk (wr.alloc (.cells #[.int .u8 77] 5)) 1 P (.slice ad m cap) m) := HB.out.keep fun k _ e => ha.block k e
          have HHa : Hid (Wk (wr.alloc (.cells #[.int .u8 77] 5)) 2 P (.slice ah hn ch) hn) := HH.out.keep fun k _ e => ha.block k e
          have HWa : Hid (Wo P W0 (wr.alloc (.cells #[.int .u8 77] 5))) := HW.out.alloc _
          have HPa : Hid (∀ k, (wr.alloc (.cells #[.int .u8 77] 5)).heap.size ≤ k → P k) := HPN.out _ HWa.out.size
          clear ha HW HH HB
          go_wp2_with (first
            | (refine Tryz.appW1 rfl _ _ rfl HBa.out HPa.out rfl (.int .u8 77) rfl wr.heap.size rfl han hm2 ?_; intro ad2 cap2 w2 hk2 hw2 hq2; have HK2 : Hid (Wk w2 1 P (.slice ad2 (m + 1) cap2) (m + 1)) := hk2; have HW2 : Hid (Wo P W0 w2) := HWa.out.trans hw2; have HH2 : Hid (Wk w2 2 P (.slice ah hn ch) hn) := hq2 _ _ _ _ HHa.out; clear hk2 hw2 hq2)
            | fail)
          go_roundw
          case rel => exact ⟨i + 1, m + 1, cap2, ad2, by simp, by simp, by omega, by have := HM.out; omega, HW2, HH2, HK2⟩
          case measure => simp [intOf]; omega
        · have q : ¬ (i : Int) < 300 := by omega
          generalize wr = we at *
          go_wp2
          go_loopw [5] (fun iv wr => ∃ i : Nat, iv = .int .i64 i ∧ i ≤ hn ∧ Hid (Wo P W0 wr) ∧ Hid (Wk wr 2 P (.slice ah hn ch) hn)) (fun iv _ => hn - (intOf iv).toNat)
          case atStart => exact ⟨0, rfl, Nat.zero_le _, HW, HH⟩
          case round =>
            clear HW HH HB c1 c2 q hlt hi HM hm2
            obtain ⟨i, rfl, hi, HW, HH⟩ := hrel
            obtain ⟨c1, c2⟩ := HBX.out wr HW.out
            by_cases hlt : i < hn
            · have q : (i : Int) < (hn : Int) := by omega
              obtain ⟨gh, rfl, hgh⟩ := HH.out.at (by omega)
              have ht := HH.out.there hlt
              have t0 := ht 0 (by omega)
              have t1 := ht 1 (by omega)
              rw [Nat.add_zero] at t0
              obtain ⟨v0, hv0⟩ := Option.isSome_iff_exists.1 t0.1
              obtain ⟨v1, hv1⟩ := Option.isSome_iff_exists.1 t1.1
              have f0 := t0.2
              have f1 := t1.2
              have HW2 : Hid (Wo P W0 ((wr.setCell ⟨gh, i * 2, none⟩ (.string ⟨#[109, 105, 110, 101]⟩)).setCell ⟨gh, i * 2 + 1, none⟩ (.string ⟨#[109, 105, 110, 101]⟩))) := (HW.out.setCell gh (i * 2) _ (.inl hgh)).setCell gh (i * 2 + 1) _ (.inl hgh)
              have HH2 : Hid (Wk ((wr.setCell ⟨gh, i * 2, none⟩ (.string ⟨#[109, 105, 110, 101]⟩)).setCell ⟨gh, i * 2 + 1, none⟩ (.string ⟨#[109, 105, 110, 101]⟩)) 2 P (.slice (some ⟨gh, 0, none⟩) hn ch) hn) := (HH.out.setCell gh (i * 2) _).setCell gh (i * 2 + 1) _
              clear hgh HW HH ht t0 t1
              go_wp2
              go_roundw
              case rel => exact ⟨i + 1, by simp, by omega, HW2, HH2⟩
              case measure => simp [intOf]; omega
            · have q : ¬ (i : Int) < (hn : Int) := by omega
              have ha : Below wr.heap.size wr (wr.alloc (.cells #[.string ⟨#[109, 105, 110, 101]⟩, .string ⟨#[109, 105, 110, 101]⟩] 57)) := (Below.refl _ wr).alloc (Nat.le_refl _) _
              have han := heap_alloc_new wr (.cells #[.string ⟨#[109, 105, 110, 101]⟩, .string ⟨#[109, 105, 110, 101]⟩] 57)
              have HHa : Hid (Wk (wr.alloc (.cells #[.string ⟨#[109, 105, 110, 101]⟩, .string ⟨#[109, 105, 110, 101]⟩] 57)) 2 P (.slice ah hn ch) hn) := HH.out.keep fun k _ e => ha.block k e
              have HWa : Hid (Wo P W0 (wr.alloc (.cells #[.string ⟨#[109, 105, 110, 101]⟩, .string ⟨#[109, 105, 110, 101]⟩] 57))) := HW.out.alloc _
              have HPa : Hid (∀ k, (wr.alloc (.cells #[.string ⟨#[109, 105, 110, 101]⟩, .string ⟨#[109, 105, 110, 101]⟩] 57)).heap.size ≤ k → P k) := HPN.out _ HWa.out.size
              clear ha HW HH
              go_wp2_with (first
                | (refine Tryz.appW2 rfl _ _ rfl HHa.out HPa.out rfl ⟨#[109, 105, 110, 101]⟩ ⟨#[109, 105, 110, 101]⟩ wr.heap.size rfl han (by omega) ?_; intro ad2 cap2 w2 hk2 hw2 hq2; have HW2 : Hid (Wo P W0 w2) := HWa.out.trans hw2; clear hk2 hw2 hq2)
                | fail)
              go_end0
              exact ⟨⟨_, rfl⟩, HWO.out _ HW2.out⟩
set_option maxRecDepth 20000 in
set_option maxHeartbeats 2000000 in
/-- 'same' of two that are one. -/
theorem Tryz.same_weak {w : World} {p q : Pr} (hp : Pw w p) (hq : Pw w q) (h : p.rq = q.rq) (hL : p.rq.headers.length ≤ 9223372036854775807) :
    Calls Tryz.prog 80 #[.agg p.cells.toArray, .agg q.cells.toArray] w fun e w' => e = .returned (.bool true) ∧ Below w.heap.size w w' := by
  obtain ⟨r, ah, ch, ab, cb⟩ := p
  obtain ⟨r', ah', ch', ab', cb'⟩ := q
  obtain rfl : r = r' := h
  have e1 : (Pr.mk r ah ch ab cb).cells.toArray = #[.string ⟨r.method.toArray⟩, .string ⟨r.target.toArray⟩, .slice ah r.headers.length ch, .slice ab r.body.length cb, .bool r.last] := rfl
  have e2 : (Pr.mk r ah' ch' ab' cb').cells.toArray = #[.string ⟨r.method.toArray⟩, .string ⟨r.target.toArray⟩, .slice ah' r.headers.length ch', .slice ab' r.body.length cb', .bool r.last] := rfl
  rw [e1, e2]
  have hb2 : Below w.heap.size w ((w.alloc (.cells #[.string ⟨r.method.toArray⟩, .string ⟨r.target.toArray⟩, .slice ah r.headers.length ch, .slice ab r.body.length cb, .bool r.last] 56)).alloc (.cells #[.string ⟨r.method.toArray⟩, .string ⟨r.target.toArray⟩, .slice ah' r.headers.length ch', .slice ab' r.body.length cb', .bool r.last] 56)) := ((Below.refl _ w).alloc (Nat.le_refl _) _).alloc (by simp) _
  have kh := Tryz.headers_same (hp.heads.below hb2) (hq.heads.below hb2) hL
  have HC : Hid (∀ n, (convert 23 9 (.slice ab r.body.length cb)).run Tryz.prog (World.drewN _ n) = .ok (.string ⟨r.body.toArray⟩) (World.drewN _ n) ∧ (convert 23 9 (.slice ab' r.body.length cb')).run Tryz.prog (World.drewN _ n) = .ok (.string ⟨r.body.toArray⟩) (World.drewN _ n)) := fun n => ⟨Tryz.conv_bs (hp.body.below (belowN hb2 n) hp.lt), Tryz.conv_bs (hq.body.below (belowN hb2 n) hq.lt)⟩
  have HB : Hid _ := hb2
  have hsz : (w.alloc (.cells #[.string ⟨r.method.toArray⟩, .string ⟨r.target.toArray⟩, .slice ah r.headers.length ch, .slice ab r.body.length cb, .bool r.last] 56)).heap.size = w.heap.size + 1 := by simp
  clear hp hq hb2 e1 e2
  go_enter Tryz.func80, Tryz.ntmps80
  go_wp2_with (first
    | (go_at_call 25; refine kh.mono ?_; clear kh; rintro e w1 ⟨rfl, n, rfl⟩; obtain ⟨v1, v2⟩ := HC.out n)
    | fail)
  go_ret
  exact ⟨rfl, belowN HB.out n⟩
set_option maxRecDepth 20000 in
set_option maxHeartbeats 4000000 in
/-- 'all' of two lists that tell the same. -/
theorem Tryz.all_any {w : World} {U V : Value} {ps qs : List Pr} (hU : Rv w U ps) (hV : Rv w V qs) (hp : ∀ p ∈ ps, Pw w p) (hq : ∀ q ∈ qs, Pw w q) (he : ps.map (·.rq) = qs.map (·.rq)) (hl : ps.length ≤ 999999999999) (hh : ∀ p ∈ ps, p.rq.headers.length ≤ 9223372036854775807) :
    Calls Tryz.prog 49 #[U, V] w fun e w' => e = .returned (.bool true) ∧ Below w.heap.size w w' := by
  have hlen : ps.length = qs.length := by have := congrArg List.length he; simpa using this
  obtain ⟨au, cu, rfl, hx⟩ := hU.ex
  obtain ⟨av, cv, rfl, hy⟩ := hV.ex
  obtain ⟨N, hN⟩ : ∃ N, ps.length = N := ⟨_, rfl⟩
  have HN : Hid (ps.length = N ∧ qs.length = N) := ⟨hN, hlen.symm.trans hN⟩
  rw [← hlen, hN]
  have hN2 : N ≤ 999999999999 := by omega
  have KS : Hid (∀ i (h1 : i < ps.length) (h2 : i < qs.length) W, Below w.heap.size w W → Calls Tryz.prog 80 #[.agg ps[i].cells.toArray, .agg qs[i].cells.toArray] W fun e w' => e = .returned (.bool true) ∧ Below W.heap.size W w') := fun i h1 h2 W hW => (by
    have e1 : ps[i].rq = qs[i].rq := by
      have e2 : (ps.map (·.rq))[i]? = (qs.map (·.rq))[i]? := by rw [he]
      rw [List.getElem?_map, List.getElem?_map, List.getElem?_eq_getElem h1, List.getElem?_eq_getElem h2] at e2
      exact Option.some.inj e2
    exact Tryz.same_weak ((hp _ (List.getElem_mem h1)).below hW) ((hq _ (List.getElem_mem h2)).below hW) e1 (hh _ (List.getElem_mem h1)))
  have HX : Hid (∀ i (h1 : i < ps.length) W, Below w.heap.size w W → ∃ g o, au = some ⟨g, o, none⟩ ∧ W.cell? ⟨g, o + i * 5, none⟩ = some (.string ⟨ps[i].rq.method.toArray⟩) ∧ W.cell? ⟨g, o + i * 5 + 1, none⟩ = some (.string ⟨ps[i].rq.target.toArray⟩) ∧ W.cell? ⟨g, o + i * 5 + 2, none⟩ = some ps[i].vh ∧ W.cell? ⟨g, o + i * 5 + 3, none⟩ = some ps[i].vb ∧ W.cell? ⟨g, o + i * 5 + 4, none⟩ = some (.bool ps[i].rq.last)) := fun i h1 W hW => (by
    rcases hx with e | ⟨g, o, e, hg, hc⟩
    · rw [e] at h1; cases h1
    · obtain ⟨a0, a1, a2, a3, a4⟩ := hc i h1
      exact ⟨g, o, e, (hW.cell (p := ⟨g, _, none⟩) hg).trans a0, (hW.cell (p := ⟨g, _, none⟩) hg).trans a1, (hW.cell (p := ⟨g, _, none⟩) hg).trans a2, (hW.cell (p := ⟨g, _, none⟩) hg).trans a3, (hW.cell (p := ⟨g, _, none⟩) hg).trans a4⟩)
  have HY : Hid (∀ i (h1 : i < qs.length) W, Below w.heap.size w W → ∃ g o, av = some ⟨g, o, none⟩ ∧ W.cell? ⟨g, o + i * 5, none⟩ = some (.string ⟨qs[i].rq.method.toArray⟩) ∧ W.cell? ⟨g, o + i * 5 + 1, none⟩ = some (.string ⟨qs[i].rq.target.toArray⟩) ∧ W.cell? ⟨g, o + i * 5 + 2, none⟩ = some qs[i].vh ∧ W.cell? ⟨g, o + i * 5 + 3, none⟩ = some qs[i].vb ∧ W.cell? ⟨g, o + i * 5 + 4, none⟩ = some (.bool qs[i].rq.last)) := fun i h1 W hW => (by
    rcases hy with e | ⟨g, o, e, hg, hc⟩
    · rw [e] at h1; cases h1
    · obtain ⟨a0, a1, a2, a3, a4⟩ := hc i h1
      exact ⟨g, o, e, (hW.cell (p := ⟨g, _, none⟩) hg).trans a0, (hW.cell (p := ⟨g, _, none⟩) hg).trans a1, (hW.cell (p := ⟨g, _, none⟩) hg).trans a2, (hW.cell (p := ⟨g, _, none⟩) hg).trans a3, (hW.cell (p := ⟨g, _, none⟩) hg).trans a4⟩)
  clear hU hV hp hq he hl hh hx hy hlen hN
  go_enter Tryz.func49, Tryz.ntmps49
  go_wp2
  go_loopw [5, 6] (fun kv iv wr => kv = .bool true ∧ ∃ i : Nat, iv = .int .i64 i ∧ i ≤ N ∧ Hid (Below w.heap.size w wr)) (fun _ iv _ => N - (intOf iv).toNat)
  case atStart => exact ⟨rfl, 0, rfl, Nat.zero_le _, Below.refl _ _⟩
  case round =>
    obtain ⟨rfl, i, rfl, hi, HB⟩ := hrel
    by_cases hlt : i < N
    · have q : (i : Int) < (N : Int) := by omega
      have h1 : i < ps.length := by rw [HN.out.1]; exact hlt
      have h2 : i < qs.length := by rw [HN.out.2]; exact hlt
      obtain ⟨gu, ou, rfl, u0, u1, u2, u3, u4⟩ := HX.out i h1 wr HB.out
      obtain ⟨gv, vv, rfl, v0, v1, v2, v3, v4⟩ := HY.out i h2 wr HB.out
      have ks := KS.out i h1 h2
      unfold Pr.cells at ks
      generalize ps[i] = p at *
      generalize qs[i] = r at *
      obtain ⟨⟨me, ta, H, bo, la⟩, ah, ch, ab, cb⟩ := p
      obtain ⟨⟨me2, ta2, H2, bo2, la2⟩, ah2, ch2, ab2, cb2⟩ := r
      simp only [Pr.vh, Pr.vb] at u0 u1 u2 u3 u4 v0 v1 v2 v3 v4 ks
      have k1 := ks wr.drew (HB.out.trans ((Below.refl _ wr).drew.mono HB.out.size))
      clear ks HX HY KS h1 h2
      go_upto_region 5 with (fail)
      go_region_with (first
        | (go_at_call 80; refine k1.mono ?_; clear k1; rintro e w1 ⟨rfl, hb1⟩; have HB1 : Hid (Below w.heap.size w w1) := HB.out.trans (((Below.refl _ wr).drew.trans hb1).mono HB.out.size); clear hb1)
        | fail)
      all_goals
        go_wp2
        go_roundw
        case rel => exact ⟨rfl, i + 1, by simp, by omega, HB1⟩
        case measure => simp [intOf]; omega
    · have q : ¬ (i : Int) < (N : Int) := by omega
      go_wp2
      go_ret
      exact ⟨rfl, HB.out⟩
end Go.Proofs
namespace Go.Wb
open Go.RowKit Go.Proofs Go.Wi
/-- A request that its owner has written over. -/
def mineP : Pr := ⟨⟨[109, 105, 110, 101], [], [], [], false⟩, Option.none, 0, Option.none, 0⟩
theorem Rv.keep {w w' : World} {V : Value} {ps : List Pr} (h : Rv w V ps) (hk : ∀ k, V.ownBlock = some k → k < w.heap.size → w'.heap[k]? = w.heap[k]?) (hs : w.heap.size ≤ w'.heap.size) : Rv w' V ps := by
  obtain ⟨ad, cap, rfl, h1⟩ := h.ex
  refine ⟨ad, cap, rfl, ?_⟩
  rcases h1 with h1 | ⟨g, o, rfl, hg, h1⟩
  · exact .inl h1
  · have e := hk g rfl hg
    refine .inr ⟨g, o, rfl, Nat.lt_of_lt_of_le hg hs, fun j hj => ?_⟩
    obtain ⟨a0, a1, a2, a3, a4⟩ := h1 j hj
    exact ⟨(World.cell?_of_block (a := ⟨g, _, none⟩) e).trans a0, (World.cell?_of_block (a := ⟨g, _, none⟩) e).trans a1, (World.cell?_of_block (a := ⟨g, _, none⟩) e).trans a2, (World.cell?_of_block (a := ⟨g, _, none⟩) e).trans a3, (World.cell?_of_block (a := ⟨g, _, none⟩) e).trans a4⟩
theorem Rv.drop {w : World} {g o n cap : Nat} {ps : List Pr} (h : Rv w (.slice (some ⟨g, o, none⟩) n cap) ps) {i : Nat} (hi : i < ps.length) (c : Nat) : Rv w (.slice (some ⟨g, o + i * 5, none⟩) (n - i) c) (ps.drop i) := by
  obtain ⟨ad, cap', e, h1⟩ := h.ex
  injection e with e1 e2 e3
  subst e1 e2 e3
  refine ⟨_, c, by rw [List.length_drop], .inr ⟨g, o + i * 5, rfl, ?_⟩⟩
  rcases h1 with h1 | ⟨g', o', e, hg, h1⟩
  · rw [h1] at hi; cases hi
  · cases e
    refine ⟨hg, fun j hj => ?_⟩
    rw [List.length_drop] at hj
    obtain ⟨a0, a1, a2, a3, a4⟩ := h1 (i + j) (by omega)
    rw [show o + (i + j) * 5 = o + i * 5 + j * 5 by omega] at a0 a1 a2 a3 a4
    simp only [List.getElem_drop]
    exact ⟨a0, a1, a2, a3, a4⟩
abbrev set5 (w : World) (g j : Nat) (v0 v1 v2 v3 v4 : Value) : World := ((((w.setCell ⟨g, j, none⟩ v0).setCell ⟨g, j + 1, none⟩ v1).setCell ⟨g, j + 2, none⟩ v2).setCell ⟨g, j + 3, none⟩ v3).setCell ⟨g, j + 4, none⟩ v4
theorem set5_out (w : World) (g j : Nat) (v0 v1 v2 v3 v4 : Value) (x : Nat) (hx : x < j ∨ j + 5 ≤ x) : (set5 w g j v0 v1 v2 v3 v4).cell? ⟨g, x, none⟩ = w.cell? ⟨g, x, none⟩ := by
  have ne : ∀ k, x ≠ k → (⟨g, k, none⟩ : Addr) ≠ ⟨g, x, none⟩ := fun k h e => h (by injection e with _ e; exact e.symm)
  rw [World.cell?_setCell_other _ _ _ _ (ne _ (by omega)), World.cell?_setCell_other _ _ _ _ (ne _ (by omega)), World.cell?_setCell_other _ _ _ _ (ne _ (by omega)), World.cell?_setCell_other _ _ _ _ (ne _ (by omega)), World.cell?_setCell_other _ _ _ _ (ne _ (by omega))]
theorem set5_wo (w : World) (g j : Nat) (v0 v1 v2 v3 v4 : Value) : Wo (fun k => k = g) w (set5 w g j v0 v1 v2 v3 v4) := (((((Wo.refl (fun k => k = g) w).setCell g j _ (.inl rfl)).setCell g (j + 1) _ (.inl rfl)).setCell g (j + 2) _ (.inl rfl)).setCell g (j + 3) _ (.inl rfl)).setCell g (j + 4) _ (.inl rfl)
theorem set5_in (w : World) (g j : Nat) (v0 v1 v2 v3 v4 : Value) (h : w.there g j 5) : (set5 w g j v0 v1 v2 v3 v4).cell? ⟨g, j, none⟩ = some v0 ∧ (set5 w g j v0 v1 v2 v3 v4).cell? ⟨g, j + 1, none⟩ = some v1 ∧ (set5 w g j v0 v1 v2 v3 v4).cell? ⟨g, j + 2, none⟩ = some v2 ∧ (set5 w g j v0 v1 v2 v3 v4).cell? ⟨g, j + 3, none⟩ = some v3 ∧ (set5 w g j v0 v1 v2 v3 v4).cell? ⟨g, j + 4, none⟩ = some v4 := by
  have ne : ∀ k l, k ≠ l → (⟨g, k, none⟩ : Addr) ≠ ⟨g, l, none⟩ := fun k l h e => h (by injection e)
  obtain ⟨a0, e0⟩ := Option.isSome_iff_exists.1 (h 0 (by omega)).1
  obtain ⟨a1, e1⟩ := Option.isSome_iff_exists.1 (h 1 (by omega)).1
  obtain ⟨a2, e2⟩ := Option.isSome_iff_exists.1 (h 2 (by omega)).1
  obtain ⟨a3, e3⟩ := Option.isSome_iff_exists.1 (h 3 (by omega)).1
  obtain ⟨a4, e4⟩ := Option.isSome_iff_exists.1 (h 4 (by omega)).1
  rw [Nat.add_zero] at e0
  have o : ∀ (W : World) (k l : Nat) (v : Value), k ≠ l → (W.setCell ⟨g, k, none⟩ v).cell? ⟨g, l, none⟩ = W.cell? ⟨g, l, none⟩ := fun W k l v hkl => World.cell?_setCell_other _ _ _ _ (ne k l hkl)
  have s : ∀ (W : World) (k : Nat) (v a : Value), W.cell? ⟨g, k, none⟩ = some a → (W.setCell ⟨g, k, none⟩ v).cell? ⟨g, k, none⟩ = some v := fun W k v a h => World.cell?_setCell_same _ _ _ h
  refine ⟨?_, ?_, ?_, ?_, ?_⟩
  · rw [o _ _ _ _ (by omega), o _ _ _ _ (by omega), o _ _ _ _ (by omega), o _ _ _ _ (by omega)]; exact s _ _ _ _ e0
  · rw [o _ _ _ _ (by omega), o _ _ _ _ (by omega), o _ _ _ _ (by omega)]; exact s _ _ _ _ (by rw [o _ _ _ _ (by omega)]; exact e1)
  · rw [o _ _ _ _ (by omega), o _ _ _ _ (by omega)]; exact s _ _ _ _ (by rw [o _ _ _ _ (by omega), o _ _ _ _ (by omega)]; exact e2)
  · rw [o _ _ _ _ (by omega)]; exact s _ _ _ _ (by rw [o _ _ _ _ (by omega), o _ _ _ _ (by omega), o _ _ _ _ (by omega)]; exact e3)
  · exact s _ _ _ _ (by rw [o _ _ _ _ (by omega), o _ _ _ _ (by omega), o _ _ _ _ (by omega), o _ _ _ _ (by omega)]; exact e4)
/-- One of a row is written over. -/
theorem Rv.put {w : World} {g n cap : Nat} {ps : List Pr} (h : Rv w (.slice (some ⟨g, 0, none⟩) n cap) ps) {i : Nat} (hi : i < ps.length) (ht : w.there g (i * 5) 5) : Rv (set5 w g (i * 5) (.string ⟨#[109, 105, 110, 101]⟩) (.string ⟨#[]⟩) (.slice none 0 0) (.slice none 0 0) (.bool false)) (.slice (some ⟨g, 0, none⟩) n cap) (ps.set i mineP) := by
  obtain ⟨ad, cap', e, h1⟩ := h.ex
  injection e with e1 e2 e3
  subst e1 e2 e3
  refine ⟨_, cap, by rw [List.length_set], .inr ⟨g, 0, rfl, ?_⟩⟩
  rcases h1 with h1 | ⟨g', o', e, hg, h1⟩
  · rw [h1] at hi; cases hi
  · cases e
    refine ⟨Nat.lt_of_lt_of_le hg (set5_wo ..).size, fun j hj => ?_⟩
    rw [List.length_set] at hj
    by_cases hji : j = i
    · subst hji
      obtain ⟨s0, s1, s2, s3, s4⟩ := set5_in w g (j * 5) (.string ⟨#[109, 105, 110, 101]⟩) (.string ⟨#[]⟩) (.slice none 0 0) (.slice none 0 0) (.bool false) ht
      simp only [List.getElem_set_self, Nat.zero_add]
      exact ⟨s0, s1, s2, s3, s4⟩
    · obtain ⟨a0, a1, a2, a3, a4⟩ := h1 j hj
      have hne : ¬ i = j := fun e => hji e.symm
      simp only [List.getElem_set_ne hne]
      have hx : ∀ c, c < 5 → (set5 w g (i * 5) (.string ⟨#[109, 105, 110, 101]⟩) (.string ⟨#[]⟩) (.slice none 0 0) (.slice none 0 0) (.bool false)).cell? ⟨g, 0 + j * 5 + c, none⟩ = w.cell? ⟨g, 0 + j * 5 + c, none⟩ := fun c hc => set5_out _ _ _ _ _ _ _ _ _ (by
        rcases Nat.lt_or_ge j i with e | e
        · have : (j + 1) * 5 ≤ i * 5 := Nat.mul_le_mul_right 5 e
          left; omega
        · have : (i + 1) * 5 ≤ j * 5 := Nat.mul_le_mul_right 5 (by omega)
          right; omega)
      exact ⟨(hx 0 (by omega)).trans a0, (hx 1 (by omega)).trans a1, (hx 2 (by omega)).trans a2, (hx 3 (by omega)).trans a3, (hx 4 (by omega)).trans a4⟩
theorem mine_next (ps : List Pr) (i : Nat) (hi : i < ps.length) : (List.replicate i mineP ++ ps.drop i).set i mineP = List.replicate (i + 1) mineP ++ ps.drop (i + 1) := by
  rw [List.set_append_right _ _ (by rw [List.length_replicate]; omega), List.length_replicate, Nat.sub_self, List.drop_eq_getElem_cons hi, List.set_cons_zero, List.replicate_succ', List.append_assoc]
  rfl
theorem Wk.set5 {w : World} {n size : Nat} {P : Nat → Prop} {V : Value} (h : Wk w size P V n) (g j : Nat) (v0 v1 v2 v3 v4 : Value) : Wk (Wb.set5 w g j v0 v1 v2 v3 v4) size P V n := ((((h.setCell g j v0).setCell g (j + 1) v1).setCell g (j + 2) v2).setCell g (j + 3) v3).setCell g (j + 4) v4
end Go.Wb
namespace Go.Proofs
open Go.RowKit Go.Wi Go.Wb
/-- The desk: what came last, and what it is. -/
structure Tryz.Dk (w : World) (d : Nat) (PA PB : Nat → Prop) (U V : Value) (rs : List Rq) : Prop where
  box : w.heap[d]? = some (.cells #[U, V] 45 (0, 0))
  a : Tryz.RlD w PA U rs
  b : Tryz.RlW w PB V rs
  dis : ∀ k, PA k → PB k → False
  da : ¬ PA d
  db : ¬ PB d
/-- In the midst of comes. -/
structure Tryz.DS (w wr : World) (d : Nat) (PA PB : Nat → Prop) (U V : Value) (ps qs : List Pr) (i : Nat) : Prop where
  box : wr.heap[d]? = some (.cells #[U, V] 45 (0, 0))
  rv : Rv wr U (List.replicate i mineP ++ ps.drop i)
  wk : Wk wr 5 PA U ps.length
  pa : ∀ p ∈ ps.drop i, Tryz.PrOk wr PA U p
  rb : Rv wr V qs
  pb : ∀ q ∈ qs, Tryz.PrW wr PB V q
  wo : Wo PA w wr
theorem Tryz.PrOk.pw {w : World} {P : Nat → Prop} {V : Value} {p : Pr} (h : Tryz.PrOk w P V p) : Pw w p := ⟨Hs.ofRow h.heads, Bs.ofRow h.body, fun k e => (h.body.lt k e).2⟩
theorem Tryz.PrW.pw {w : World} {P : Nat → Prop} {V : Value} {p : Pr} (h : Tryz.PrW w P V p) : Pw w p := ⟨h.heads, h.body, fun k e => (h.pb k e).2.2⟩
theorem Tryz.DS.below {w wr w1 : World} {d : Nat} {PA PB : Nat → Prop} {U V : Value} {ps qs : List Pr} {i : Nat} (h : Tryz.DS w wr d PA PB U V ps qs i) (hb : Below wr.heap.size wr w1) : Tryz.DS w w1 d PA PB U V ps qs i :=
  ⟨(hb.block d (block_lt h.box)).trans h.box, h.rv.below hb, h.wk.keep fun k _ e => hb.block k e, fun p hp => (h.pa p hp).keep fun k e1 e2 _ => ⟨hb.block k e1, e2⟩, h.rb.below hb, fun q hq => Tryz.PrW.keep (h.pb q hq) hb.size fun k e1 e2 => ⟨hb.block k e1, e2⟩, h.wo.below hb h.wo.size⟩
/-- One is its owner's now, and written over. -/
theorem Tryz.DS.next {w wr w1 : World} {d gU N cu : Nat} {PA PB : Nat → Prop} {V : Value} {ps qs : List Pr} {i : Nat} (h : Tryz.DS w wr d PA PB (.slice (some ⟨gU, 0, none⟩) N cu) V ps qs i) (hN : N = ps.length) (hi : i < ps.length) (hap : ps.Pairwise Apart) (hdis : ∀ k, PA k → PB k → False) (hda : ¬ PA d) (hV : ∀ k, V.ownBlock = some k → PB k)
    (hw : Wo (fun k => (ps[i].vh.ownBlock = some k ∨ ps[i].vb.ownBlock = some k)) wr w1) : Tryz.DS w (set5 w1 gU (i * 5) (.string ⟨#[109, 105, 110, 101]⟩) (.string ⟨#[]⟩) (.slice none 0 0) (.slice none 0 0) (.bool false)) d PA PB (.slice (some ⟨gU, 0, none⟩) N cu) V ps qs (i + 1) ∧ w1.there gU (i * 5) 5 ∧ w1.heap[d]? = wr.heap[d]? := by
  subst hN
  have hdr : ps.drop i = ps[i] :: ps.drop (i + 1) := List.drop_eq_getElem_cons hi
  have hpi := h.pa ps[i] (by rw [hdr]; exact List.mem_cons_self)
  have hPi : ∀ k, (ps[i].vh.ownBlock = some k ∨ ps[i].vb.ownBlock = some k) → PA k ∧ k ≠ gU := fun k e => by
    rcases e with e | e
    · exact ⟨(hpi.ph k e).1, fun e2 => (hpi.ph k e).2 (by rw [e2]; rfl)⟩
    · exact ⟨(hpi.pb k e).1, fun e2 => (hpi.pb k e).2 (by rw [e2]; rfl)⟩
  have hgU : PA gU ∧ gU < wr.heap.size := by
    rcases h.wk with ⟨e, _⟩ | ⟨g, c, e, h1, h2, _⟩
    · cases e
    · cases e; exact ⟨h1, h2⟩
  have hUk : w1.heap[gU]? = wr.heap[gU]? := hw.block gU hgU.2 (fun e => (hPi gU e).2 rfl)
  have hwk1 : Wk w1 5 PA (.slice (some ⟨gU, 0, none⟩) ps.length cu) ps.length := by
    rcases h.wk with h0 | ⟨g, c, e, h1, h2, h3, h4⟩
    · exact .inl h0
    · cases e
      exact .inr ⟨gU, cu, rfl, h1, Nat.lt_of_lt_of_le h2 hw.size, h3, fun j hj => ⟨by rw [World.cell?_of_block (a := ⟨gU, j, none⟩) hUk]; exact (h4 j hj).1, (World.frozen?_of_block (a := ⟨gU, j, none⟩) hUk).trans (h4 j hj).2⟩⟩
  have ht := hwk1.there hi
  have hdk : w1.heap[d]? = wr.heap[d]? := hw.block d (block_lt h.box) (fun e => hda (hPi d e).1)
  have hw2 := set5_wo w1 gU (i * 5) (.string ⟨#[109, 105, 110, 101]⟩) (.string ⟨#[]⟩) (.slice none 0 0) (.slice none 0 0) (.bool false)
  have hwA : Wo PA wr (set5 w1 gU (i * 5) (.string ⟨#[109, 105, 110, 101]⟩) (.string ⟨#[]⟩) (.slice none 0 0) (.slice none 0 0) (.bool false)) := (hw.mono fun k e => (hPi k e).1).trans (hw2.mono fun k e => by rw [e]; exact hgU.1)
  have hrv1 : Rv w1 (.slice (some ⟨gU, 0, none⟩) ps.length cu) (List.replicate i mineP ++ ps.drop i) := h.rv.keep (fun k e _ => by cases e; exact hUk) hw.size
  refine ⟨⟨(hw2.block d (Nat.lt_of_lt_of_le (block_lt h.box) hw.size) (fun e => hda (by rw [e]; exact hgU.1))).trans (hdk.trans h.box), ?_, hwk1.set5 .., fun p hp => ?_, h.rb.keep (fun k e hk => hwA.block k hk (fun e2 => hdis k e2 (hV k e))) hwA.size, fun q hq => Tryz.PrW.keep (h.pb q hq) hwA.size fun k hk e => ⟨hwA.block k hk (fun e2 => hdis k e2 e), e⟩, h.wo.trans hwA⟩, ht, hdk⟩
  · have := hrv1.put (i := i) (by rw [List.length_append, List.length_replicate, List.length_drop]; omega) ht
    rw [mine_next ps i hi] at this
    exact this
  · have hp0 := h.pa p (by rw [hdr]; exact List.mem_cons_of_mem _ hp)
    have hap2 : Apart ps[i] p := by
      have h1 : (ps.drop i).Pairwise Apart := hap.sublist (List.drop_sublist i ps)
      rw [hdr] at h1
      exact (List.pairwise_cons.1 h1).1 p hp
    refine ⟨row_keep hp0.heads fun k e => ?_, row_keep hp0.body fun k e => ?_, hp0.ph, hp0.pb⟩
    · have hk := (hp0.heads.lt k e).2
      rw [hw2.block k (Nat.lt_of_lt_of_le hk hw.size) (fun e2 => (hp0.ph k e).2 (by rw [e2]; rfl)), hw.block k hk (fun e2 => hap2 k e2 (.inl e))]
    · have hk := (hp0.body.lt k e).2
      rw [hw2.block k (Nat.lt_of_lt_of_le hk hw.size) (fun e2 => (hp0.pb k e).2 (by rw [e2]; rfl)), hw.block k hk (fun e2 => hap2 k e2 (.inr e))]
end Go.Proofs
namespace Go.Proofs
open Go.RowKit Go.Wi Go.Wb
theorem Tryz.RlD.is {w : World} {P : Nat → Prop} {V : Value} {rs : List Rq} (h : Tryz.RlD w P V rs) : ∃ ad cap, V = .slice ad rs.length cap ∧ rs.length ≤ cap := by
  obtain ⟨ps, h1, h2, _⟩ := h.ex
  have hl : rs.length = ps.length := by rw [h1, List.length_map]
  rcases h2.2 with ⟨e1, e2⟩ | ⟨g, cap, _, e1, _, _, e3, _⟩
  · exact ⟨Option.none, 0, by rw [hl, e2]; exact e1, by omega⟩
  · exact ⟨_, cap, by rw [hl]; exact e1, by omega⟩
theorem Tryz.RlW.cap {w : World} {P : Nat → Prop} {V : Value} {rs : List Rq} (h : Tryz.RlW w P V rs) : ∃ ad cap, V = .slice ad rs.length cap ∧ rs.length ≤ cap := by
  obtain ⟨ps, h1, h2, _⟩ := h.ex
  have hl : rs.length = ps.length := by rw [h1, List.length_map]
  rcases h2.2 with ⟨e1, e2⟩ | ⟨g, cap, _, e1, _, _, e3, _⟩
  · exact ⟨Option.none, 0, by rw [hl, e2]; exact e1, by omega⟩
  · exact ⟨_, cap, by rw [hl]; exact e1, by omega⟩
/-- Requests of which the laws' loops come to an end. -/
def Wb.Sml (rs : List Rq) : Prop := rs.length ≤ 999999999999 ∧ ∀ r ∈ rs, r.headers.length ≤ 4398046511000 ∧ r.body.length ≤ 140737488351900
set_option maxRecDepth 20000 in
set_option maxHeartbeats 8000000 in
theorem Tryz.comes_any {w : World} {d : Nat} {PA PB PA' PB' : Nat → Prop} {U V U' V' : Value} {rs rs' : List Rq} (h : Tryz.Dk w d PA PB U V rs) (hl : Tryz.RlD w PA' U' rs') (hm : Tryz.RlW w PB' V' rs') (d1 : ∀ k, PA k → PA' k → False) (d2 : ∀ k, PA k → PB' k → False) (d3 : ∀ k, PA' k → PB' k → False) (da : ¬ PA' d) (db : ¬ PB' d) (hs : Wb.Sml rs) (hs' : Wb.Sml rs') :
    Calls Tryz.prog 31 #[.pointer (some ⟨d, 0, none⟩), U', V'] w fun e w' => e = .returned (.bool true) ∧ Wo (fun k => PA k ∨ k = d) w w' ∧ (Tryz.Dk w' d PA PB U V rs ∨ Tryz.Dk w' d PA' PB' U' V' rs') := by
  obtain ⟨au', cu', rfl, hcu'⟩ := Tryz.RlD.is hl
  obtain ⟨av', cv', rfl, hcv'⟩ := Tryz.RlW.cap hm
  by_cases h0 : rs' = []
  · subst h0
    have H : Hid (Tryz.Dk w d PA PB U V rs) := h
    clear h hl hm d1 d2 d3 da db hs hs'
    go_enter Tryz.func31, Tryz.ntmps31
    go_wp2
    go_ret
    exact ⟨rfl, Wo.refl _ _, .inl H.out⟩
  · have hN' : 0 < rs'.length := List.length_pos_iff.2 h0
    obtain ⟨N', hN'2⟩ : ∃ N', rs'.length = N' := ⟨_, rfl⟩
    obtain ⟨au, cu, rfl, hcu⟩ := Tryz.RlD.is h.a
    obtain ⟨av, cv, rfl, hcv⟩ := Tryz.RlW.cap h.b
    obtain ⟨ps, e1, r1, u1, p1, ap⟩ := h.a.ex
    obtain ⟨qs, e2, r2, u2, p2⟩ := h.b.ex
    obtain ⟨ps', e3, r3, u3, p3, ap'⟩ := hl.ex
    obtain ⟨qs', e4, r4, u4, p4⟩ := hm.ex
    have hpl : ps.length = rs.length := by rw [e1, List.length_map]
    have hql : qs.length = rs.length := by rw [e2, List.length_map]
    obtain ⟨N, hN⟩ : ∃ N, rs.length = N := ⟨_, rfl⟩
    rw [hN] at hcu hcv hpl hql
    rw [hN'2] at hcu' hcv' hN'
    rw [hN'2]
    have q0 : ((N' : Int) == 0) = false := by simp; omega
    have hNl : N ≤ 999999999999 := by rw [← hN]; exact hs.1
    have HPL : Hid (ps.length = N ∧ qs.length = N) := ⟨hpl, hql⟩
    have HST : Hid (Tryz.DS w w d PA PB (.slice au N cu) (.slice av N cv) ps qs 0) := (by
      rw [hN] at r1 r2
      have hb := h.box
      rw [hN] at hb
      exact ⟨hb, Rv.ofRow r1 (by rfl), Wk.ofRow r1 PA (by rw [hN] at u1; exact u1), fun p hp => by have := p1 p hp; rw [hN] at this; exact this, Rv.ofRow r2 (by rfl), fun q hq => by have := p2 q hq; rw [hN] at this; exact this, Wo.refl _ _⟩)
    have HAP : Hid (ps.Pairwise Apart) := ap
    have HDIS : Hid (∀ k, PA k → PB k → False) := h.dis
    have HDA : Hid (¬ PA d) := h.da
    have HUV : Hid (∀ k, (Value.slice av N cv).ownBlock = some k → PB k) := (by rw [hN] at u2; exact u2)
    have HEQ : Hid (ps.map (·.rq) = qs.map (·.rq)) := e1.symm.trans e2
    have HSM : Hid (∀ p ∈ ps, p.rq.headers.length ≤ 4398046511000 ∧ p.rq.body.length ≤ 140737488351900) := fun p hp => hs.2 p.rq (by rw [e1]; exact List.mem_map_of_mem hp)
    have HSN : Hid (Wb.Sml rs') := hs'
    have HNL' : Hid (N' ≤ 999999999999) := (by show N' ≤ _; rw [← hN'2]; exact hs'.1)
    rw [hN'2] at hl hm
    have HL : Hid (Tryz.RlD w PA' (.slice au' N' cu') rs') := hl
    have HM : Hid (Tryz.RlW w PB' (.slice av' N' cv') rs') := hm
    have HD1 : Hid (∀ k, PA k → PA' k → False) := d1
    have HD2 : Hid (∀ k, PA k → PB' k → False) := d2
    have HDK : Hid ((∀ k, PA' k → PB' k → False) ∧ ¬ PA' d ∧ ¬ PB' d) := ⟨d3, da, db⟩
    have HDL : Hid (d < w.heap.size) := block_lt h.box
    clear h hl hm d1 d2 d3 da db hs hs' ps' qs' e3 e4 r3 r4 u3 u4 p3 p4 ap' r1 r2 u1 u2 p1 p2 ap e1 e2 hpl hql hN h0 hN'2
    go_enter Tryz.func31, Tryz.ntmps31
    go_wp2
    go_loopw [7, 8] (fun iv _ wr => ∃ i : Nat, iv = .int .i64 i ∧ i ≤ N ∧ Hid (Tryz.DS w wr d PA PB (.slice au N cu) (.slice av N cv) ps qs i)) (fun iv _ _ => N - (intOf iv).toNat)
    case atStart => exact ⟨0, rfl, Nat.zero_le _, HST⟩
    case round =>
      clear HST
      obtain ⟨i, rfl, hi, HDS⟩ := hrel
      have hb := HDS.out.box
      have b0 : wr.cell? ⟨d, 0, none⟩ = some (.slice au N cu) := cell_of_row _ _ 0 _ _ _ hb
      have b1 : wr.cell? ⟨d, 1, none⟩ = some (.slice av N cv) := cell_of_row _ _ 1 _ _ _ hb
      clear hb
      by_cases hlt : i < N
      · have q : (i : Int) < (N : Int) := by omega
        have hwk := HDS.out.wk
        rw [HPL.out.1] at hwk
        obtain ⟨gU, rfl, -⟩ := hwk.at (by omega)
        obtain ⟨gV, oV, rfl⟩ : ∃ g o, av = some ⟨g, o, none⟩ := by
          obtain ⟨ad, cap, e, h1⟩ := HDS.out.rb.ex
          injection e with e
          rcases h1 with h1 | ⟨g, o, e2, _⟩
          · have := HPL.out.2; rw [h1] at this; simp at this; omega
          · exact ⟨g, o, e.trans e2⟩
        clear hwk
        have q1 : ¬ cu = i := by omega
        have q2 : ¬ cv = i := by omega
        have hip : i < ps.length := by rw [HPL.out.1]; exact hlt
        have hiq : i < qs.length := by rw [HPL.out.2]; exact hlt
        have k1 : Calls Tryz.prog 49 #[.slice (some ⟨gU, i * 5, none⟩) (N - i) (cu - i), .slice (some ⟨gV, oV + i * 5, none⟩) (N - i) (cv - i)] wr.drew fun e w' => e = .returned (.bool true) ∧ Hid (Below wr.heap.size wr w') := by
          have hd := Tryz.DS.below HDS.out ((Below.refl _ wr).drew)
          have r1 := hd.rv.drop (i := i) (by rw [List.length_append, List.length_replicate, List.length_drop]; omega) (cu - i)
          rw [List.drop_left' (by rw [List.length_replicate]), Nat.zero_add] at r1
          have r2 := hd.rb.drop (i := i) hiq (cv - i)
          refine (Tryz.all_any r1 r2 (fun p hp => Tryz.PrOk.pw (hd.pa p hp)) (fun q hq => Tryz.PrW.pw (hd.pb q (List.mem_of_mem_drop hq))) (by rw [List.map_drop, List.map_drop, HEQ.out]) (by rw [List.length_drop, HPL.out.1]; omega) (fun p hp => by have := (HSM.out p (List.mem_of_mem_drop hp)).1; omega)).mono ?_
          rintro e w' ⟨rfl, hb⟩
          exact ⟨rfl, ((Below.refl _ wr).drew).trans hb⟩
        obtain ⟨p, hpi⟩ : ∃ p, ps[i] = p := ⟨_, rfl⟩
        have hpm : p ∈ ps := by rw [← hpi]; exact List.getElem_mem hip
        have hsm := HSM.out p hpm
        obtain ⟨⟨me, ta, H, bo, la⟩, ah, ch, ab, cb⟩ := p
        have hsm1 : H.length ≤ 4398046511000 := hsm.1
        have hsm2 : bo.length ≤ 140737488351900 := hsm.2
        have HOW : Hid (∀ w1, Below wr.heap.size wr w1 → (w1.cell? ⟨d, 0, none⟩ = some (.slice (some ⟨gU, 0, none⟩) N cu) ∧ w1.cell? ⟨gU, i * 5, none⟩ = some (.string ⟨me.toArray⟩) ∧ w1.cell? ⟨gU, i * 5 + 1, none⟩ = some (.string ⟨ta.toArray⟩) ∧ w1.cell? ⟨gU, i * 5 + 2, none⟩ = some (.slice ah H.length ch) ∧ w1.cell? ⟨gU, i * 5 + 3, none⟩ = some (.slice ab bo.length cb) ∧ w1.cell? ⟨gU, i * 5 + 4, none⟩ = some (.bool la)) ∧ Calls Tryz.prog 50 #[.agg #[.string ⟨me.toArray⟩, .string ⟨ta.toArray⟩, .slice ah H.length ch, .slice ab bo.length cb, .bool la]] w1 fun e w2 => (∃ v, e = .returned v) ∧ Hid (Tryz.DS w (set5 w2 gU (i * 5) (.string ⟨#[109, 105, 110, 101]⟩) (.string ⟨#[]⟩) (.slice none 0 0) (.slice none 0 0) (.bool false)) d PA PB (.slice (some ⟨gU, 0, none⟩) N cu) (.slice (some ⟨gV, oV, none⟩) N cv) ps qs (i + 1)) ∧ Hid (w2.there gU (i * 5) 5) ∧ Hid (w2.cell? ⟨d, 0, none⟩ = some (.slice (some ⟨gU, 0, none⟩) N cu))) := fun w1 hb1 => (by
          have hd := Tryz.DS.below HDS.out hb1
          have hpo := hd.pa _ (show (⟨⟨me, ta, H, bo, la⟩, ah, ch, ab, cb⟩ : Pr) ∈ ps.drop i by rw [List.drop_eq_getElem_cons hip, hpi]; exact List.mem_cons_self)
          refine ⟨⟨cell_of_row _ _ 0 _ _ _ hd.box, ?_⟩, ?_⟩
          · have hl2 : i < (List.replicate i mineP ++ ps.drop i).length := by rw [List.length_append, List.length_replicate, List.length_drop]; omega
            have hg : (List.replicate i mineP ++ ps.drop i)[i] = ⟨⟨me, ta, H, bo, la⟩, ah, ch, ab, cb⟩ := by
              rw [List.getElem_append_right (by rw [List.length_replicate]; omega)]
              simp only [List.length_replicate, Nat.sub_self, List.getElem_drop, Nat.add_zero]
              exact hpi
            obtain ⟨ad, cap, e, h1⟩ := hd.rv.ex
            injection e with e
            rcases h1 with h1 | ⟨g, o, e2, hg2, h1⟩
            · rw [h1] at hl2; cases hl2
            · have e3 := e.trans e2
              cases e3
              obtain ⟨a0, a1, a2, a3, a4⟩ := h1 i hl2
              rw [hg] at a0 a1 a2 a3 a4
              rw [Nat.zero_add] at a0 a1 a2 a3 a4
              exact ⟨a0, a1, a2, a3, a4⟩
          · have hown := Tryz.own_any (w := w1) (own := fun k => (Value.slice ah H.length ch).ownBlock = some k ∨ (Value.slice ab bo.length cb).ownBlock = some k) ⟨me.toArray⟩ ⟨ta.toArray⟩ la (Wk.ofRow hpo.heads _ fun k e => .inl e) (Wk.ofRow hpo.body _ fun k e => .inr e) (fun k e => by rcases e with e | e; exact (hpo.heads.lt k e).2; exact (hpo.body.lt k e).2) hsm1 hsm2
            refine hown.mono ?_
            rintro e w2 ⟨hv, hw⟩
            obtain ⟨g1, g2, g3⟩ := Tryz.DS.next hd HPL.out.1.symm hip HAP.out HDIS.out HDA.out HUV.out (w1 := w2) (by rw [hpi]; exact hw)
            exact ⟨hv, g1, g2, (World.cell?_of_block (a := ⟨d, 0, none⟩) g3).trans (cell_of_row _ _ 0 _ _ _ hd.box)⟩)
        clear hpm hsm hpi hip hiq HDS
        go_upto_region 6 with (fail)
        go_region_with (first
          | (go_at_call 49; refine k1.mono ?_; clear k1; rintro e w1 ⟨rfl, HB1⟩)
          | fail)
        all_goals
          obtain ⟨⟨c0, u0, u1, u2, u3, u4⟩, k2⟩ := HOW.out w1 HB1.out
          clear HOW b0 b1
          go_upto_region 10 with (first
            | (go_at_call 50; refine k2.mono ?_; clear k2 c0 u0 u1 u2 u3 u4; rintro e w2 ⟨⟨v2, rfl⟩, HD2', HTH, HC0⟩; have c0 := HC0.out; have t0 := HTH.out 0 (by omega); have t1 := HTH.out 1 (by omega); have t2 := HTH.out 2 (by omega); have t3 := HTH.out 3 (by omega); have t4 := HTH.out 4 (by omega); rw [Nat.add_zero] at t0; obtain ⟨x0, y0⟩ := Option.isSome_iff_exists.1 t0.1; obtain ⟨x1, y1⟩ := Option.isSome_iff_exists.1 t1.1; obtain ⟨x2, y2⟩ := Option.isSome_iff_exists.1 t2.1; obtain ⟨x3, y3⟩ := Option.isSome_iff_exists.1 t3.1; obtain ⟨x4, y4⟩ := Option.isSome_iff_exists.1 t4.1; have z0 := t0.2; have z1 := t1.2; have z2 := t2.2; have z3 := t3.2; have z4 := t4.2; clear t0 t1 t2 t3 t4 HTH HC0)
            | fail)
          go_wp2
          go_roundw
          case rel => exact ⟨i + 1, by simp, by omega, HD2'⟩
          case measure => simp [intOf]; omega
      · have q : ¬ (i : Int) < (N : Int) := by omega
        obtain rfl : i = N := by omega
        have HWO : Hid (Wo PA w wr) := HDS.out.wo
        have HBX : Hid (wr.heap[d]? = some (.cells #[.slice au i cu, .slice av i cv] 45 (0, 0))) := HDS.out.box
        have HRV : Hid (∀ j, j < i → ∃ g, au = some ⟨g, 0, none⟩ ∧ wr.cell? ⟨g, j * 5, none⟩ = some (.string ⟨#[109, 105, 110, 101]⟩)) := fun j hj => (by
          have hwk := HDS.out.wk
          rw [HPL.out.1] at hwk
          obtain ⟨gU, rfl, -⟩ := hwk.at (by omega)
          have hrv := HDS.out.rv
          rw [List.drop_of_length_le (by rw [HPL.out.1]; exact Nat.le_refl _), List.append_nil] at hrv
          obtain ⟨ad, cap, e, h1⟩ := hrv.ex
          injection e with e
          rcases h1 with h1 | ⟨g, o, e2, hg2, h1⟩
          · have := congrArg List.length h1; simp at this; omega
          · have e3 := e.trans e2
            cases e3
            have := (h1 j (by rw [List.length_replicate]; exact hj)).1
            rw [List.getElem_replicate, Nat.zero_add] at this
            exact ⟨gU, rfl, this⟩)
        have HB0 : Hid (wr.cell? ⟨d, 0, none⟩ = some (.slice au i cu)) := b0
        have HB1 : Hid (wr.cell? ⟨d, 1, none⟩ = some (.slice av i cv)) := b1
        clear HDS b0 b1
        generalize wr = wa at *
        have b0 := HB0.out
        go_wp2
        go_loopw [9] (fun jv wz => ∃ j : Nat, jv = .int .i64 j ∧ j ≤ i ∧ wz = wa) (fun jv _ => i - (intOf jv).toNat)
        case atStart => exact ⟨0, rfl, Nat.zero_le _, rfl⟩
        case round =>
          obtain ⟨j, rfl, hj, rfl⟩ := hrel
          by_cases hjl : j < i
          · have q3 : (j : Int) < (i : Int) := by omega
            obtain ⟨gU, rfl, c0⟩ := HRV.out j hjl
            go_wp2
            go_roundw
            case rel => exact ⟨j + 1, by simp, by omega, trivial⟩
            case measure => simp [intOf]; omega
          · have q3 : ¬ (j : Int) < (i : Int) := by omega
            have b1 := HB1.out
            have f0 := frozen_of_row _ _ 0 _ _ HBX.out
            have f1 := frozen_of_row _ _ 1 _ _ HBX.out
            have hs0 := heap_setCell_same _ d 0 _ _ (.slice au' N' cu') HBX.out
            have hs1 := heap_setCell_same _ d 1 _ _ (.slice av' N' cv') hs0
            have b2 : (wr.setCell ⟨d, 0, none⟩ (.slice au' N' cu')).cell? ⟨d, 1, none⟩ = some (.slice av i cv) := cell_of_row _ _ 1 _ _ _ hs0
            have f2 := frozen_of_row _ _ 1 _ _ hs0
            have HW3 : Hid (Wo (fun k => PA k ∨ k = d) w ((wr.setCell ⟨d, 0, none⟩ (.slice au' N' cu')).setCell ⟨d, 1, none⟩ (.slice av' N' cv'))) := ((HWO.out.mono fun k e => .inl e).setCell d 0 _ (.inl (.inr rfl))).setCell d 1 _ (.inl (.inr rfl))
            have HDN : Hid (∀ W, Below ((wr.setCell ⟨d, 0, none⟩ (.slice au' N' cu')).setCell ⟨d, 1, none⟩ (.slice av' N' cv')).heap.size ((wr.setCell ⟨d, 0, none⟩ (.slice au' N' cu')).setCell ⟨d, 1, none⟩ (.slice av' N' cv')) W → Tryz.Dk W d PA' PB' (.slice au' N' cu') (.slice av' N' cv') rs') := fun W hW => (by
              have hw := HW3.out.below hW HW3.out.size
              obtain ⟨g1, g2, g3⟩ := HDK.out
              have hnA : ∀ k, PA' k → ¬ (PA k ∨ k = d) := fun k e e2 => by
                rcases e2 with e2 | e2
                · exact HD1.out k e2 e
                · exact g2 (e2 ▸ e)
              have hnB : ∀ k, PB' k → ¬ (PA k ∨ k = d) := fun k e e2 => by
                rcases e2 with e2 | e2
                · exact HD2.out k e2 e
                · exact g3 (e2 ▸ e)
              exact ⟨(hW.block d (block_lt hs1)).trans hs1, Tryz.RlD.keep HL.out fun k hk e => ⟨hw.block k hk (hnA k e), e⟩, Tryz.RlW.keep HM.out hw.size fun k hk e => ⟨hw.block k hk (hnB k e), e⟩, g1, g2, g3⟩)
            have k4 : Calls Tryz.prog 49 #[.slice au' N' cu', .slice av' N' cv'] ((wr.setCell ⟨d, 0, none⟩ (.slice au' N' cu')).setCell ⟨d, 1, none⟩ (.slice av' N' cv')) fun e w' => e = .returned (.bool true) ∧ Hid (Wo (fun k => PA k ∨ k = d) w w') ∧ Hid (Tryz.Dk w' d PA' PB' (.slice au' N' cu') (.slice av' N' cv') rs') := by
              have hdk := HDN.out _ (Below.refl _ _)
              obtain ⟨ps', e3, r3, _, p3, _⟩ := hdk.a.ex
              obtain ⟨qs', e4, r4, _, p4⟩ := hdk.b.ex
              refine (Tryz.all_any (Rv.ofRow r3 rfl) (Rv.ofRow r4 rfl) (fun p hp => Tryz.PrOk.pw (p3 p hp)) (fun q hq => Tryz.PrW.pw (p4 q hq)) (e3.symm.trans e4) (by have := HSN.out.1; rw [e3, List.length_map] at this; exact this) (fun p hp => by have := (HSN.out.2 p.rq (by rw [e3]; exact List.mem_map_of_mem hp)).1; omega)).mono ?_
              rintro e w' ⟨rfl, hb⟩
              exact ⟨rfl, HW3.out.below hb HW3.out.size, HDN.out w' hb⟩
            clear hs0 hs1 HW3 HDN HBX HB0 HB1 HRV HWO
            go_wp2_with (first
              | (go_at_call 49; refine k4.mono ?_; clear k4; rintro e w4 ⟨rfl, HW4, HD4⟩)
              | fail)
            go_ret
            exact ⟨rfl, HW4.out, .inr HD4.out⟩
end Go.Proofs
