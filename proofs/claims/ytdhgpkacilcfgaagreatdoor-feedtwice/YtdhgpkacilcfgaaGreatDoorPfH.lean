/-
  Laid together by packg.py of FhA FhB FhC FhD.
-/
import Derived.Test.YtdhgpkacilcfgaaGreatDoorFgH
import Derived.Test.YtdhgpkacilcfgaaGreatDoorFfB
import Derived.ArgAppend
import Derived.OwnWalk
import Derived.Laws.OwnMore
namespace Go.Fd
open Go.RowKit Go.Wi Go.Sort
/-- What an owner writes. -/
def mkc (n : Nat) : Cn := ⟨⟨#[116, 104, 101, 32, 111, 119, 110, 101, 114, 39, 115]⟩, n, 0⟩
theorem cnCells_set : ∀ (l : List Cn) (i : Nat) (x : Cn), i < l.length → (((cnCells l).set (i * 3) (.string x.room)).set (i * 3 + 1) (.int .i64 x.un)).set (i * 3 + 2) (.int .i64 x.hi) = cnCells (l.set i x)
  | c :: l, 0, x, _ => by simp [cnCells, cnE]
  | c :: l, i + 1, x, h => by
    have ih := cnCells_set l i x (by simpa using h)
    simp only [cnCells, List.flatMap_cons, List.set_cons_succ] at ih ⊢
    rw [show (i + 1) * 3 = i * 3 + 1 + 1 + 1 by omega]
    simp only [cnE, List.cons_append, List.nil_append, List.set_cons_succ]
    rw [← ih]
/-- A row that lies at the beginning of another one. -/
theorem Cs.front {w : World} {B g n m cap : Nat} {T : TypeId} {L0 L1 : List Cn} (h : w.ownsRow B T 3 (.slice (some ⟨g, 0, none⟩) m cap) m (cnCells (L0 ++ L1))) (hn : n = L0.length) : Cs w (.slice (some ⟨g, 0, none⟩) n cap) L0 := by
  have hl := h.1
  rw [cnCells_len, List.length_append] at hl
  obtain ⟨ad, cap', e, hc, hn', h1⟩ := (Cs.ofRow h).ex
  injection e with e1 e2 e3
  subst e3
  rw [List.length_append] at hc
  refine ⟨some ⟨g, 0, none⟩, cap, by rw [hn], by omega, (fun e => by cases e), ?_⟩
  rcases h1 with h1 | ⟨g', o, e1', hg, h1⟩
  · exact .inl (List.append_eq_nil_iff.1 h1).1
  · rw [← e1] at e1'
    injection e1' with e1'
    injection e1' with e4 e5
    subst e4 e5
    refine .inr ⟨g, 0, rfl, hg, fun j u hu => h1 j u ?_⟩
    rw [cnCells_app, List.getElem?_append_left ?_]
    · exact hu
    · rcases Nat.lt_or_ge j (cnCells L0).length with e | e
      · exact e
      · rw [List.getElem?_eq_none e] at hu; cases hu
/-- How a row has grown: in its block, or in a new one. -/
def Gr (V V' : Value) (w w' : World) : Prop :=
  (∃ g n m cap, V = .slice (some ⟨g, 0, none⟩) n cap ∧ V' = .slice (some ⟨g, 0, none⟩) m cap ∧ w.grownBy w' (some g)) ∨ (Below w.heap.size w w' ∧ ∀ k, V'.ownBlock = some k → w.heap.size ≤ k)
end Go.Fd
namespace Go.Proofs
open Go.RowKit Go.Wi Go.Fd Go.Sort
theorem Fd.row_set {w : World} {B g n cap i : Nat} {T : TypeId} {l : List Cn} (h : w.ownsRow B T 3 (.slice (some ⟨g, 0, none⟩) n cap) n (cnCells l)) (hi : i < l.length) (x : Cn) :
    (((w.setCell ⟨g, i * 3, none⟩ (.string x.room)).setCell ⟨g, i * 3 + 1, none⟩ (.int .i64 x.un)).setCell ⟨g, i * 3 + 2, none⟩ (.int .i64 x.hi)).ownsRow B T 3 (.slice (some ⟨g, 0, none⟩) n cap) n (cnCells (l.set i x)) := by
  have h1 := (h.stored (i * 3) (.string x.room)).1
  have h2 := (h1.stored (i * 3 + 1) (.int .i64 x.un)).1
  have h3 := (h2.stored (i * 3 + 2) (.int .i64 x.hi)).1
  rwa [cnCells_set l i x hi] at h3
set_option maxRecDepth 20000 in
/-- 'append' of one, and where the row lies then. -/
theorem Tryz.appGr {t : TypeId} (ht : Tryz.prog.underlying t = some (.slice 39)) {ops : Array Oper} {rest : List Oper} {o : Oper} {a : Act} {Q : Exit → Act → World → Prop} (hgd : o.guard = none) (s y : Operand)
    (ho : o.op = .call { callee := .builtin .append, args := #[s, y], argTypes := #[t, t] })
    {w : World} {B H : Nat} {V : Value} {n : Nat} {L0 : List Cn} {c : Cn} (hrow : w.ownsRow B 39 3 V n (cnCells L0)) (hB : B ≤ w.heap.size) (hs : a.eval s = V) (hY : Cs w (.slice (some ⟨H, 0, none⟩) 1 1) [c]) (hy : a.eval y = .slice (some ⟨H, 0, none⟩) 1 1) (hlen : n + 1 ≤ 4398046511104)
    (hK : ∀ v' w', w'.ownsRow B 39 3 v' (n + 1) (cnCells (L0 ++ [c])) → Gr V v' w w' → wpList Tryz.prog ops Q rest (a.put o.dst v') w') : wpList Tryz.prog ops Q (o :: rest) a w := by
  obtain ⟨i0, hi0, hz0, hz1, hz2⟩ := info_parts Tryz.infoCn
  have hcs := Fd.cs_cells hY ⟨H, 0, none⟩ rfl
  have hl := hrow.1
  have grown : ∀ v' w', w'.ownsRow w.heap.size 39 3 v' (n + 1) (cnCells L0 ++ cnCells [c]) → w.grownBy w' none → wpList Tryz.prog ops Q rest (a.put o.dst v') w' := by
    intro v' w' h1 h2
    rw [← cnCells_app] at h1
    exact hK v' w' (Fd.row_mono h1 hB) (.inr ⟨(Below.refl _ w).grown h2 (Nat.le_refl _) (fun k e => by cases e), fun k e => (h1.lt k e).1⟩)
  rcases hrow.2 with ⟨rfl, rfl⟩ | ⟨g, cap, cur, rfl, hg, hb, h1, h2, h3, h4⟩
  · refine wpList_append_grows w hgd s y t ho 39 i0 _ 3 32 ht hi0 hz0 hz1 hz2 rfl (by omega) none 0 0 (cnCells L0) hs (fun _ => ⟨rfl, rfl⟩) hl (fun b e => by cases e) ⟨H, 0, none⟩ 1 1 (cnCells [c]) hy (cnCells_len [c]) hcs cnCells_one (by omega) (by unfold maxLen; omega) (by omega) grown
  · by_cases hr : n + 1 ≤ cap
    · refine wpList_append_fits w hgd s y t ho B 39 i0 3 ht hi0 hz1 g n cap _ hs hrow ⟨H, 0, none⟩ 1 1 (cnCells [c]) hy (cnCells_len [c]) hcs cnCells_one hr ?_
      intro w' k1 k2
      rw [← cnCells_app] at k1
      exact hK _ w' k1 (.inl ⟨g, n, n + 1, cap, rfl, rfl, k2⟩)
    · refine wpList_append_grows w hgd s y t ho 39 i0 _ 3 32 ht hi0 hz0 hz1 hz2 rfl (by omega) (some ⟨g, 0, none⟩) n cap (cnCells L0) hs (fun e => by cases e) hl (fun b e j u hu => ?_) ⟨H, 0, none⟩ 1 1 (cnCells [c]) hy (cnCells_len [c]) hcs cnCells_one (by omega) (by unfold maxLen; omega) (by omega) grown
      cases e
      exact hrow.cells rfl j u hu
set_option maxRecDepth 20000 in
set_option maxHeartbeats 500000 in
theorem Tryz.fold_all {w : World} {Va V Vg : Value} {l : List Cn} (h : Cs w V l) (hV : ∀ k, V.ownBlock = some k → k < w.heap.size) (hl : l.length ≤ 4398046511104) :
    Calls Tryz.prog 9 #[Va, V, Vg, .bool true] w fun e w' => ∃ V', e = .returned V' ∧ w'.ownsRow w.heap.size 39 3 V' (sheet l).length (cnCells (sheet l)) ∧ Below w.heap.size w w' := by
  have hs := Tryz.sheetOf_any h hV hl
  clear h hV hl
  go_enter Tryz.func9, Tryz.ntmps9
  go_wp2_with (first
    | (go_at_call 20; refine hs.mono ?_; clear hs; rintro e w1 ⟨V1, rfl, hr1, hb1⟩)
    | fail)
  go_ret
  exact ⟨V1, rfl, hr1, hb1⟩
set_option maxRecDepth 20000 in
set_option maxHeartbeats 1000000 in
theorem Tryz.counted_any {w : World} {V U : Value} {a b : List Cn} (h : Cs w V a) (g : Cs w U b) (ha : a.length ≤ 4398046511104) :
    Calls Tryz.prog 10 #[V, U] w fun e w' => e = .returned (.bool (decide (a = b))) ∧ ∃ q, w' = w.drewN q := by
  obtain ⟨ad, cap, rfl⟩ := h.is
  obtain ⟨bd, cbp, rfl⟩ := g.is
  have hmx : Tryz.prog.follows .mixedOrders = true := by kernel_rfl
  by_cases hn : a.length = b.length
  · have HA : Hid (Cs w (.slice ad a.length cap) a) := h
    have HG : Hid (Cs w (.slice bd b.length cbp) b) := g
    have HN : Hid (a.length = b.length) := hn
    clear h g
    obtain ⟨r, hr⟩ : ∃ r, r = decide (a = b) := ⟨_, rfl⟩
    have HR : Hid (r = decide (a = b)) := hr
    rw [← hr]
    clear hr
    rw [hn] at HA ha ⊢
    clear hn
    go_enter Tryz.func10, Tryz.ntmps10
    go_wp2
    go_loopw [5] (fun iv wr => ∃ i : Nat, iv = .int .i64 i ∧ i ≤ b.length ∧ (∀ j, j < i → a[j]! = b[j]!) ∧ ∃ q, wr = w.drewN q) (fun iv _ => b.length - (intOf iv).toNat)
    case atStart => exact ⟨0, rfl, Nat.zero_le _, fun j hj => by omega, 0, rfl⟩
    case round =>
      obtain ⟨i, rfl, hi, hsame, q, rfl⟩ := hrel
      have HS : Hid (∀ j, j < i → a[j]! = b[j]!) := hsame
      clear hsame
      by_cases hlt : i < b.length
      · have q1 : (i : Int) < (b.length : Int) := by omega
        have hla : i < a.length := by rw [HN.out]; exact hlt
        obtain ⟨g1, o1, rfl, c1, c2, c3⟩ := HA.out.at hla
        obtain ⟨g2, o2, rfl, d1, d2, d3⟩ := HG.out.at hlt
        rw [← getElem!_pos a i hla] at c1 c2 c3
        rw [← getElem!_pos b i hlt] at d1 d2 d3
        have C1 : ∀ n, (w.drewN n).cell? ⟨g1, o1 + i * 3, none⟩ = some (.string a[i]!.room) := fun _ => c1
        have C2 : ∀ n, (w.drewN n).cell? ⟨g1, o1 + i * 3 + 1, none⟩ = some (.int .i64 a[i]!.un) := fun _ => c2
        have C3 : ∀ n, (w.drewN n).cell? ⟨g1, o1 + i * 3 + 2, none⟩ = some (.int .i64 a[i]!.hi) := fun _ => c3
        have D1 : ∀ n, (w.drewN n).cell? ⟨g2, o2 + i * 3, none⟩ = some (.string b[i]!.room) := fun _ => d1
        have D2 : ∀ n, (w.drewN n).cell? ⟨g2, o2 + i * 3 + 1, none⟩ = some (.int .i64 b[i]!.un) := fun _ => d2
        have D3 : ∀ n, (w.drewN n).cell? ⟨g2, o2 + i * 3 + 2, none⟩ = some (.int .i64 b[i]!.hi) := fun _ => d3
        clear c1 c2 c3 d1 d2 d3
        generalize hx : a[i]! = x at *
        generalize hy : b[i]! = y at *
        have heq : ∀ W : World, (Op.equalIn 10000 39 (.agg #[.string x.room, .int .i64 x.un, .int .i64 x.hi]) (.agg #[.string y.room, .int .i64 y.un, .int .i64 y.hi])).run Tryz.prog W = .ok (decide (x = y)) W := fun W => Tryz.eqCn x y W
        have hgt : Tryz.prog.eqGuardType Tryz.prog.depth 39 = false := by kernel_rfl
        generalize hd : decide (x = y) = d at *
        go_wp2_with (fail)
        go_quiet (fail)
        cases d with
        | true =>
          go_wp2
          go_roundw
          case rel =>
            refine ⟨i + 1, by simp, by omega, fun j hj => ?_, q + nq, by first | rfl | exact World.drewN_drewN _ _ _⟩
            by_cases hji : j = i
            · subst hji; rw [hx, hy]; exact of_decide_eq_true hd
            · exact HS.out j (by omega)
          case measure => simp [intOf]; omega
        | false =>
          have e : r = false := by
            rw [HR.out]
            refine decide_eq_false fun e => of_decide_eq_false hd ?_
            rw [← hx, ← hy, e]
          subst e
          go_wp2
          go_ret
          exact ⟨rfl, q + nq, World.drewN_drewN _ _ _⟩
      · have q1 : ¬ (i : Int) < (b.length : Int) := by omega
        have e : r = true := by
          rw [HR.out]
          refine decide_eq_true ?_
          apply List.ext_getElem HN.out
          intro j h1 h2
          have := HS.out j (by omega)
          rwa [getElem!_pos a j h1, getElem!_pos b j h2] at this
        subst e
        go_wp2
        go_ret
        exact ⟨rfl, q, rfl⟩
  · clear ha
    have q0 : ¬ ((a.length : Int) = (b.length : Int)) := by omega
    have e : decide (a = b) = false := decide_eq_false (fun e => hn (by rw [e]))
    rw [e]
    clear h g hn e
    go_enter Tryz.func10, Tryz.ntmps10
    go_wp2
    go_ret
    exact ⟨rfl, 0, rfl⟩
end Go.Proofs
namespace Go.Proofs
open Go.RowKit Go.Wi Go.Fd Go.Sort
set_option maxRecDepth 20000 in
set_option maxHeartbeats 1000000 in
theorem Tryz.reads_any {w : World} {V : Value} {L n : Nat} (h : Cs w V (List.replicate L (mkc n))) (hl : L ≤ 4398046511104) :
    Calls Tryz.prog 12 #[V, .int .i64 n] w fun e w' => e = .returned (.bool true) ∧ w' = w := by
  obtain ⟨ad, cap, rfl⟩ := h.is
  rw [List.length_replicate]
  have HC : Hid (Cs w (.slice ad L cap) (List.replicate L (mkc n))) := by have := h; rwa [List.length_replicate] at this
  clear h
  go_enter Tryz.func12, Tryz.ntmps12
  go_wp2
  go_loopw [5] (fun iv wr => ∃ i : Nat, iv = .int .i64 i ∧ i ≤ L ∧ wr = w) (fun iv _ => L - (intOf iv).toNat)
  case atStart => exact ⟨0, rfl, Nat.zero_le _, rfl⟩
  case round =>
    obtain ⟨i, rfl, hi, rfl⟩ := hrel
    by_cases hlt : i < L
    · have q1 : (i : Int) < (L : Int) := by omega
      obtain ⟨g1, o1, rfl, c1, c2, c3⟩ := HC.out.at (i := i) (by rw [List.length_replicate]; exact hlt)
      simp only [List.getElem_replicate, mkc] at c1 c2 c3
      go_wp2
      go_roundw
      case rel => exact ⟨i + 1, by simp, by omega, by first | trivial | rfl⟩
      case measure => simp [intOf]; omega
    · have q1 : ¬ (i : Int) < (L : Int) := by omega
      go_wp2
      go_ret
      exact ⟨rfl, rfl⟩
theorem Fd.rep_of {l : List Cn} {n : Nat} {x : Cn} (h1 : l.length = n) (h2 : ∀ j, j < n → l[j]? = some x) : l = List.replicate n x := by
  apply List.ext_getElem?
  intro j
  by_cases hj : j < n
  · rw [h2 j hj, List.getElem?_replicate, if_pos hj]
  · rw [List.getElem?_eq_none (by omega), List.getElem?_eq_none (by simp; omega)]
/-- The owner's list, and what it has grown to. -/
def Fd.Grs (w0 w : World) (V G : Value) (n : Nat) (x : Cn) : Prop :=
  (∃ g cap, V = .slice (some ⟨g, 0, none⟩) n cap ∧ ∃ m, G = .slice (some ⟨g, 0, none⟩) m cap) ∨ (Cs w V (List.replicate n x) ∧ ∀ k, G.ownBlock = some k → w0.heap.size < k)
theorem Fd.grs_step {w wr w2 : World} {T : TypeId} {ad : Option Addr} {cap L k : Nat} {U v1 : Value} {x : Cn} {o : Obj} (hV : ∀ k, (Value.slice ad L cap).ownBlock = some k → k < w.heap.size) (hR : wr.ownsRow 0 T 3 U (L + k) (cnCells (List.replicate (L + k) x))) (hG : Fd.Grs w wr (.slice ad L cap) U L x)
    (hW : Wo (fun k => (Value.slice ad L cap).ownBlock = some k) w wr) (hz : w.heap.size < wr.heap.size) (hg : Gr U v1 (wr.alloc o) w2) : Fd.Grs w w2 (.slice ad L cap) v1 L x ∧ Wo (fun k => (Value.slice ad L cap).ownBlock = some k) w w2 ∧ w2.heap[w.heap.size]? = wr.heap[w.heap.size]? := by
  have hbl : Below wr.heap.size wr (wr.alloc o) := (Below.refl _ wr).alloc (Nat.le_refl _) o
  have hal : (wr.alloc o).heap[w.heap.size]? = wr.heap[w.heap.size]? := hbl.block _ hz
  rcases hg with ⟨g, n', m, c', rfl, rfl, gb⟩ | ⟨hb, hnew⟩
  · rcases hG with ⟨g0, c0, e, m0, e'⟩ | ⟨hC, hlt⟩
    · injection e' with e1 e2 e3
      injection e1 with e1
      injection e1 with e1
      subst e1 e3
      injection e with f1 f2 f3
      subst f1 f3
      have hg1 := hV g rfl
      refine ⟨.inl ⟨g, cap, rfl, m, rfl⟩, (hW.alloc o).grown gb (fun k e => .inl (by cases e; rfl)), ?_⟩
      rw [gb.block _ (by rw [World.size_alloc]; omega) (fun e => by injection e with e; omega)]
      exact hal
    · have hg1 := hlt g rfl
      refine ⟨.inr ⟨(hC.past hbl).keep fun k e => gb.block k (by rw [World.size_alloc]; have := hV k e; omega) (fun e' => by injection e' with e'; have := hV k e; omega), fun k e => by cases e; exact hg1⟩, (hW.alloc o).grown gb (fun k e => .inr (by cases e; omega)), ?_⟩
      rw [gb.block _ (by rw [World.size_alloc]; omega) (fun e => by injection e with e; omega)]
      exact hal
  · have hb2 : Below wr.heap.size wr w2 := hbl.trans (hb.mono (by rw [World.size_alloc]; omega))
    refine ⟨.inr ⟨?_, fun k e => by have := hnew k e; rw [World.size_alloc] at this; omega⟩, hW.below hb2 (by omega), hb2.block _ hz⟩
    rcases hG with ⟨g0, c0, e, m0, rfl⟩ | ⟨hC, _⟩
    · obtain ⟨ad', c', e'⟩ := Fd.row_is hR
      injection e' with e1 e2 e3
      subst e2
      have h1 : Cs wr (.slice (some ⟨g0, 0, none⟩) L c0) (List.replicate L x) := Cs.front (L1 := List.replicate k x) (by rw [List.replicate_append_replicate]; exact hR) (by simp)
      rw [e]
      exact h1.past hb2
    · exact hC.past hb2
set_option maxRecDepth 20000 in
set_option maxHeartbeats 2000000 in
theorem Tryz.owns_any {w : World} {V : Value} {l : List Cn} {B n : Nat} (h : w.ownsRow B 39 3 V l.length (cnCells l)) (hl : l.length + 12 ≤ 4398046511104) :
    Calls Tryz.prog 11 #[V, .int .i64 n] w fun e w' => ∃ V', e = .returned V' ∧ Cs w' V (List.replicate l.length (mkc n)) ∧ Cs w' V' (List.replicate (l.length + 12) (mkc n)) ∧ Wo (fun k => V.ownBlock = some k) w w' ∧ (∀ k, V'.ownBlock = some k → (V.ownBlock = some k ∨ w.heap.size ≤ k) ∧ k < w'.heap.size) := by
  obtain ⟨ad, cap, rfl⟩ := (Cs.ofRow h).is
  have HR0 : Hid (w.ownsRow 0 39 3 (.slice ad l.length cap) l.length (cnCells l)) := Fd.row_mono h (Nat.zero_le _)
  have HL : Hid (l.length + 12 ≤ 4398046511104) := hl
  have hN : l.length < 9223372036854775807 := by omega
  clear h hl
  go_enter Tryz.func11, Tryz.ntmps11
  go_upto_region 2 with (fail)
  obtain ⟨w1, hw1⟩ : ∃ W, W = w.alloc (.cells #[.string ⟨#[116, 104, 101, 32, 111, 119, 110, 101, 114, 39, 115]⟩, .int .i64 n, .int .i64 0] 39) := ⟨_, rfl⟩
  rw [← hw1]
  have hB1 : Below w.heap.size w w1 := by rw [hw1]; exact (Below.refl _ w).alloc (Nat.le_refl _) _
  have HM1 : Hid (w1.heap[w.heap.size]? = some (.cells #[.string ⟨#[116, 104, 101, 32, 111, 119, 110, 101, 114, 39, 115]⟩, .int .i64 n, .int .i64 0] 39 (0, 0))) := by show _ = _; rw [hw1]; exact heap_alloc_new _ _
  have HR1 : Hid (w1.ownsRow 0 39 3 (.slice ad l.length cap) l.length (cnCells l)) := Fd.row_past HR0.out hB1 (Nat.le_refl _)
  have HW1 : Hid (Wo (fun k => (Value.slice ad l.length cap).ownBlock = some k) w w1) := Wo.ofBelow hB1
  have HV : Hid (∀ k, (Value.slice ad l.length cap).ownBlock = some k → k < w.heap.size) := fun k e => (HR0.out.lt k e).2
  clear hw1 hB1 HR0
  obtain ⟨bm, hbm⟩ : ∃ b, b = w.heap.size := ⟨_, rfl⟩
  have HBM : Hid (bm = w.heap.size) := hbm
  rw [← hbm] at HM1 HV ⊢
  clear hbm
  go_upto_region 3 with (fail)
  go_loopw [6] (fun iv wr => ∃ (i : Nat) (li : List Cn), iv = .int .i64 i ∧ i ≤ l.length ∧ li.length = l.length ∧ (∀ j, j < i → li[j]? = some (mkc n)) ∧ wr.ownsRow 0 39 3 (.slice ad l.length cap) l.length (cnCells li) ∧ wr.heap[bm]? = some (.cells #[.string ⟨#[116, 104, 101, 32, 111, 119, 110, 101, 114, 39, 115]⟩, .int .i64 n, .int .i64 0] 39 (0, 0)) ∧ Wo (fun k => (Value.slice ad l.length cap).ownBlock = some k) w wr) (fun iv _ => l.length - (intOf iv).toNat)
  case atStart => exact ⟨0, l, rfl, Nat.zero_le _, rfl, fun j hj => by omega, HR1.out, HM1.out, HW1.out⟩
  case round =>
    obtain ⟨i, li, rfl, hi, hli, hall, hrow, hm, hwo⟩ := hrel
    have HA : Hid (∀ j, j < i → li[j]? = some (mkc n)) := hall
    have HR : Hid (wr.ownsRow 0 39 3 (.slice ad l.length cap) l.length (cnCells li)) := hrow
    have HM : Hid (wr.heap[bm]? = some (.cells #[.string ⟨#[116, 104, 101, 32, 111, 119, 110, 101, 114, 39, 115]⟩, .int .i64 n, .int .i64 0] 39 (0, 0))) := hm
    have HW : Hid (Wo (fun k => (Value.slice ad l.length cap).ownBlock = some k) w wr) := hwo
    have HLi : Hid (li.length = l.length) := hli
    clear hall hrow hm hwo hli
    by_cases hlt : i < l.length
    · have q1 : (i : Int) < (l.length : Int) := by omega
      obtain ⟨g, rfl⟩ : ∃ g, ad = some ⟨g, 0, none⟩ := by
        rcases HR.out.2 with ⟨e, e0⟩ | ⟨g, cap', cur, e, _⟩
        · omega
        · injection e with e1; exact ⟨g, e1⟩
      have x0 : wr.cell? ⟨bm, 0, none⟩ = some (.string ⟨#[116, 104, 101, 32, 111, 119, 110, 101, 114, 39, 115]⟩) := cell_of_row _ _ _ _ _ _ HM.out
      have x1 : wr.cell? ⟨bm, 1, none⟩ = some (.int .i64 n) := cell_of_row _ _ _ _ _ _ HM.out
      have x2 : wr.cell? ⟨bm, 2, none⟩ = some (.int .i64 0) := cell_of_row _ _ _ _ _ _ HM.out
      have hil : i < li.length := by rw [HLi.out]; exact hlt
      obtain ⟨g', o', e', c0, c1, c2⟩ := (Cs.ofRow HR.out).at hil
      injection e' with e'
      injection e' with e1 e2
      subst e1 e2
      simp only [Nat.zero_add] at c0 c1 c2
      have f0 := HR.out.frozenAt (i * 3)
      have f1 := HR.out.frozenAt (i * 3 + 1)
      have f2 := HR.out.frozenAt (i * 3 + 2)
      have HR2 : Hid _ := Fd.row_set HR.out hil (mkc n)
      have HM2 : Hid ((((wr.setCell ⟨g, i * 3, none⟩ (.string (mkc n).room)).setCell ⟨g, i * 3 + 1, none⟩ (.int .i64 (mkc n).un)).setCell ⟨g, i * 3 + 2, none⟩ (.int .i64 (mkc n).hi)).heap[bm]? = some (.cells #[.string ⟨#[116, 104, 101, 32, 111, 119, 110, 101, 114, 39, 115]⟩, .int .i64 n, .int .i64 0] 39 (0, 0))) := by
        show _ = _
        have hne : bm ≠ g := fun e => by have := HV.out g rfl; omega
        rw [Below.heap_setCell _ ⟨g, i * 3 + 2, none⟩ _ bm (fun e => hne (by simpa using e)), Below.heap_setCell _ ⟨g, i * 3 + 1, none⟩ _ bm (fun e => hne (by simpa using e)), Below.heap_setCell _ ⟨g, i * 3, none⟩ _ bm (fun e => hne (by simpa using e))]
        exact HM.out
      have HW2 : Hid (Wo (fun k => (Value.slice (some ⟨g, 0, none⟩) l.length cap).ownBlock = some k) w (((wr.setCell ⟨g, i * 3, none⟩ (.string (mkc n).room)).setCell ⟨g, i * 3 + 1, none⟩ (.int .i64 (mkc n).un)).setCell ⟨g, i * 3 + 2, none⟩ (.int .i64 (mkc n).hi))) := ((HW.out.setCell g (i * 3) _ (.inl rfl)).setCell g (i * 3 + 1) _ (.inl rfl)).setCell g (i * 3 + 2) _ (.inl rfl)
      clear HM HW HR
      go_wp2
      go_roundw
      case rel =>
        refine ⟨i + 1, li.set i (mkc n), by simp, by omega, by rw [List.length_set]; exact HLi.out, fun j hj => ?_, HR2.out, HM2.out, HW2.out⟩
        by_cases e : j = i
        · subst e; rw [List.getElem?_set_self hil]
        · rw [List.getElem?_set_ne (fun e' => e e'.symm)]; exact HA.out j (by omega)
      case measure => simp [intOf]; omega
    · have q1 : ¬ (i : Int) < (l.length : Int) := by omega
      obtain rfl : i = l.length := by omega
      have hrep : li = List.replicate l.length (mkc n) := Fd.rep_of HLi.out HA.out
      have HR2 : Hid (wr.ownsRow 0 39 3 (.slice ad l.length cap) l.length (cnCells (List.replicate l.length (mkc n)))) := by show World.ownsRow _ _ _ _ _ _ _; rw [← hrep]; exact HR.out
      clear hrep HR HA HLi
      generalize hn0 : l.length = L at *
      have HN0 : Hid (l.length = L) := hn0
      clear hn0
      go_upto_region 8 with (fail)
      obtain ⟨W, hW⟩ : ∃ W : World, W = wr := ⟨_, rfl⟩
      subst hW
      go_loopw [7, 8] (fun G kv wr => ∃ k : Nat, kv = .int .i64 k ∧ k ≤ 12 ∧ wr.ownsRow 0 39 3 G (L + k) (cnCells (List.replicate (L + k) (mkc n))) ∧ Fd.Grs w wr (.slice ad L cap) G L (mkc n) ∧ wr.heap[bm]? = some (.cells #[.string ⟨#[116, 104, 101, 32, 111, 119, 110, 101, 114, 39, 115]⟩, .int .i64 n, .int .i64 0] 39 (0, 0)) ∧ Wo (fun k => (Value.slice ad L cap).ownBlock = some k) w wr) (fun _ kv _ => 12 - (intOf kv).toNat)
      case atStart =>
        refine ⟨0, rfl, Nat.zero_le _, HR2.out, ?_, HM.out, HW.out⟩
        rcases HR2.out.2 with ⟨e, e0⟩ | ⟨g, cap', cur, e, _⟩
        · injection e with e1 e2 e3
          subst e1 e3 e0
          exact .inr ⟨Cs.nil _, fun k e => by cases e⟩
        · injection e with e1 e2 e3
          subst e1
          exact .inl ⟨g, cap, rfl, L, rfl⟩
      case round =>
        obtain ⟨k, rfl, hk, hrow, hgr, hm, hwo⟩ := hrel
        have HR3 : Hid (wr.ownsRow 0 39 3 u7 (L + k) (cnCells (List.replicate (L + k) (mkc n)))) := hrow
        have HG3 : Hid (Fd.Grs w wr (.slice ad L cap) u7 L (mkc n)) := hgr
        have HM3 : Hid (wr.heap[bm]? = some (.cells #[.string ⟨#[116, 104, 101, 32, 111, 119, 110, 101, 114, 39, 115]⟩, .int .i64 n, .int .i64 0] 39 (0, 0))) := hm
        have HW3 : Hid (Wo (fun k => (Value.slice ad L cap).ownBlock = some k) w wr) := hwo
        clear hrow hgr hm hwo
        by_cases hlt : k < 12
        · have q2 : (k : Int) < 12 := by omega
          have x0 : wr.cell? ⟨bm, 0, none⟩ = some (.string ⟨#[116, 104, 101, 32, 111, 119, 110, 101, 114, 39, 115]⟩) := cell_of_row _ _ _ _ _ _ HM3.out
          have x1 : wr.cell? ⟨bm, 1, none⟩ = some (.int .i64 n) := cell_of_row _ _ _ _ _ _ HM3.out
          have x2 : wr.cell? ⟨bm, 2, none⟩ = some (.int .i64 0) := cell_of_row _ _ _ _ _ _ HM3.out
          go_wp2_with (first
            | (at_builtin; refine Tryz.appGr Tryz.underlying22 rfl _ _ rfl (c := mkc n) (Fd.row_past HR3.out ((Below.refl _ _).alloc (Nat.le_refl _) _) (Nat.le_refl _)) (Nat.zero_le _) rfl (Fd.cs_one (heap_alloc_new _ _)) rfl (by have := HL.out; omega) ?_; intro v1 w2 hr2 hg2)
            | fail)
          go_roundw
          case rel =>
            rw [HBM.out] at HM3
            obtain ⟨k1, k2, k3⟩ := Fd.grs_step (by rw [← HBM.out]; exact HV.out) HR3.out HG3.out HW3.out (block_lt HM3.out) hg2
            refine ⟨k + 1, by simp, by omega, ?_, k1, by rw [HBM.out, k3]; exact HM3.out, k2⟩
            rw [← List.replicate_succ'] at hr2
            exact hr2
          case measure => simp [intOf]; omega
        · have q2 : ¬ (k : Int) < 12 := by omega
          obtain rfl : k = 12 := by omega
          go_wp2
          go_ret
          rw [HN0.out]
          refine ⟨_, rfl, ?_, Cs.ofRow HR3.out, HW3.out, fun k e => ⟨?_, (HR3.out.lt k e).2⟩⟩
          · rcases HG3.out with ⟨g, c, e, m, e'⟩ | ⟨hC, _⟩
            · obtain ⟨ad', c', e2⟩ := Fd.row_is HR3.out
              have h3 := HR3.out
              rw [e'] at e2 h3
              injection e2 with _ e2
              subst e2
              rw [e]
              exact Cs.front (L1 := List.replicate 12 (mkc n)) (by rw [List.replicate_append_replicate]; exact h3) (by simp)
            · exact hC
          · rcases HG3.out with ⟨g, c, e', m, e2⟩ | ⟨_, h4⟩
            · rw [e2] at e
              rw [e']
              exact .inl e
            · exact .inr (Nat.le_of_lt (h4 k e))
end Go.Proofs
namespace Go.Fd
open Go.RowKit Go.Wi Go.Sort Go.Proofs
/-- What is told, gone and folded: of all there is, or of what has changed. -/
def twC (b : Bool) (A B : List Cn) : List Cn := if b then B else changed B A
def twG (b : Bool) (A B : List Cn) : List ByteArray := if b then [] else goneL B A
def twD (b : Bool) (la A B : List Cn) : List Cn := if b then Fd.sheet B else foldP la (changed B A) (goneL B A)
def tw1 (A : List Cn) : Sh := (putS sh0 A).getD sh0
def tw2 (A B : List Cn) : Sh := (putS (tw1 A) B).getD (tw1 A)
theorem tw1_is (A : List Cn) : (A = [] ∧ tw1 A = (0, [[]])) ∨ tw1 A = (1, [[], A]) := by
  unfold tw1 putS
  split
  · rename_i h
    rcases h with h | h
    · simp [sh0] at h
    · simp [sh0] at h
      exact .inl ⟨h.symm ▸ rfl, rfl⟩
  · exact .inr rfl
theorem tw_ok (A B : List Cn) : (tw1 A).1 ≤ 1 ∧ (tw1 A).1 ≤ (tw2 A B).1 ∧ (tw2 A B).1 ≤ 2 ∧ (tw2 A B).2.getLast? = some B ∧ (tw2 A B).2[(tw1 A).1]? = some A := by
  unfold tw2 putS
  rcases tw1_is A with ⟨rfl, e⟩ | e
  · rw [e]
    split
    · rename_i h
      rcases h with h | h
      · simp at h
      · simp at h
        subst h
        simp
    · simp [trim]
  · rw [e]
    split
    · rename_i h
      rcases h with h | h
      · simp at h
      · simp at h
        subst h
        simp
    · simp [trim]
theorem twC_len (b : Bool) (A B : List Cn) : (twC b A B).length ≤ B.length := by
  unfold twC
  split
  · exact Nat.le_refl _
  · exact wout_len _ _ _
theorem twG_len (b : Bool) (A B : List Cn) : (twG b A B).length ≤ A.length := by
  unfold twG
  split
  · exact Nat.zero_le _
  · unfold goneL
    rw [List.length_map]
    exact wout_len _ _ _
end Go.Fd
namespace Go.Proofs
open Go.RowKit Go.Wi Go.Fd Go.Sort
theorem Tryz.since_tw {B0 hb m : Nat} {w : World} {F : ByteArray → Option Sh} (h : Tryz.Hx B0 w hb m F) (hT : Tryz.Tb w) {A B : List Cn} (hF : Fd.keptOf F ⟨#[64, 97]⟩ = tw2 A B) (b : Bool) :
    Calls Tryz.prog 8 #[.pointer (some ⟨hb, 0, none⟩), .string ⟨#[64, 97]⟩, .string (if b then ⟨#[]⟩ else Fd.fmt (tw1 A).1)] w fun e w' => ∃ V G, e = .returned (.tuple #[V, G, .bool b, .string (Fd.fmt (tw2 A B).1), .int .i64 0]) ∧ w'.ownsRow w.heap.size 39 3 V (twC b A B).length (cnCells (twC b A B)) ∧ w'.ownsRow w.heap.size 9 1 G (twG b A B).length ((twG b A B).map Value.string) ∧ Below w.heap.size w w' := by
  obtain ⟨own, p, mb, h1, _⟩ := h.ex
  obtain ⟨k1, k2, k3, k4, k5⟩ := tw_ok A B
  have hF' : (F ⟨#[64, 97]⟩).getD sh0 = tw2 A B := hF
  have hu : (⟨#[64, 97]⟩ : ByteArray).size ≤ maxLen := by unfold maxLen; decide
  cases b with
  | true =>
    have key := Tryz.since_whole h1 hT ⟨#[64, 97]⟩ hu ⟨#[]⟩ (.inl rfl)
    rw [hF'] at key
    refine key.mono ?_
    rintro e w' ⟨V, l', rfl, e2, hr, hb'⟩
    rw [k4] at e2
    cases e2
    exact ⟨V, _, rfl, hr, World.ownsRow_nil _ _ _ _, hb'⟩
  | false =>
    have key := Tryz.since_part (k := (tw1 A).1) (t := A) h1 hT ⟨#[64, 97]⟩ hu (Fd.fmt (tw1 A).1) (Fd.at_fmt _ (by omega)) (by rw [hF']; omega) (by rw [hF']; exact k2) (by rw [hF', show (tw1 A).1 - ((tw2 A B).1 - 50) = (tw1 A).1 by omega]; exact k5)
    rw [hF'] at key
    refine key.mono ?_
    rintro e w' ⟨V, G, l', rfl, e2, hr, hr2, hb'⟩
    rw [k4] at e2
    cases e2
    exact ⟨V, G, rfl, hr, hr2, hb'⟩
theorem Tryz.fold_tw {w : World} {Va V G : Value} {la A B : List Cn} (b : Bool) (hA : Cs w Va la) (hA2 : ∀ k, Va.ownBlock = some k → k < w.heap.size) (hC : Cs w V (twC b A B)) (hC2 : ∀ k, V.ownBlock = some k → k < w.heap.size) (hG : Ts w G (twG b A B)) (hG2 : ∀ k, G.ownBlock = some k → k < w.heap.size)
    (h1 : la.length ≤ 4398046511104) (h2 : A.length ≤ 4398046511104) (h3 : B.length ≤ 4398046511104) (h4 : (twD b la A B).length ≤ 4398046511104) :
    Calls Tryz.prog 9 #[Va, V, G, .bool b] w fun e w' => ∃ V', e = .returned V' ∧ w'.ownsRow w.heap.size 39 3 V' (twD b la A B).length (cnCells (twD b la A B)) ∧ Below w.heap.size w w' := by
  cases b with
  | true => exact Tryz.fold_all hC hC2 h3
  | false => exact Tryz.fold_wide hA hA2 hC hC2 hG hG2 h1 (Nat.le_trans (wout_len _ _ _) h3) h4 (Nat.le_trans (twG_len false A B) h2)
/-- Rows of other types lie in other blocks. -/
theorem Fd.row_ne {w : World} {B B' n n' k k' b : Nat} {T T' : TypeId} {V V' : Value} {xs xs' : List Value} (h : w.ownsRow B T k V n xs) (h' : w.ownsRow B' T' k' V' n' xs') (hT : T ≠ T') (e : V.ownBlock = some b) : V'.ownBlock ≠ some b := by
  intro e'
  rcases h.2 with ⟨rfl, _⟩ | ⟨g, cap, cur, rfl, _, hb, _⟩
  · cases e
  · rcases h'.2 with ⟨rfl, _⟩ | ⟨g', cap', cur', rfl, _, hb', _⟩
    · cases e'
    · cases e
      cases e'
      rw [hb] at hb'
      injection hb' with hb'
      injection hb' with _ hb'
      exact hT hb'
/-- Six lists that came out: those from the i-th on as they came, the others as their owner wrote them; none in blocks of others. -/
structure Tryz.Six (off : Nat → Prop) (w : World) (lv gv wv : Nat → Value) (c : Nat → List Cn) (i : Nat) : Prop where
  row : ∀ j, i ≤ j → j < 6 → w.ownsRow 0 39 3 (lv j) (c j).length (cnCells (c j))
  was : ∀ j, j < 6 → Cs w (wv j) (c j)
  don : ∀ j, j < i → Cs w (lv j) (List.replicate (c j).length (mkc j)) ∧ Cs w (gv j) (List.replicate ((c j).length + 12) (mkc j))
  ap1 : ∀ j j', j < 6 → i ≤ j' → j' < 6 → j ≠ j' → ∀ k, (lv j).ownBlock = some k → (lv j').ownBlock ≠ some k
  ap2 : ∀ j j', j < i → i ≤ j' → j' < 6 → ∀ k, (gv j).ownBlock = some k → (lv j').ownBlock ≠ some k
  ap3 : ∀ j j', j < 6 → i ≤ j' → j' < 6 → ∀ k, (wv j).ownBlock = some k → (lv j').ownBlock ≠ some k
  ll : ∀ j, j < 6 → ∀ k, (lv j).ownBlock = some k → k < w.heap.size ∧ ¬ off k
  gl : ∀ j, j < i → ∀ k, (gv j).ownBlock = some k → k < w.heap.size ∧ ¬ off k
  wl : ∀ j, j < 6 → ∀ k, (wv j).ownBlock = some k → k < w.heap.size ∧ ¬ off k
  ol : ∀ k, off k → k < w.heap.size
theorem Tryz.Six.keep {off : Nat → Prop} {w w' : World} {own : Nat → Prop} {lv gv wv : Nat → Value} {c : Nat → List Cn} {i : Nat} (h : Tryz.Six off w lv gv wv c i) (hi : i ≤ 6) (g : Wo own w w') (h1 : ∀ j, j < 6 → ∀ k, (lv j).ownBlock = some k → ¬ own k) (h2 : ∀ j, j < i → ∀ k, (gv j).ownBlock = some k → ¬ own k) (h3 : ∀ j, j < 6 → ∀ k, (wv j).ownBlock = some k → ¬ own k) : Tryz.Six off w' lv gv wv c i := by
  refine ⟨fun j k1 k2 => ?_, fun j k => (h.was j k).keep fun k' e => g.block k' (h.wl j k k' e).1 (h3 j k k' e), fun j k => ⟨(h.don j k).1.keep fun k' e => g.block k' (h.ll j (by omega) k' e).1 (h1 j (by omega) k' e), (h.don j k).2.keep fun k' e => g.block k' (h.gl j k k' e).1 (h2 j k k' e)⟩, h.ap1, h.ap2, h.ap3,
    fun j k k' e => ⟨Nat.lt_of_lt_of_le (h.ll j k k' e).1 g.size, (h.ll j k k' e).2⟩, fun j k k' e => ⟨Nat.lt_of_lt_of_le (h.gl j k k' e).1 g.size, (h.gl j k k' e).2⟩, fun j k k' e => ⟨Nat.lt_of_lt_of_le (h.wl j k k' e).1 g.size, (h.wl j k k' e).2⟩, fun k e => Nat.lt_of_lt_of_le (h.ol k e) g.size⟩
  exact Fd.row_keep (h.row j k1 k2) fun k' e => g.block k' (h.ll j k2 k' e).1 (h1 j k2 k' e)
/-- Where others' blocks turn. -/
theorem Tryz.Six.off {off : Nat → Prop} {w w' : World} {lv gv wv : Nat → Value} {c : Nat → List Cn} {i : Nat} (h : Tryz.Six off w lv gv wv c i) (hi : i ≤ 6) (g : Wo off w w') : Tryz.Six off w' lv gv wv c i := h.keep hi g (fun j k k' e => (h.ll j k k' e).2) (fun j k k' e => (h.gl j k k' e).2) (fun j k k' e => (h.wl j k k' e).2)
theorem Tryz.Six.past {off : Nat → Prop} {w w' : World} {lv gv wv : Nat → Value} {c : Nat → List Cn} {i : Nat} (h : Tryz.Six off w lv gv wv c i) (hi : i ≤ 6) (g : Below w.heap.size w w') : Tryz.Six off w' lv gv wv c i := h.off hi (Wo.ofBelow g)
theorem Tryz.Six.step {off : Nat → Prop} {w w' : World} {lv gv wv : Nat → Value} {c : Nat → List Cn} {i : Nat} (h : Tryz.Six off w lv gv wv c i) (hi : i < 6) {V' : Value} (g : Wo (fun k => (lv i).ownBlock = some k) w w') (h1 : Cs w' (lv i) (List.replicate (c i).length (mkc i))) (h2 : Cs w' V' (List.replicate ((c i).length + 12) (mkc i)))
    (h3 : ∀ k, V'.ownBlock = some k → ((lv i).ownBlock = some k ∨ w.heap.size ≤ k) ∧ k < w'.heap.size) : Tryz.Six off w' lv (fun j => if j = i then V' else gv j) wv c (i + 1) := by
  refine ⟨fun j k1 k2 => ?_, fun j k => (h.was j k).keep fun k' e => g.block k' (h.wl j k k' e).1 (h.ap3 j i k (Nat.le_refl _) hi k' e), fun j k => ?_, fun j j' k1 k2 k3 k4 => h.ap1 j j' k1 (by omega) k3 k4, fun j j' k1 k2 k3 k e => ?_, fun j j' k1 k2 k3 => h.ap3 j j' k1 (by omega) k3,
    fun j k k' e => ⟨Nat.lt_of_lt_of_le (h.ll j k k' e).1 g.size, (h.ll j k k' e).2⟩, fun j k k' e => ?_, fun j k k' e => ⟨Nat.lt_of_lt_of_le (h.wl j k k' e).1 g.size, (h.wl j k k' e).2⟩, fun k e => Nat.lt_of_lt_of_le (h.ol k e) g.size⟩
  · exact Fd.row_keep (h.row j (by omega) k2) fun k' e => g.block k' (h.ll j k2 k' e).1 (h.ap1 j i k2 (Nat.le_refl _) hi (by omega) k' e)
  · by_cases e : j = i
    · subst e
      simp only [if_true]
      exact ⟨h1, h2⟩
    · simp only [if_neg e]
      exact ⟨(h.don j (by omega)).1.keep fun k' e' => g.block k' (h.ll j (by omega) k' e').1 (h.ap1 j i (by omega) (Nat.le_refl _) hi e k' e'), (h.don j (by omega)).2.keep fun k' e' => g.block k' (h.gl j (by omega) k' e').1 (h.ap2 j i (by omega) (Nat.le_refl _) hi k' e')⟩
  · by_cases e' : j = i
    · subst e'
      simp only [if_true] at e
      rcases (h3 k e).1 with e2 | e2
      · exact h.ap1 j j' (by omega) (by omega) k3 (by omega) k e2
      · intro e3
        have := (h.ll j' k3 k e3).1
        omega
    · simp only [if_neg e'] at e
      exact h.ap2 j j' (by omega) (by omega) k3 k e
  · by_cases e' : j = i
    · subst e'
      simp only [if_true] at e
      refine ⟨(h3 k' e).2, ?_⟩
      rcases (h3 k' e).1 with e2 | e2
      · exact (h.ll j hi k' e2).2
      · intro e3
        have := h.ol k' e3
        omega
    · simp only [if_neg e'] at e
      exact ⟨Nat.lt_of_lt_of_le (h.gl j (by omega) k' e).1 g.size, (h.gl j (by omega) k' e).2⟩
/-- One of six. -/
def Fd.six {α : Type} (a b c d e f : α) : Nat → α
  | 0 => a
  | 1 => b
  | 2 => c
  | 3 => d
  | 4 => e
  | _ => f
theorem Fd.six_all {P : Nat → Prop} (h0 : P 0) (h1 : P 1) (h2 : P 2) (h3 : P 3) (h4 : P 4) (h5 : P 5) : ∀ j, j < 6 → P j
  | 0, _ => h0
  | 1, _ => h1
  | 2, _ => h2
  | 3, _ => h3
  | 4, _ => h4
  | 5, _ => h5
  | n + 6, h => by omega
theorem Tryz.Six.init {off : Nat → Prop} {w : World} {lv gv wv : Nat → Value} {c : Nat → List Cn} (t : Nat → Nat) (ht : ∀ i, i < 6 → t i ≤ t (i + 1)) (hr : ∀ j, j < 6 → w.ownsRow 0 39 3 (lv j) (c j).length (cnCells (c j))) (hw : ∀ j, j < 6 → w.ownsRow 0 39 3 (wv j) (c j).length (cnCells (c j)))
    (hl : ∀ j, j < 6 → ∀ k, (lv j).ownBlock = some k → t j ≤ k ∧ k < t (j + 1)) (hwl : ∀ j, j < 6 → ∀ k, (wv j).ownBlock = some k → t 6 ≤ k) (ho : ∀ k, off k → ∃ B T n V xs, T ≠ 39 ∧ w.ownsRow B T 1 V n xs ∧ V.ownBlock = some k) : Tryz.Six off w lv gv wv c 0 := by
  have mono : ∀ d i, i + d ≤ 6 → t i ≤ t (i + d) := by
    intro d
    induction d with
    | zero => intro i _; exact Nat.le_refl _
    | succ d ih => intro i h; exact Nat.le_trans (ih i (by omega)) (ht (i + d) (by omega))
  have mono' : ∀ i j, i ≤ j → j ≤ 6 → t i ≤ t j := fun i j h1 h2 => by
    have := mono (j - i) i (by omega)
    rwa [show i + (j - i) = j by omega] at this
  have hoff : ∀ {n V xs k}, w.ownsRow 0 39 3 V n xs → V.ownBlock = some k → ¬ off k := fun {n V xs k} h1 h2 h3 => by
    obtain ⟨B, T, n', V', xs', hT, h4, h5⟩ := ho k h3
    exact Fd.row_ne h4 h1 hT h5 h2
  refine ⟨fun j _ h => hr j h, fun j h => Cs.ofRow (hw j h), fun j h => by omega, fun j j' h1 _ h2 h3 k e e' => ?_, fun j _ h => by omega, fun j j' h1 _ h2 k e e' => ?_, fun j h k e => ⟨((hr j h).lt k e).2, hoff (hr j h) e⟩, fun j h => by omega, fun j h k e => ⟨((hw j h).lt k e).2, hoff (hw j h) e⟩, fun k e => ?_⟩
  · have a1 := hl j h1 k e
    have a2 := hl j' h2 k e'
    rcases Nat.lt_or_gt_of_ne h3 with h | h
    · have := mono' (j + 1) j' h (by omega); omega
    · have := mono' (j' + 1) j h (by omega); omega
  · have a1 := hwl j h1 k e
    have a2 := hl j' h2 k e'
    have := mono' (j' + 1) 6 (by omega) (Nat.le_refl _)
    omega
  · obtain ⟨B, T, n', V', xs', hT, h4, h5⟩ := ho k e
    exact (h4.lt k h5).2
theorem Tryz.infoLs : (Tryz.prog.info? 22).map (fun i => (i.zero, i.size, i.bytes)) = some (some (.slice none 0 0), 1, 24) := by kernel_rfl
set_option maxRecDepth 20000 in
/-- 'append' of one text, and where the row lies then. -/
theorem Tryz.appTs {ops : Array Oper} {rest : List Oper} {o : Oper} {a : Act} {Q : Exit → Act → World → Prop} (hgd : o.guard = none) (s y : Operand)
    (ho : o.op = .call { callee := .builtin .append, args := #[s, y], argTypes := #[27, 27] })
    {w : World} {V : Value} {n : Nat} {L0 : List ByteArray} {x : ByteArray} {g0 : Nat} (hrow : w.ownsRow 0 9 1 V n (L0.map Value.string)) (hs : a.eval s = V) (hb : w.heap[g0]? = some (.cells #[.string x] 9 (0, 0))) (hy : a.eval y = .slice (some ⟨g0, 0, none⟩) 1 1) (hlen : n + 1 ≤ 4398046511104)
    (hK : ∀ v' w', w'.ownsRow 0 9 1 v' (n + 1) ((L0 ++ [x]).map Value.string) → w.grownBy w' V.ownBlock → (∀ k, v'.ownBlock = some k → V.ownBlock = some k ∨ w.heap.size ≤ k) → wpList Tryz.prog ops Q rest (a.put o.dst v') w') : wpList Tryz.prog ops Q (o :: rest) a w := by
  obtain ⟨i0, hi0, hz0, hz1, hz2⟩ := info_parts Tryz.infoStr
  refine wpList_append_lies w hgd s y 27 ho 0 9 i0 _ 1 16 Tryz.underlying27 hi0 hz0 hz1 hz2 rfl (by omega) V n _ hs hrow ⟨g0, 0, none⟩ 1 1 [.string x] hy rfl (World.news_of_block (cs := #[.string x]) hb) (by simp [Value.oneCell']) (by omega) (by unfold maxLen; omega) (by omega) (Nat.zero_le _) _ rfl ?_
  intro g cap w' h1 h2 h3 h4
  rw [show L0.map Value.string ++ [Value.string x] = (L0 ++ [x]).map Value.string by simp] at h1
  refine hK _ w' h1 h2 fun k e => ?_
  obtain rfl : g = k := by simpa [Value.ownBlock] using e
  rcases h3 with h3 | h3
  · exact .inl h3
  · exact .inr (by omega)
set_option maxRecDepth 20000 in
/-- 'append' of one list to a row of lists, and where the row lies then. -/
theorem Tryz.appLs {ops : Array Oper} {rest : List Oper} {o : Oper} {a : Act} {Q : Exit → Act → World → Prop} (hgd : o.guard = none) (s y : Operand)
    (ho : o.op = .call { callee := .builtin .append, args := #[s, y], argTypes := #[33, 33] })
    {w : World} {V : Value} {n : Nat} {L0 : List Value} {x : Value} {g0 : Nat} (hrow : w.ownsRow 0 22 1 V n L0) (hs : a.eval s = V) (hb : w.heap[g0]? = some (.cells #[x] 22 (0, 0))) (hx1 : x.oneCell' = true) (hy : a.eval y = .slice (some ⟨g0, 0, none⟩) 1 1) (hlen : n + 1 ≤ 4398046511104)
    (hK : ∀ v' w', w'.ownsRow 0 22 1 v' (n + 1) (L0 ++ [x]) → w.grownBy w' V.ownBlock → (∀ k, v'.ownBlock = some k → V.ownBlock = some k ∨ w.heap.size ≤ k) → wpList Tryz.prog ops Q rest (a.put o.dst v') w') : wpList Tryz.prog ops Q (o :: rest) a w := by
  obtain ⟨i0, hi0, hz0, hz1, hz2⟩ := info_parts Tryz.infoLs
  refine wpList_append_lies w hgd s y 33 ho 0 22 i0 _ 1 24 Tryz.underlying33 hi0 hz0 hz1 hz2 rfl (by omega) V n _ hs hrow ⟨g0, 0, none⟩ 1 1 [x] hy rfl (World.news_of_block (cs := #[x]) hb) (by simpa using hx1) (by omega) (by unfold maxLen; omega) (by omega) (Nat.zero_le _) _ rfl ?_
  intro g cap w' h1 h2 h3 h4
  refine hK _ w' h1 h2 fun k e => ?_
  obtain rfl : g = k := by simpa [Value.ownBlock] using e
  rcases h3 with h3 | h3
  · exact .inl h3
  · exact .inr (by omega)
theorem Fd.Ts.nz {w : World} {V : Value} {l : List ByteArray} (h : Ts w V l) : V = .slice none 0 0 ∨ ∃ ad m c, V = .slice (some ad) m c := by
  obtain ⟨ad, cap, rfl, hc, hn, h1⟩ := h.ex
  cases ad with
  | none =>
    have := hn rfl
    subst this
    left
    rw [show l.length = 0 by omega]
  | some a => exact .inr ⟨a, _, _, rfl⟩
theorem Fd.ts_cells {w : World} {ad : Option Addr} {n cap : Nat} {L : List ByteArray} (h : Ts w (.slice ad n cap) L) (a : Addr) (ha : ad = some a) : ∀ (j : Nat) (u : Value), (L.map Value.string)[j]? = some u → w.cell? (a.add j) = some u := by
  intro j u hu
  obtain ⟨ad', cap', e, hc, hn, h1⟩ := h.ex
  injection e with e1 e2 e3
  subst e1 e3
  rcases h1 with rfl | ⟨g, o, eg, hg, h1⟩
  · simp at hu
  · rw [ha] at eg
    injection eg with eg
    subst eg
    rw [Addr.add_mid]
    rw [List.getElem?_map] at hu
    cases hx : L[j]? with
    | none => rw [hx] at hu; cases hu
    | some x =>
      rw [hx] at hu
      cases hu
      exact h1 j x hx
set_option maxRecDepth 20000 in
/-- 'append' of texts. -/
theorem Tryz.appTl {ops : Array Oper} {rest : List Oper} {o : Oper} {a : Act} {Q : Exit → Act → World → Prop} (hgd : o.guard = none) (s y : Operand)
    (ho : o.op = .call { callee := .builtin .append, args := #[s, y], argTypes := #[27, 27] })
    {w : World} {B : Nat} {V Y : Value} {n : Nat} {L0 L1 : List ByteArray} (hrow : w.ownsRow B 9 1 V n (L0.map Value.string)) (hB : B ≤ w.heap.size) (hs : a.eval s = V) (hY : Ts w Y L1) (hy : a.eval y = Y) (hlen : n + L1.length ≤ 4398046511104)
    (hK : ∀ v' w', w'.ownsRow B 9 1 v' (n + L1.length) ((L0 ++ L1).map Value.string) → Below B w w' → wpList Tryz.prog ops Q rest (a.put o.dst v') w') : wpList Tryz.prog ops Q (o :: rest) a w := by
  obtain ⟨i0, hi0, hz0, hz1, hz2⟩ := info_parts Tryz.infoStr
  rcases Fd.Ts.nz hY with rfl | ⟨ad, m, c, rfl⟩
  · obtain ⟨ad, cap, e, h⟩ := hY.ex
    injection e with e1 e2 e3
    have e0 : L1 = [] := List.eq_nil_of_length_eq_zero e2.symm
    subst e0
    refine wpList_append_own_none hgd s y _ ho B 9 i0 1 Tryz.underlying27 hi0 V n _ hs hrow hy (hK V w ?_ (Below.refl _ _))
    rw [List.append_nil]
    exact hrow
  · have hcs := Fd.ts_cells hY ad rfl
    obtain ⟨ad', cap, e, h⟩ := hY.ex
    injection e with e1 e2 e3
    subst e1 e2
    refine wpList_append_own _ hgd s y _ ho B 9 i0 _ 1 16 Tryz.underlying27 hi0 hz0 hz1 hz2 rfl (by omega) V n _ hs hrow ad L1.length c (L1.map Value.string) hy (by simp) hcs (fun u hu => by obtain ⟨x, _, rfl⟩ := List.mem_map.1 hu; rfl) (by unfold maxLen; omega) (by omega) hB ?_
    intro v' w' h1 h2 h3
    rw [← List.map_append] at h1
    exact hK v' w' h1 ((Below.refl B w).grown h2 (by omega) fun k e => (hrow.lt k e).1)
set_option maxRecDepth 20000 in
/-- 'append([]T{}, l...)': a new row. -/
theorem Tryz.appNew {ops : Array Oper} {rest : List Oper} {o : Oper} {a : Act} {Q : Exit → Act → World → Prop} (hgd : o.guard = none) (s y : Operand)
    (ho : o.op = .call { callee := .builtin .append, args := #[s, y], argTypes := #[22, 22] })
    {W : World} {Y : Value} {L1 : List Cn} (hs : a.eval s = .slice (some ⟨W.heap.size, 0, none⟩) 0 0) (hY : Cs W Y L1) (hy : a.eval y = Y) (hlen : L1.length ≤ 4398046511104)
    (hK : ∀ v' w', w'.ownsRow W.heap.size 39 3 v' L1.length (cnCells L1) → Below W.heap.size W w' → wpList Tryz.prog ops Q rest (a.put o.dst v') w') : wpList Tryz.prog ops Q (o :: rest) a (W.alloc (.cells #[] 39)) := by
  have hb : Below W.heap.size W (W.alloc (.cells #[] 39)) := (Below.refl _ W).alloc (Nat.le_refl _) _
  have hmade : (W.alloc (.cells #[] 39)).ownsRow W.heap.size 39 3 (.slice (some ⟨W.heap.size, 0, none⟩) 0 0) 0 (cnCells []) := World.ownsRow_made W #[] 0 (Nat.le_refl _) (by unfold maxLen; omega) (by simp)
  refine Tryz.appCn Tryz.underlying22 hgd s y ho hmade (by simp) hs (hY.past hb) hy (by omega) ?_
  intro v' w' h1 h2
  rw [Nat.zero_add, List.nil_append] at h1
  exact hK v' w' h1 (hb.trans h2)
set_option maxRecDepth 20000 in
theorem Tryz.appNewT {ops : Array Oper} {rest : List Oper} {o : Oper} {a : Act} {Q : Exit → Act → World → Prop} (hgd : o.guard = none) (s y : Operand)
    (ho : o.op = .call { callee := .builtin .append, args := #[s, y], argTypes := #[27, 27] })
    {W : World} {Y : Value} {L1 : List ByteArray} (hs : a.eval s = .slice (some ⟨W.heap.size, 0, none⟩) 0 0) (hY : Ts W Y L1) (hy : a.eval y = Y) (hlen : L1.length ≤ 4398046511104)
    (hK : ∀ v' w', w'.ownsRow W.heap.size 9 1 v' L1.length (L1.map Value.string) → Below W.heap.size W w' → wpList Tryz.prog ops Q rest (a.put o.dst v') w') : wpList Tryz.prog ops Q (o :: rest) a (W.alloc (.cells #[] 9)) := by
  have hb : Below W.heap.size W (W.alloc (.cells #[] 9)) := (Below.refl _ W).alloc (Nat.le_refl _) _
  have hmade : (W.alloc (.cells #[] 9)).ownsRow W.heap.size 9 1 (.slice (some ⟨W.heap.size, 0, none⟩) 0 0) 0 (([] : List ByteArray).map Value.string) := World.ownsRow_made W #[] 0 (Nat.le_refl _) (by unfold maxLen; omega) (by simp)
  refine Tryz.appTl hgd s y ho hmade (by simp) hs (hY.past hb) hy (by omega) ?_
  intro v' w' h1 h2
  rw [Nat.zero_add, List.nil_append] at h1
  exact hK v' w' h1 (hb.trans h2)
end Go.Proofs
namespace Go.Proofs
open Go.RowKit Go.Wi Go.Fd Go.Sort
theorem Fd.rep_any {α : Type} {l : List α} {n : Nat} {x : α} (h1 : l.length = n) (h2 : ∀ j, j < n → l[j]? = some x) : l = List.replicate n x := by
  apply List.ext_getElem?
  intro j
  by_cases hj : j < n
  · rw [h2 j hj, List.getElem?_replicate, if_pos hj]
  · rw [List.getElem?_eq_none (by omega), List.getElem?_eq_none (by simp; omega)]
/-- What an owner of texts writes. -/
def Fd.ow : ByteArray := ⟨#[116, 104, 101, 32, 111, 119, 110, 101, 114, 39, 115]⟩
def Fd.an : ByteArray := ⟨#[97, 110, 111, 116, 104, 101, 114, 39, 115]⟩
def Fd.sev {α : Type} (a b c d e f g : α) : Nat → α
  | 0 => a
  | 1 => b
  | 2 => c
  | 3 => d
  | 4 => e
  | 5 => f
  | _ => g
structure Tryz.Tw (w0 : World) (off : Nat → Prop) (gL gW : Nat) (LA WA : Array Value) (lv wv : Nat → Value) (c : Nat → List Cn) (G1 G2 G3 : Value) (Gn : List ByteArray) (i n : Nat) (G : Value) (gv : Nat → Value) (w : World) : Prop where
  six : Tryz.Six off w lv gv wv c i
  li : w.heap[gL]? = some (.cells LA 22 (0, 0))
  wa : w.heap[gW]? = some (.cells WA 22 (0, 0))
  gr : w.ownsRow 0 22 1 G n ((List.range n).map gv)
  ga : ∀ k, G.ownBlock = some k → (∀ j, j < 6 → (lv j).ownBlock ≠ some k) ∧ (∀ j, j < i → (gv j).ownBlock ≠ some k) ∧ (∀ j, j < 6 → (wv j).ownBlock ≠ some k) ∧ k ≠ gL ∧ k ≠ gW ∧ w0.heap.size ≤ k
  s1 : w.ownsRow 0 9 1 G1 Gn.length (Gn.map Value.string)
  s2 : w.ownsRow 0 9 1 G2 Gn.length (Gn.map Value.string)
  s3 : w.ownsRow 0 9 1 G3 Gn.length (Gn.map Value.string)
  be : Below w0.heap.size w0 w
  ab : ∀ j, j < 6 → ∀ k, (lv j).ownBlock = some k → w0.heap.size ≤ k
theorem Fd.cell_lit {W : World} {g : Nat} {cs : Array Value} {T : TypeId} (h : W.heap[g]? = some (.cells cs T (0, 0))) {j : Nat} {v : Value} (hj : cs[j]? = some v) : W.cell? ⟨g, j, none⟩ = some v := (cell_of_row _ _ _ _ _ _ h).trans hj
theorem Fd.six_lit {a b c d e f : Value} : ∀ j, j < 6 → (#[a, b, c, d, e, f] : Array Value)[j]? = some (Fd.six a b c d e f j) := Fd.six_all rfl rfl rfl rfl rfl rfl
theorem Fd.lit_ne {w : World} {B n k g b : Nat} {T T' : TypeId} {V : Value} {xs : List Value} {cs : Array Value} (h : w.ownsRow B T k V n xs) (h' : w.heap[g]? = some (.cells cs T' (0, 0))) (hT : T ≠ T') (e : V.ownBlock = some b) : b ≠ g := by
  rintro rfl
  rcases h.2 with ⟨rfl, _⟩ | ⟨g, cap, cur, rfl, _, hb, _⟩
  · cases e
  · cases e
    rw [hb] at h'
    injection h' with h'
    injection h' with _ h'
    exact hT h'
section
variable {w0 : World} {off : Nat → Prop} {gL gW : Nat} {LA WA : Array Value} {lv wv : Nat → Value} {c : Nat → List Cn} {G1 G2 G3 : Value} {Gn : List ByteArray} {i n : Nat} {G : Value} {gv : Nat → Value} {w w' : World}
theorem Tryz.Tw.past (h : Tryz.Tw w0 off gL gW LA WA lv wv c G1 G2 G3 Gn i n G gv w) (hi : i ≤ 6) (g : Below w.heap.size w w') : Tryz.Tw w0 off gL gW LA WA lv wv c G1 G2 G3 Gn i n G gv w' :=
  ⟨h.six.past hi g, (g.block gL (block_lt h.li)).trans h.li, (g.block gW (block_lt h.wa)).trans h.wa, Fd.row_past h.gr g (Nat.le_refl _), h.ga, Fd.row_past h.s1 g (Nat.le_refl _), Fd.row_past h.s2 g (Nat.le_refl _), Fd.row_past h.s3 g (Nat.le_refl _), Fd.bel_on h.be h.be.size g, h.ab⟩
theorem Tryz.Tw.owns (h : Tryz.Tw w0 off gL gW LA WA lv wv c G1 G2 G3 Gn i n G gv w) (hi : i < 6) (hn : n ≤ i) {V' : Value} (g : Wo (fun k => (lv i).ownBlock = some k) w w') (h1 : Cs w' (lv i) (List.replicate (c i).length (mkc i))) (h2 : Cs w' V' (List.replicate ((c i).length + 12) (mkc i)))
    (h3 : ∀ k, V'.ownBlock = some k → ((lv i).ownBlock = some k ∨ w.heap.size ≤ k) ∧ k < w'.heap.size) : Tryz.Tw w0 off gL gW LA WA lv wv c G1 G2 G3 Gn (i + 1) n G (fun j => if j = i then V' else gv j) w' := by
  have hr := h.six.row i (Nat.le_refl _) hi
  have str : ∀ {V : Value}, w.ownsRow 0 9 1 V Gn.length (Gn.map Value.string) → w'.ownsRow 0 9 1 V Gn.length (Gn.map Value.string) := fun {V} hs => Fd.row_keep hs fun k e => g.block k (hs.lt k e).2 (Fd.row_ne hs hr (by decide) e)
  refine ⟨h.six.step hi g h1 h2 h3, ?_, ?_, ?_, fun k e => ?_, str h.s1, str h.s2, str h.s3, g.toBelow h.be (fun k e => h.ab i hi k e) h.be.size, h.ab⟩
  · rw [g.block gL (block_lt h.li) fun e => Fd.lit_ne hr h.li (by decide) e rfl]; exact h.li
  · rw [g.block gW (block_lt h.wa) fun e => Fd.lit_ne hr h.wa (by decide) e rfl]; exact h.wa
  · have e : (List.range n).map (fun j => if j = i then V' else gv j) = (List.range n).map gv := List.map_congr_left fun j hj => by
      have := List.mem_range.1 hj
      simp only [if_neg (show j ≠ i by omega)]
    rw [e]
    exact Fd.row_keep h.gr fun k e => g.block k (h.gr.lt k e).2 (Fd.row_ne h.gr hr (by decide) e)
  · obtain ⟨a1, a2, a3, a4⟩ := h.ga k e
    refine ⟨a1, fun j hj => ?_, a3, a4⟩
    by_cases e' : j = i
    · subst e'
      simp only [if_true]
      intro e2
      rcases (h3 k e2).1 with e3 | e3
      · exact a1 j hi e3
      · have := (h.gr.lt k e).2
        omega
    · simp only [if_neg e']
      exact a2 j (by omega)
theorem Tryz.Tw.app (h : Tryz.Tw w0 off gL gW LA WA lv wv c G1 G2 G3 Gn i n G gv w) (hi : i ≤ 6) {v : Value} (hr : w'.ownsRow 0 22 1 v (n + 1) ((List.range n).map gv ++ [gv n])) (g : w.grownBy w' G.ownBlock) (hl : ∀ k, v.ownBlock = some k → G.ownBlock = some k ∨ w.heap.size ≤ k) : Tryz.Tw w0 off gL gW LA WA lv wv c G1 G2 G3 Gn i (n + 1) v gv w' := by
  have gw : Wo (fun k => G.ownBlock = some k) w w' := (Wo.refl _ w).grown g (fun k e => .inl e)
  have str : ∀ {V : Value}, w.ownsRow 0 9 1 V Gn.length (Gn.map Value.string) → w'.ownsRow 0 9 1 V Gn.length (Gn.map Value.string) := fun {V} hs => Fd.row_keep hs fun k e => gw.block k (hs.lt k e).2 (Fd.row_ne hs h.gr (by decide) e)
  refine ⟨h.six.keep hi gw (fun j hj k e e' => (h.ga k e').1 j hj e) (fun j hj k e e' => (h.ga k e').2.1 j hj e) (fun j hj k e e' => (h.ga k e').2.2.1 j hj e), ?_, ?_, ?_, fun k e => ?_, str h.s1, str h.s2, str h.s3, gw.toBelow h.be (fun k e => (h.ga k e).2.2.2.2.2) h.be.size, h.ab⟩
  · rw [gw.block gL (block_lt h.li) fun e => (h.ga gL e).2.2.2.1 rfl]; exact h.li
  · rw [gw.block gW (block_lt h.wa) fun e => (h.ga gW e).2.2.2.2.1 rfl]; exact h.wa
  · rw [List.range_succ, List.map_append]; exact hr
  · rcases hl k e with e' | e'
    · exact h.ga k e'
    · refine ⟨fun j hj e2 => ?_, fun j hj e2 => ?_, fun j hj e2 => ?_, fun e2 => ?_, fun e2 => ?_, Nat.le_trans h.be.size e'⟩
      · have := (h.six.ll j hj k e2).1; omega
      · have := (h.six.gl j hj k e2).1; omega
      · have := (h.six.wl j hj k e2).1; omega
      · have := block_lt h.li; omega
      · have := block_lt h.wa; omega
end
end Go.Proofs
