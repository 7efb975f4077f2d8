/-
  Laid together by packg.py of FhA FhB FhC FmD FmE FiM FhD.
-/
import Derived.Test.YtdhgpkacilcfgaaGreatDoorFgH
import Derived.Test.YtdhgpkacilcfgaaGreatDoorFfB
import Derived.Test.YtdhgpkacilcfgaaGreatDoorPfM
import Derived.ArgAppend
import Derived.OwnWalk
import Derived.Laws.OwnMore
import Derived.Sort.Walk0
namespace Go.Fd
open Go.RowKit Go.Wi Go.Sort
/-- What an owner writes. -/
def mkc (n : Nat) : Cn := ⟨⟨#[116, 104, 101, 32, 111, 119, 110, 101, 114, 39, 115]⟩, n, 0⟩
theorem cnCells_set : ∀ (l : List Cn) (i : Nat) (x : Cn), i < l.length → (((cnCells l).set (i * 3) (.string x.room)).set (i * 3 + 1) (.int .i64 x.un)).set (i * 3 + 2) (.int .i64 x.hi) = cnCells (l.set i x)
  | c :: l, 0, x, _ => by simp [cnCells, cnE]
  | c :: l, i + 1, x, h => by
    have ih := cnCells_set l i x (by simpa using h)
    simp only [cnCells, List.flatMap_cons, List.set_cons_succ] at ih ⊢
    rw [show (i + 1) * 3 = i * 3 + 1 + 1 + 1 by omega]
    simp only [cnE, List.cons_append, List.nil_append, List.set_cons_succ]
    rw [← ih]
/-- A row that lies at the beginning of another one. -/
theorem Cs.front {w : World} {B g n m cap : Nat} {T : TypeId} {L0 L1 : List Cn} (h : w.ownsRow B T 3 (.slice (some ⟨g, 0, none⟩) m cap) m (cnCells (L0 ++ L1))) (hn : n = L0.length) : Cs w (.slice (some ⟨g, 0, none⟩) n cap) L0 := by
  have hl := h.1
  rw [cnCells_len, List.length_append] at hl
  obtain ⟨ad, cap', e, hc, hn', h1⟩ := (Cs.ofRow h).ex
  injection e with e1 e2 e3
  subst e3
  rw [List.length_append] at hc
  refine ⟨some ⟨g, 0, none⟩, cap, by rw [hn], by omega, (fun e => by cases e), ?_⟩
  rcases h1 with h1 | ⟨g', o, e1', hg, h1⟩
  · exact .inl (List.append_eq_nil_iff.1 h1).1
  · rw [← e1] at e1'
    injection e1' with e1'
    injection e1' with e4 e5
    subst e4 e5
    refine .inr ⟨g, 0, rfl, hg, fun j u hu => h1 j u ?_⟩
    rw [cnCells_app, List.getElem?_append_left ?_]
    · exact hu
    · rcases Nat.lt_or_ge j (cnCells L0).length with e | e
      · exact e
      · rw [List.getElem?_eq_none e] at hu; cases hu
/-- How a row has grown: in its block, or in a new one. -/
def Gr (V V' : Value) (w w' : World) : Prop :=
  (∃ g n m cap, V = .slice (some ⟨g, 0, none⟩) n cap ∧ V' = .slice (some ⟨g, 0, none⟩) m cap ∧ w.grownBy w' (some g)) ∨ (Below w.heap.size w w' ∧ ∀ k, V'.ownBlock = some k → w.heap.size ≤ k)
end Go.Fd
namespace Go.Proofs
open Go.RowKit Go.Wi Go.Fd Go.Sort
theorem Fd.row_set {w : World} {B g n cap i : Nat} {T : TypeId} {l : List Cn} (h : w.ownsRow B T 3 (.slice (some ⟨g, 0, none⟩) n cap) n (cnCells l)) (hi : i < l.length) (x : Cn) :
    (((w.setCell ⟨g, i * 3, none⟩ (.string x.room)).setCell ⟨g, i * 3 + 1, none⟩ (.int .i64 x.un)).setCell ⟨g, i * 3 + 2, none⟩ (.int .i64 x.hi)).ownsRow B T 3 (.slice (some ⟨g, 0, none⟩) n cap) n (cnCells (l.set i x)) := by
  have h1 := (h.stored (i * 3) (.string x.room)).1
  have h2 := (h1.stored (i * 3 + 1) (.int .i64 x.un)).1
  have h3 := (h2.stored (i * 3 + 2) (.int .i64 x.hi)).1
  rwa [cnCells_set l i x hi] at h3
set_option maxRecDepth 20000 in
/-- 'append' of one, and where the row lies then. -/
theorem Tryz.appGr {t : TypeId} (ht : Tryz.prog.underlying t = some (.slice 39)) {ops : Array Oper} {rest : List Oper} {o : Oper} {a : Act} {Q : Exit → Act → World → Prop} (hgd : o.guard = none) (s y : Operand)
    (ho : o.op = .call { callee := .builtin .append, args := #[s, y], argTypes := #[t, t] })
    {w : World} {B H : Nat} {V : Value} {n : Nat} {L0 : List Cn} {c : Cn} (hrow : w.ownsRow B 39 3 V n (cnCells L0)) (hB : B ≤ w.heap.size) (hs : a.eval s = V) (hY : Cs w (.slice (some ⟨H, 0, none⟩) 1 1) [c]) (hy : a.eval y = .slice (some ⟨H, 0, none⟩) 1 1) (hlen : n + 1 ≤ 4398046511104)
    (hK : ∀ v' w', w'.ownsRow B 39 3 v' (n + 1) (cnCells (L0 ++ [c])) → Gr V v' w w' → wpList Tryz.prog ops Q rest (a.put o.dst v') w') : wpList Tryz.prog ops Q (o :: rest) a w := by
  obtain ⟨i0, hi0, hz0, hz1, hz2⟩ := info_parts Tryz.infoCn
  have hcs := Fd.cs_cells hY ⟨H, 0, none⟩ rfl
  have hl := hrow.1
  have grown : ∀ v' w', w'.ownsRow w.heap.size 39 3 v' (n + 1) (cnCells L0 ++ cnCells [c]) → w.grownBy w' none → wpList Tryz.prog ops Q rest (a.put o.dst v') w' := by
    intro v' w' h1 h2
    rw [← cnCells_app] at h1
    exact hK v' w' (Fd.row_mono h1 hB) (.inr ⟨(Below.refl _ w).grown h2 (Nat.le_refl _) (fun k e => by cases e), fun k e => (h1.lt k e).1⟩)
  rcases hrow.2 with ⟨rfl, rfl⟩ | ⟨g, cap, cur, rfl, hg, hb, h1, h2, h3, h4⟩
  · refine wpList_append_grows w hgd s y t ho 39 i0 _ 3 32 ht hi0 hz0 hz1 hz2 rfl (by omega) none 0 0 (cnCells L0) hs (fun _ => ⟨rfl, rfl⟩) hl (fun b e => by cases e) ⟨H, 0, none⟩ 1 1 (cnCells [c]) hy (cnCells_len [c]) hcs cnCells_one (by omega) (by unfold maxLen; omega) (by omega) grown
  · by_cases hr : n + 1 ≤ cap
    · refine wpList_append_fits w hgd s y t ho B 39 i0 3 ht hi0 hz1 g n cap _ hs hrow ⟨H, 0, none⟩ 1 1 (cnCells [c]) hy (cnCells_len [c]) hcs cnCells_one hr ?_
      intro w' k1 k2
      rw [← cnCells_app] at k1
      exact hK _ w' k1 (.inl ⟨g, n, n + 1, cap, rfl, rfl, k2⟩)
    · refine wpList_append_grows w hgd s y t ho 39 i0 _ 3 32 ht hi0 hz0 hz1 hz2 rfl (by omega) (some ⟨g, 0, none⟩) n cap (cnCells L0) hs (fun e => by cases e) hl (fun b e j u hu => ?_) ⟨H, 0, none⟩ 1 1 (cnCells [c]) hy (cnCells_len [c]) hcs cnCells_one (by omega) (by unfold maxLen; omega) (by omega) grown
      cases e
      exact hrow.cells rfl j u hu
set_option maxRecDepth 20000 in
set_option maxHeartbeats 500000 in
theorem Tryz.fold_all {w : World} {Va V Vg : Value} {l : List Cn} (h : Cs w V l) (hV : ∀ k, V.ownBlock = some k → k < w.heap.size) (hl : l.length ≤ 4398046511104) :
    Calls Tryz.prog 9 #[Va, V, Vg, .bool true] w fun e w' => ∃ V', e = .returned V' ∧ w'.ownsRow w.heap.size 39 3 V' (sheet l).length (cnCells (sheet l)) ∧ Below w.heap.size w w' := by
  have hs := Tryz.sheetOf_any h hV hl
  clear h hV hl
  go_enter Tryz.func9, Tryz.ntmps9
  go_wp2_with (first
    | (go_at_call 20; refine hs.mono ?_; clear hs; rintro e w1 ⟨V1, rfl, hr1, hb1⟩)
    | fail)
  go_ret
  exact ⟨V1, rfl, hr1, hb1⟩
set_option maxRecDepth 20000 in
set_option maxHeartbeats 1000000 in
theorem Tryz.counted_any {w : World} {V U : Value} {a b : List Cn} (h : Cs w V a) (g : Cs w U b) (ha : a.length ≤ 4398046511104) :
    Calls Tryz.prog 10 #[V, U] w fun e w' => e = .returned (.bool (decide (a = b))) ∧ ∃ q, w' = w.drewN q := by
  obtain ⟨ad, cap, rfl⟩ := h.is
  obtain ⟨bd, cbp, rfl⟩ := g.is
  have hmx : Tryz.prog.follows .mixedOrders = true := by kernel_rfl
  by_cases hn : a.length = b.length
  · have HA : Hid (Cs w (.slice ad a.length cap) a) := h
    have HG : Hid (Cs w (.slice bd b.length cbp) b) := g
    have HN : Hid (a.length = b.length) := hn
    clear h g
    obtain ⟨r, hr⟩ : ∃ r, r = decide (a = b) := ⟨_, rfl⟩
    have HR : Hid (r = decide (a = b)) := hr
    rw [← hr]
    clear hr
    rw [hn] at HA ha ⊢
    clear hn
    go_enter Tryz.func10, Tryz.ntmps10
    go_wp2
    go_loopw [5] (fun iv wr => ∃ i : Nat, iv = .int .i64 i ∧ i ≤ b.length ∧ (∀ j, j < i → a[j]! = b[j]!) ∧ ∃ q, wr = w.drewN q) (fun iv _ => b.length - (intOf iv).toNat)
    case atStart => exact ⟨0, rfl, Nat.zero_le _, fun j hj => by omega, 0, rfl⟩
    case round =>
      obtain ⟨i, rfl, hi, hsame, q, rfl⟩ := hrel
      have HS : Hid (∀ j, j < i → a[j]! = b[j]!) := hsame
      clear hsame
      by_cases hlt : i < b.length
      · have q1 : (i : Int) < (b.length : Int) := by omega
        have hla : i < a.length := by rw [HN.out]; exact hlt
        obtain ⟨g1, o1, rfl, c1, c2, c3⟩ := HA.out.at hla
        obtain ⟨g2, o2, rfl, d1, d2, d3⟩ := HG.out.at hlt
        rw [← getElem!_pos a i hla] at c1 c2 c3
        rw [← getElem!_pos b i hlt] at d1 d2 d3
        have C1 : ∀ n, (w.drewN n).cell? ⟨g1, o1 + i * 3, none⟩ = some (.string a[i]!.room) := fun _ => c1
        have C2 : ∀ n, (w.drewN n).cell? ⟨g1, o1 + i * 3 + 1, none⟩ = some (.int .i64 a[i]!.un) := fun _ => c2
        have C3 : ∀ n, (w.drewN n).cell? ⟨g1, o1 + i * 3 + 2, none⟩ = some (.int .i64 a[i]!.hi) := fun _ => c3
        have D1 : ∀ n, (w.drewN n).cell? ⟨g2, o2 + i * 3, none⟩ = some (.string b[i]!.room) := fun _ => d1
        have D2 : ∀ n, (w.drewN n).cell? ⟨g2, o2 + i * 3 + 1, none⟩ = some (.int .i64 b[i]!.un) := fun _ => d2
        have D3 : ∀ n, (w.drewN n).cell? ⟨g2, o2 + i * 3 + 2, none⟩ = some (.int .i64 b[i]!.hi) := fun _ => d3
        clear c1 c2 c3 d1 d2 d3
        generalize hx : a[i]! = x at *
        generalize hy : b[i]! = y at *
        have heq : ∀ W : World, (Op.equalIn 10000 39 (.agg #[.string x.room, .int .i64 x.un, .int .i64 x.hi]) (.agg #[.string y.room, .int .i64 y.un, .int .i64 y.hi])).run Tryz.prog W = .ok (decide (x = y)) W := fun W => Tryz.eqCn x y W
        have hgt : Tryz.prog.eqGuardType Tryz.prog.depth 39 = false := by kernel_rfl
        generalize hd : decide (x = y) = d at *
        go_wp2_with (fail)
        go_quiet (fail)
        cases d with
        | true =>
          go_wp2
          go_roundw
          case rel =>
            refine ⟨i + 1, by simp, by omega, fun j hj => ?_, q + nq, by first | rfl | exact World.drewN_drewN _ _ _⟩
            by_cases hji : j = i
            · subst hji; rw [hx, hy]; exact of_decide_eq_true hd
            · exact HS.out j (by omega)
          case measure => simp [intOf]; omega
        | false =>
          have e : r = false := by
            rw [HR.out]
            refine decide_eq_false fun e => of_decide_eq_false hd ?_
            rw [← hx, ← hy, e]
          subst e
          go_wp2
          go_ret
          exact ⟨rfl, q + nq, World.drewN_drewN _ _ _⟩
      · have q1 : ¬ (i : Int) < (b.length : Int) := by omega
        have e : r = true := by
          rw [HR.out]
          refine decide_eq_true ?_
          apply List.ext_getElem HN.out
          intro j h1 h2
          have := HS.out j (by omega)
          rwa [getElem!_pos a j h1, getElem!_pos b j h2] at this
        subst e
        go_wp2
        go_ret
        exact ⟨rfl, q, rfl⟩
  · clear ha
    have q0 : ¬ ((a.length : Int) = (b.length : Int)) := by omega
    have e : decide (a = b) = false := decide_eq_false (fun e => hn (by rw [e]))
    rw [e]
    clear h g hn e
    go_enter Tryz.func10, Tryz.ntmps10
    go_wp2
    go_ret
    exact ⟨rfl, 0, rfl⟩
end Go.Proofs
namespace Go.Proofs
open Go.RowKit Go.Wi Go.Fd Go.Sort
set_option maxRecDepth 20000 in
set_option maxHeartbeats 1000000 in
theorem Tryz.reads_any {w : World} {V : Value} {L n : Nat} (h : Cs w V (List.replicate L (mkc n))) (hl : L ≤ 4398046511104) :
    Calls Tryz.prog 12 #[V, .int .i64 n] w fun e w' => e = .returned (.bool true) ∧ w' = w := by
  obtain ⟨ad, cap, rfl⟩ := h.is
  rw [List.length_replicate]
  have HC : Hid (Cs w (.slice ad L cap) (List.replicate L (mkc n))) := by have := h; rwa [List.length_replicate] at this
  clear h
  go_enter Tryz.func12, Tryz.ntmps12
  go_wp2
  go_loopw [5] (fun iv wr => ∃ i : Nat, iv = .int .i64 i ∧ i ≤ L ∧ wr = w) (fun iv _ => L - (intOf iv).toNat)
  case atStart => exact ⟨0, rfl, Nat.zero_le _, rfl⟩
  case round =>
    obtain ⟨i, rfl, hi, rfl⟩ := hrel
    by_cases hlt : i < L
    · have q1 : (i : Int) < (L : Int) := by omega
      obtain ⟨g1, o1, rfl, c1, c2, c3⟩ := HC.out.at (i := i) (by rw [List.length_replicate]; exact hlt)
      simp only [List.getElem_replicate, mkc] at c1 c2 c3
      go_wp2
      go_roundw
      case rel => exact ⟨i + 1, by simp, by omega, by first | trivial | rfl⟩
      case measure => simp [intOf]; omega
    · have q1 : ¬ (i : Int) < (L : Int) := by omega
      go_wp2
      go_ret
      exact ⟨rfl, rfl⟩
theorem Fd.rep_of {l : List Cn} {n : Nat} {x : Cn} (h1 : l.length = n) (h2 : ∀ j, j < n → l[j]? = some x) : l = List.replicate n x := by
  apply List.ext_getElem?
  intro j
  by_cases hj : j < n
  · rw [h2 j hj, List.getElem?_replicate, if_pos hj]
  · rw [List.getElem?_eq_none (by omega), List.getElem?_eq_none (by simp; omega)]
/-- The owner's list, and what it has grown to. -/
def Fd.Grs (w0 w : World) (V G : Value) (n : Nat) (x : Cn) : Prop :=
  (∃ g cap, V = .slice (some ⟨g, 0, none⟩) n cap ∧ ∃ m, G = .slice (some ⟨g, 0, none⟩) m cap) ∨ (Cs w V (List.replicate n x) ∧ ∀ k, G.ownBlock = some k → w0.heap.size < k)
theorem Fd.grs_step {w wr w2 : World} {T : TypeId} {ad : Option Addr} {cap L k : Nat} {U v1 : Value} {x : Cn} {o : Obj} (hV : ∀ k, (Value.slice ad L cap).ownBlock = some k → k < w.heap.size) (hR : wr.ownsRow 0 T 3 U (L + k) (cnCells (List.replicate (L + k) x))) (hG : Fd.Grs w wr (.slice ad L cap) U L x)
    (hW : Wo (fun k => (Value.slice ad L cap).ownBlock = some k) w wr) (hz : w.heap.size < wr.heap.size) (hg : Gr U v1 (wr.alloc o) w2) : Fd.Grs w w2 (.slice ad L cap) v1 L x ∧ Wo (fun k => (Value.slice ad L cap).ownBlock = some k) w w2 ∧ w2.heap[w.heap.size]? = wr.heap[w.heap.size]? := by
  have hbl : Below wr.heap.size wr (wr.alloc o) := (Below.refl _ wr).alloc (Nat.le_refl _) o
  have hal : (wr.alloc o).heap[w.heap.size]? = wr.heap[w.heap.size]? := hbl.block _ hz
  rcases hg with ⟨g, n', m, c', rfl, rfl, gb⟩ | ⟨hb, hnew⟩
  · rcases hG with ⟨g0, c0, e, m0, e'⟩ | ⟨hC, hlt⟩
    · injection e' with e1 e2 e3
      injection e1 with e1
      injection e1 with e1
      subst e1 e3
      injection e with f1 f2 f3
      subst f1 f3
      have hg1 := hV g rfl
      refine ⟨.inl ⟨g, cap, rfl, m, rfl⟩, (hW.alloc o).grown gb (fun k e => .inl (by cases e; rfl)), ?_⟩
      rw [gb.block _ (by rw [World.size_alloc]; omega) (fun e => by injection e with e; omega)]
      exact hal
    · have hg1 := hlt g rfl
      refine ⟨.inr ⟨(hC.past hbl).keep fun k e => gb.block k (by rw [World.size_alloc]; have := hV k e; omega) (fun e' => by injection e' with e'; have := hV k e; omega), fun k e => by cases e; exact hg1⟩, (hW.alloc o).grown gb (fun k e => .inr (by cases e; omega)), ?_⟩
      rw [gb.block _ (by rw [World.size_alloc]; omega) (fun e => by injection e with e; omega)]
      exact hal
  · have hb2 : Below wr.heap.size wr w2 := hbl.trans (hb.mono (by rw [World.size_alloc]; omega))
    refine ⟨.inr ⟨?_, fun k e => by have := hnew k e; rw [World.size_alloc] at this; omega⟩, hW.below hb2 (by omega), hb2.block _ hz⟩
    rcases hG with ⟨g0, c0, e, m0, rfl⟩ | ⟨hC, _⟩
    · obtain ⟨ad', c', e'⟩ := Fd.row_is hR
      injection e' with e1 e2 e3
      subst e2
      have h1 : Cs wr (.slice (some ⟨g0, 0, none⟩) L c0) (List.replicate L x) := Cs.front (L1 := List.replicate k x) (by rw [List.replicate_append_replicate]; exact hR) (by simp)
      rw [e]
      exact h1.past hb2
    · exact hC.past hb2
set_option maxRecDepth 20000 in
set_option maxHeartbeats 2000000 in
theorem Tryz.owns_any {w : World} {V : Value} {l : List Cn} {B n : Nat} (h : w.ownsRow B 39 3 V l.length (cnCells l)) (hl : l.length + 12 ≤ 4398046511104) :
    Calls Tryz.prog 11 #[V, .int .i64 n] w fun e w' => ∃ V', e = .returned V' ∧ Cs w' V (List.replicate l.length (mkc n)) ∧ Cs w' V' (List.replicate (l.length + 12) (mkc n)) ∧ Wo (fun k => V.ownBlock = some k) w w' ∧ (∀ k, V'.ownBlock = some k → (V.ownBlock = some k ∨ w.heap.size ≤ k) ∧ k < w'.heap.size) := by
  obtain ⟨ad, cap, rfl⟩ := (Cs.ofRow h).is
  have HR0 : Hid (w.ownsRow 0 39 3 (.slice ad l.length cap) l.length (cnCells l)) := Fd.row_mono h (Nat.zero_le _)
  have HL : Hid (l.length + 12 ≤ 4398046511104) := hl
  have hN : l.length < 9223372036854775807 := by omega
  clear h hl
  go_enter Tryz.func11, Tryz.ntmps11
  go_upto_region 2 with (fail)
  obtain ⟨w1, hw1⟩ : ∃ W, W = w.alloc (.cells #[.string ⟨#[116, 104, 101, 32, 111, 119, 110, 101, 114, 39, 115]⟩, .int .i64 n, .int .i64 0] 39) := ⟨_, rfl⟩
  rw [← hw1]
  have hB1 : Below w.heap.size w w1 := by rw [hw1]; exact (Below.refl _ w).alloc (Nat.le_refl _) _
  have HM1 : Hid (w1.heap[w.heap.size]? = some (.cells #[.string ⟨#[116, 104, 101, 32, 111, 119, 110, 101, 114, 39, 115]⟩, .int .i64 n, .int .i64 0] 39 (0, 0))) := by show _ = _; rw [hw1]; exact heap_alloc_new _ _
  have HR1 : Hid (w1.ownsRow 0 39 3 (.slice ad l.length cap) l.length (cnCells l)) := Fd.row_past HR0.out hB1 (Nat.le_refl _)
  have HW1 : Hid (Wo (fun k => (Value.slice ad l.length cap).ownBlock = some k) w w1) := Wo.ofBelow hB1
  have HV : Hid (∀ k, (Value.slice ad l.length cap).ownBlock = some k → k < w.heap.size) := fun k e => (HR0.out.lt k e).2
  clear hw1 hB1 HR0
  obtain ⟨bm, hbm⟩ : ∃ b, b = w.heap.size := ⟨_, rfl⟩
  have HBM : Hid (bm = w.heap.size) := hbm
  rw [← hbm] at HM1 HV ⊢
  clear hbm
  go_upto_region 3 with (fail)
  go_loopw [6] (fun iv wr => ∃ (i : Nat) (li : List Cn), iv = .int .i64 i ∧ i ≤ l.length ∧ li.length = l.length ∧ (∀ j, j < i → li[j]? = some (mkc n)) ∧ wr.ownsRow 0 39 3 (.slice ad l.length cap) l.length (cnCells li) ∧ wr.heap[bm]? = some (.cells #[.string ⟨#[116, 104, 101, 32, 111, 119, 110, 101, 114, 39, 115]⟩, .int .i64 n, .int .i64 0] 39 (0, 0)) ∧ Wo (fun k => (Value.slice ad l.length cap).ownBlock = some k) w wr) (fun iv _ => l.length - (intOf iv).toNat)
  case atStart => exact ⟨0, l, rfl, Nat.zero_le _, rfl, fun j hj => by omega, HR1.out, HM1.out, HW1.out⟩
  case round =>
    obtain ⟨i, li, rfl, hi, hli, hall, hrow, hm, hwo⟩ := hrel
    have HA : Hid (∀ j, j < i → li[j]? = some (mkc n)) := hall
    have HR : Hid (wr.ownsRow 0 39 3 (.slice ad l.length cap) l.length (cnCells li)) := hrow
    have HM : Hid (wr.heap[bm]? = some (.cells #[.string ⟨#[116, 104, 101, 32, 111, 119, 110, 101, 114, 39, 115]⟩, .int .i64 n, .int .i64 0] 39 (0, 0))) := hm
    have HW : Hid (Wo (fun k => (Value.slice ad l.length cap).ownBlock = some k) w wr) := hwo
    have HLi : Hid (li.length = l.length) := hli
    clear hall hrow hm hwo hli
    by_cases hlt : i < l.length
    · have q1 : (i : Int) < (l.length : Int) := by omega
      obtain ⟨g, rfl⟩ : ∃ g, ad = some ⟨g, 0, none⟩ := by
        rcases HR.out.2 with ⟨e, e0⟩ | ⟨g, cap', cur, e, _⟩
        · omega
        · injection e with e1; exact ⟨g, e1⟩
      have x0 : wr.cell? ⟨bm, 0, none⟩ = some (.string ⟨#[116, 104, 101, 32, 111, 119, 110, 101, 114, 39, 115]⟩) := cell_of_row _ _ _ _ _ _ HM.out
      have x1 : wr.cell? ⟨bm, 1, none⟩ = some (.int .i64 n) := cell_of_row _ _ _ _ _ _ HM.out
      have x2 : wr.cell? ⟨bm, 2, none⟩ = some (.int .i64 0) := cell_of_row _ _ _ _ _ _ HM.out
      have hil : i < li.length := by rw [HLi.out]; exact hlt
      obtain ⟨g', o', e', c0, c1, c2⟩ := (Cs.ofRow HR.out).at hil
      injection e' with e'
      injection e' with e1 e2
      subst e1 e2
      simp only [Nat.zero_add] at c0 c1 c2
      have f0 := HR.out.frozenAt (i * 3)
      have f1 := HR.out.frozenAt (i * 3 + 1)
      have f2 := HR.out.frozenAt (i * 3 + 2)
      have HR2 : Hid _ := Fd.row_set HR.out hil (mkc n)
      have HM2 : Hid ((((wr.setCell ⟨g, i * 3, none⟩ (.string (mkc n).room)).setCell ⟨g, i * 3 + 1, none⟩ (.int .i64 (mkc n).un)).setCell ⟨g, i * 3 + 2, none⟩ (.int .i64 (mkc n).hi)).heap[bm]? = some (.cells #[.string ⟨#[116, 104, 101, 32, 111, 119, 110, 101, 114, 39, 115]⟩, .int .i64 n, .int .i64 0] 39 (0, 0))) := by
        show _ = _
        have hne : bm ≠ g := fun e => by have := HV.out g rfl; omega
        rw [Below.heap_setCell _ ⟨g, i * 3 + 2, none⟩ _ bm (fun e => hne (by simpa using e)), Below.heap_setCell _ ⟨g, i * 3 + 1, none⟩ _ bm (fun e => hne (by simpa using e)), Below.heap_setCell _ ⟨g, i * 3, none⟩ _ bm (fun e => hne (by simpa using e))]
        exact HM.out
      have HW2 : Hid (Wo (fun k => (Value.slice (some ⟨g, 0, none⟩) l.length cap).ownBlock = some k) w (((wr.setCell ⟨g, i * 3, none⟩ (.string (mkc n).room)).setCell ⟨g, i * 3 + 1, none⟩ (.int .i64 (mkc n).un)).setCell ⟨g, i * 3 + 2, none⟩ (.int .i64 (mkc n).hi))) := ((HW.out.setCell g (i * 3) _ (.inl rfl)).setCell g (i * 3 + 1) _ (.inl rfl)).setCell g (i * 3 + 2) _ (.inl rfl)
      clear HM HW HR
      go_wp2
      go_roundw
      case rel =>
        refine ⟨i + 1, li.set i (mkc n), by simp, by omega, by rw [List.length_set]; exact HLi.out, fun j hj => ?_, HR2.out, HM2.out, HW2.out⟩
        by_cases e : j = i
        · subst e; rw [List.getElem?_set_self hil]
        · rw [List.getElem?_set_ne (fun e' => e e'.symm)]; exact HA.out j (by omega)
      case measure => simp [intOf]; omega
    · have q1 : ¬ (i : Int) < (l.length : Int) := by omega
      obtain rfl : i = l.length := by omega
      have hrep : li = List.replicate l.length (mkc n) := Fd.rep_of HLi.out HA.out
      have HR2 : Hid (wr.ownsRow 0 39 3 (.slice ad l.length cap) l.length (cnCells (List.replicate l.length (mkc n)))) := by show World.ownsRow _ _ _ _ _ _ _; rw [← hrep]; exact HR.out
      clear hrep HR HA HLi
      generalize hn0 : l.length = L at *
      have HN0 : Hid (l.length = L) := hn0
      clear hn0
      go_upto_region 8 with (fail)
      obtain ⟨W, hW⟩ : ∃ W : World, W = wr := ⟨_, rfl⟩
      subst hW
      go_loopw [7, 8] (fun G kv wr => ∃ k : Nat, kv = .int .i64 k ∧ k ≤ 12 ∧ wr.ownsRow 0 39 3 G (L + k) (cnCells (List.replicate (L + k) (mkc n))) ∧ Fd.Grs w wr (.slice ad L cap) G L (mkc n) ∧ wr.heap[bm]? = some (.cells #[.string ⟨#[116, 104, 101, 32, 111, 119, 110, 101, 114, 39, 115]⟩, .int .i64 n, .int .i64 0] 39 (0, 0)) ∧ Wo (fun k => (Value.slice ad L cap).ownBlock = some k) w wr) (fun _ kv _ => 12 - (intOf kv).toNat)
      case atStart =>
        refine ⟨0, rfl, Nat.zero_le _, HR2.out, ?_, HM.out, HW.out⟩
        rcases HR2.out.2 with ⟨e, e0⟩ | ⟨g, cap', cur, e, _⟩
        · injection e with e1 e2 e3
          subst e1 e3 e0
          exact .inr ⟨Cs.nil _, fun k e => by cases e⟩
        · injection e with e1 e2 e3
          subst e1
          exact .inl ⟨g, cap, rfl, L, rfl⟩
      case round =>
        obtain ⟨k, rfl, hk, hrow, hgr, hm, hwo⟩ := hrel
        have HR3 : Hid (wr.ownsRow 0 39 3 u7 (L + k) (cnCells (List.replicate (L + k) (mkc n)))) := hrow
        have HG3 : Hid (Fd.Grs w wr (.slice ad L cap) u7 L (mkc n)) := hgr
        have HM3 : Hid (wr.heap[bm]? = some (.cells #[.string ⟨#[116, 104, 101, 32, 111, 119, 110, 101, 114, 39, 115]⟩, .int .i64 n, .int .i64 0] 39 (0, 0))) := hm
        have HW3 : Hid (Wo (fun k => (Value.slice ad L cap).ownBlock = some k) w wr) := hwo
        clear hrow hgr hm hwo
        by_cases hlt : k < 12
        · have q2 : (k : Int) < 12 := by omega
          have x0 : wr.cell? ⟨bm, 0, none⟩ = some (.string ⟨#[116, 104, 101, 32, 111, 119, 110, 101, 114, 39, 115]⟩) := cell_of_row _ _ _ _ _ _ HM3.out
          have x1 : wr.cell? ⟨bm, 1, none⟩ = some (.int .i64 n) := cell_of_row _ _ _ _ _ _ HM3.out
          have x2 : wr.cell? ⟨bm, 2, none⟩ = some (.int .i64 0) := cell_of_row _ _ _ _ _ _ HM3.out
          go_wp2_with (first
            | (at_builtin; refine Tryz.appGr Tryz.underlying22 rfl _ _ rfl (c := mkc n) (Fd.row_past HR3.out ((Below.refl _ _).alloc (Nat.le_refl _) _) (Nat.le_refl _)) (Nat.zero_le _) rfl (Fd.cs_one (heap_alloc_new _ _)) rfl (by have := HL.out; omega) ?_; intro v1 w2 hr2 hg2)
            | fail)
          go_roundw
          case rel =>
            rw [HBM.out] at HM3
            obtain ⟨k1, k2, k3⟩ := Fd.grs_step (by rw [← HBM.out]; exact HV.out) HR3.out HG3.out HW3.out (block_lt HM3.out) hg2
            refine ⟨k + 1, by simp, by omega, ?_, k1, by rw [HBM.out, k3]; exact HM3.out, k2⟩
            rw [← List.replicate_succ'] at hr2
            exact hr2
          case measure => simp [intOf]; omega
        · have q2 : ¬ (k : Int) < 12 := by omega
          obtain rfl : k = 12 := by omega
          go_wp2
          go_ret
          rw [HN0.out]
          refine ⟨_, rfl, ?_, Cs.ofRow HR3.out, HW3.out, fun k e => ⟨?_, (HR3.out.lt k e).2⟩⟩
          · rcases HG3.out with ⟨g, c, e, m, e'⟩ | ⟨hC, _⟩
            · obtain ⟨ad', c', e2⟩ := Fd.row_is HR3.out
              have h3 := HR3.out
              rw [e'] at e2 h3
              injection e2 with _ e2
              subst e2
              rw [e]
              exact Cs.front (L1 := List.replicate 12 (mkc n)) (by rw [List.replicate_append_replicate]; exact h3) (by simp)
            · exact hC
          · rcases HG3.out with ⟨g, c, e', m, e2⟩ | ⟨_, h4⟩
            · rw [e2] at e
              rw [e']
              exact .inl e
            · exact .inr (Nat.le_of_lt (h4 k e))
end Go.Proofs
namespace Go.Fd
open Go.RowKit Go.Wi Go.Sort Go.Proofs
/-- What is told, gone and folded: of all there is, or of what has changed. -/
def twC (b : Bool) (A B : List Cn) : List Cn := if b then B else changed B A
def twG (b : Bool) (A B : List Cn) : List ByteArray := if b then [] else goneL B A
def twD (b : Bool) (la A B : List Cn) : List Cn := if b then Fd.sheet B else foldP la (changed B A) (goneL B A)
def tw1 (A : List Cn) : Sh := (putS sh0 A).getD sh0
def tw2 (A B : List Cn) : Sh := (putS (tw1 A) B).getD (tw1 A)
theorem tw1_is (A : List Cn) : (A = [] ∧ tw1 A = (0, [[]])) ∨ tw1 A = (1, [[], A]) := by
  unfold tw1 putS
  split
  · rename_i h
    rcases h with h | h
    · simp [sh0] at h
    · simp [sh0] at h
      exact .inl ⟨h.symm ▸ rfl, rfl⟩
  · exact .inr rfl
theorem tw_ok (A B : List Cn) : (tw1 A).1 ≤ 1 ∧ (tw1 A).1 ≤ (tw2 A B).1 ∧ (tw2 A B).1 ≤ 2 ∧ (tw2 A B).2.getLast? = some B ∧ (tw2 A B).2[(tw1 A).1]? = some A := by
  unfold tw2 putS
  rcases tw1_is A with ⟨rfl, e⟩ | e
  · rw [e]
    split
    · rename_i h
      rcases h with h | h
      · simp at h
      · simp at h
        subst h
        simp
    · simp [trim]
  · rw [e]
    split
    · rename_i h
      rcases h with h | h
      · simp at h
      · simp at h
        subst h
        simp
    · simp [trim]
theorem twC_len (b : Bool) (A B : List Cn) : (twC b A B).length ≤ B.length := by
  unfold twC
  split
  · exact Nat.le_refl _
  · exact wout_len _ _ _
theorem twG_len (b : Bool) (A B : List Cn) : (twG b A B).length ≤ A.length := by
  unfold twG
  split
  · exact Nat.zero_le _
  · unfold goneL
    rw [List.length_map]
    exact wout_len _ _ _
end Go.Fd
namespace Go.Proofs
open Go.RowKit Go.Wi Go.Fd Go.Sort
theorem Tryz.since_tw {B0 hb m : Nat} {w : World} {F : ByteArray → Option Sh} (h : Tryz.Hx B0 w hb m F) (hT : Tryz.Tb w) {A B : List Cn} (hF : Fd.keptOf F ⟨#[64, 97]⟩ = tw2 A B) (b : Bool) :
    Calls Tryz.prog 8 #[.pointer (some ⟨hb, 0, none⟩), .string ⟨#[64, 97]⟩, .string (if b then ⟨#[]⟩ else Fd.fmt (tw1 A).1)] w fun e w' => ∃ V G, e = .returned (.tuple #[V, G, .bool b, .string (Fd.fmt (tw2 A B).1), .int .i64 0]) ∧ w'.ownsRow w.heap.size 39 3 V (twC b A B).length (cnCells (twC b A B)) ∧ w'.ownsRow w.heap.size 9 1 G (twG b A B).length ((twG b A B).map Value.string) ∧ Below w.heap.size w w' := by
  obtain ⟨own, p, mb, h1, _⟩ := h.ex
  obtain ⟨k1, k2, k3, k4, k5⟩ := tw_ok A B
  have hF' : (F ⟨#[64, 97]⟩).getD sh0 = tw2 A B := hF
  have hu : (⟨#[64, 97]⟩ : ByteArray).size ≤ maxLen := by unfold maxLen; decide
  cases b with
  | true =>
    have key := Tryz.since_whole h1 hT ⟨#[64, 97]⟩ hu ⟨#[]⟩ (.inl rfl)
    rw [hF'] at key
    refine key.mono ?_
    rintro e w' ⟨V, l', rfl, e2, hr, hb'⟩
    rw [k4] at e2
    cases e2
    exact ⟨V, _, rfl, hr, World.ownsRow_nil _ _ _ _, hb'⟩
  | false =>
    have key := Tryz.since_part (k := (tw1 A).1) (t := A) h1 hT ⟨#[64, 97]⟩ hu (Fd.fmt (tw1 A).1) (Fd.at_fmt _ (by omega)) (by rw [hF']; omega) (by rw [hF']; exact k2) (by rw [hF', show (tw1 A).1 - ((tw2 A B).1 - 50) = (tw1 A).1 by omega]; exact k5)
    rw [hF'] at key
    refine key.mono ?_
    rintro e w' ⟨V, G, l', rfl, e2, hr, hr2, hb'⟩
    rw [k4] at e2
    cases e2
    exact ⟨V, G, rfl, hr, hr2, hb'⟩
theorem Tryz.fold_tw {w : World} {Va V G : Value} {la A B : List Cn} (b : Bool) (hA : Cs w Va la) (hA2 : ∀ k, Va.ownBlock = some k → k < w.heap.size) (hC : Cs w V (twC b A B)) (hC2 : ∀ k, V.ownBlock = some k → k < w.heap.size) (hG : Ts w G (twG b A B)) (hG2 : ∀ k, G.ownBlock = some k → k < w.heap.size)
    (h1 : la.length ≤ 4398046511104) (h2 : A.length ≤ 4398046511104) (h3 : B.length ≤ 4398046511104) (h4 : (twD b la A B).length ≤ 4398046511104) :
    Calls Tryz.prog 9 #[Va, V, G, .bool b] w fun e w' => ∃ V', e = .returned V' ∧ w'.ownsRow w.heap.size 39 3 V' (twD b la A B).length (cnCells (twD b la A B)) ∧ Below w.heap.size w w' := by
  cases b with
  | true => exact Tryz.fold_all hC hC2 h3
  | false => exact Tryz.fold_wide hA hA2 hC hC2 hG hG2 h1 (Nat.le_trans (wout_len _ _ _) h3) h4 (Nat.le_trans (twG_len false A B) h2)
/-- Rows of other types lie in other blocks. -/
theorem Fd.row_ne {w : World} {B B' n n' k k' b : Nat} {T T' : TypeId} {V V' : Value} {xs xs' : List Value} (h : w.ownsRow B T k V n xs) (h' : w.ownsRow B' T' k' V' n' xs') (hT : T ≠ T') (e : V.ownBlock = some b) : V'.ownBlock ≠ some b := by
  intro e'
  rcases h.2 with ⟨rfl, _⟩ | ⟨g, cap, cur, rfl, _, hb, _⟩
  · cases e
  · rcases h'.2 with ⟨rfl, _⟩ | ⟨g', cap', cur', rfl, _, hb', _⟩
    · cases e'
    · cases e
      cases e'
      rw [hb] at hb'
      injection hb' with hb'
      injection hb' with _ hb'
      exact hT hb'
/-- Six lists that came out: those from the i-th on as they came, the others as their owner wrote them; none in blocks of others. -/
structure Tryz.Six (off : Nat → Prop) (w : World) (lv gv wv : Nat → Value) (c : Nat → List Cn) (i : Nat) : Prop where
  row : ∀ j, i ≤ j → j < 6 → w.ownsRow 0 39 3 (lv j) (c j).length (cnCells (c j))
  was : ∀ j, j < 6 → Cs w (wv j) (c j)
  don : ∀ j, j < i → Cs w (lv j) (List.replicate (c j).length (mkc j)) ∧ Cs w (gv j) (List.replicate ((c j).length + 12) (mkc j))
  ap1 : ∀ j j', j < 6 → i ≤ j' → j' < 6 → j ≠ j' → ∀ k, (lv j).ownBlock = some k → (lv j').ownBlock ≠ some k
  ap2 : ∀ j j', j < i → i ≤ j' → j' < 6 → ∀ k, (gv j).ownBlock = some k → (lv j').ownBlock ≠ some k
  ap3 : ∀ j j', j < 6 → i ≤ j' → j' < 6 → ∀ k, (wv j).ownBlock = some k → (lv j').ownBlock ≠ some k
  ll : ∀ j, j < 6 → ∀ k, (lv j).ownBlock = some k → k < w.heap.size ∧ ¬ off k
  gl : ∀ j, j < i → ∀ k, (gv j).ownBlock = some k → k < w.heap.size ∧ ¬ off k
  wl : ∀ j, j < 6 → ∀ k, (wv j).ownBlock = some k → k < w.heap.size ∧ ¬ off k
  ol : ∀ k, off k → k < w.heap.size
theorem Tryz.Six.keep {off : Nat → Prop} {w w' : World} {own : Nat → Prop} {lv gv wv : Nat → Value} {c : Nat → List Cn} {i : Nat} (h : Tryz.Six off w lv gv wv c i) (hi : i ≤ 6) (g : Wo own w w') (h1 : ∀ j, j < 6 → ∀ k, (lv j).ownBlock = some k → ¬ own k) (h2 : ∀ j, j < i → ∀ k, (gv j).ownBlock = some k → ¬ own k) (h3 : ∀ j, j < 6 → ∀ k, (wv j).ownBlock = some k → ¬ own k) : Tryz.Six off w' lv gv wv c i := by
  refine ⟨fun j k1 k2 => ?_, fun j k => (h.was j k).keep fun k' e => g.block k' (h.wl j k k' e).1 (h3 j k k' e), fun j k => ⟨(h.don j k).1.keep fun k' e => g.block k' (h.ll j (by omega) k' e).1 (h1 j (by omega) k' e), (h.don j k).2.keep fun k' e => g.block k' (h.gl j k k' e).1 (h2 j k k' e)⟩, h.ap1, h.ap2, h.ap3,
    fun j k k' e => ⟨Nat.lt_of_lt_of_le (h.ll j k k' e).1 g.size, (h.ll j k k' e).2⟩, fun j k k' e => ⟨Nat.lt_of_lt_of_le (h.gl j k k' e).1 g.size, (h.gl j k k' e).2⟩, fun j k k' e => ⟨Nat.lt_of_lt_of_le (h.wl j k k' e).1 g.size, (h.wl j k k' e).2⟩, fun k e => Nat.lt_of_lt_of_le (h.ol k e) g.size⟩
  exact Fd.row_keep (h.row j k1 k2) fun k' e => g.block k' (h.ll j k2 k' e).1 (h1 j k2 k' e)
/-- Where others' blocks turn. -/
theorem Tryz.Six.off {off : Nat → Prop} {w w' : World} {lv gv wv : Nat → Value} {c : Nat → List Cn} {i : Nat} (h : Tryz.Six off w lv gv wv c i) (hi : i ≤ 6) (g : Wo off w w') : Tryz.Six off w' lv gv wv c i := h.keep hi g (fun j k k' e => (h.ll j k k' e).2) (fun j k k' e => (h.gl j k k' e).2) (fun j k k' e => (h.wl j k k' e).2)
theorem Tryz.Six.past {off : Nat → Prop} {w w' : World} {lv gv wv : Nat → Value} {c : Nat → List Cn} {i : Nat} (h : Tryz.Six off w lv gv wv c i) (hi : i ≤ 6) (g : Below w.heap.size w w') : Tryz.Six off w' lv gv wv c i := h.off hi (Wo.ofBelow g)
theorem Tryz.Six.step {off : Nat → Prop} {w w' : World} {lv gv wv : Nat → Value} {c : Nat → List Cn} {i : Nat} (h : Tryz.Six off w lv gv wv c i) (hi : i < 6) {V' : Value} (g : Wo (fun k => (lv i).ownBlock = some k) w w') (h1 : Cs w' (lv i) (List.replicate (c i).length (mkc i))) (h2 : Cs w' V' (List.replicate ((c i).length + 12) (mkc i)))
    (h3 : ∀ k, V'.ownBlock = some k → ((lv i).ownBlock = some k ∨ w.heap.size ≤ k) ∧ k < w'.heap.size) : Tryz.Six off w' lv (fun j => if j = i then V' else gv j) wv c (i + 1) := by
  refine ⟨fun j k1 k2 => ?_, fun j k => (h.was j k).keep fun k' e => g.block k' (h.wl j k k' e).1 (h.ap3 j i k (Nat.le_refl _) hi k' e), fun j k => ?_, fun j j' k1 k2 k3 k4 => h.ap1 j j' k1 (by omega) k3 k4, fun j j' k1 k2 k3 k e => ?_, fun j j' k1 k2 k3 => h.ap3 j j' k1 (by omega) k3,
    fun j k k' e => ⟨Nat.lt_of_lt_of_le (h.ll j k k' e).1 g.size, (h.ll j k k' e).2⟩, fun j k k' e => ?_, fun j k k' e => ⟨Nat.lt_of_lt_of_le (h.wl j k k' e).1 g.size, (h.wl j k k' e).2⟩, fun k e => Nat.lt_of_lt_of_le (h.ol k e) g.size⟩
  · exact Fd.row_keep (h.row j (by omega) k2) fun k' e => g.block k' (h.ll j k2 k' e).1 (h.ap1 j i k2 (Nat.le_refl _) hi (by omega) k' e)
  · by_cases e : j = i
    · subst e
      simp only [if_true]
      exact ⟨h1, h2⟩
    · simp only [if_neg e]
      exact ⟨(h.don j (by omega)).1.keep fun k' e' => g.block k' (h.ll j (by omega) k' e').1 (h.ap1 j i (by omega) (Nat.le_refl _) hi e k' e'), (h.don j (by omega)).2.keep fun k' e' => g.block k' (h.gl j (by omega) k' e').1 (h.ap2 j i (by omega) (Nat.le_refl _) hi k' e')⟩
  · by_cases e' : j = i
    · subst e'
      simp only [if_true] at e
      rcases (h3 k e).1 with e2 | e2
      · exact h.ap1 j j' (by omega) (by omega) k3 (by omega) k e2
      · intro e3
        have := (h.ll j' k3 k e3).1
        omega
    · simp only [if_neg e'] at e
      exact h.ap2 j j' (by omega) (by omega) k3 k e
  · by_cases e' : j = i
    · subst e'
      simp only [if_true] at e
      refine ⟨(h3 k' e).2, ?_⟩
      rcases (h3 k' e).1 with e2 | e2
      · exact (h.ll j hi k' e2).2
      · intro e3
        have := h.ol k' e3
        omega
    · simp only [if_neg e'] at e
      exact ⟨Nat.lt_of_lt_of_le (h.gl j (by omega) k' e).1 g.size, (h.gl j (by omega) k' e).2⟩
/-- One of six. -/
def Fd.six {α : Type} (a b c d e f : α) : Nat → α
  | 0 => a
  | 1 => b
  | 2 => c
  | 3 => d
  | 4 => e
  | _ => f
theorem Fd.six_all {P : Nat → Prop} (h0 : P 0) (h1 : P 1) (h2 : P 2) (h3 : P 3) (h4 : P 4) (h5 : P 5) : ∀ j, j < 6 → P j
  | 0, _ => h0
  | 1, _ => h1
  | 2, _ => h2
  | 3, _ => h3
  | 4, _ => h4
  | 5, _ => h5
  | n + 6, h => by omega
theorem Tryz.Six.init {off : Nat → Prop} {w : World} {lv gv wv : Nat → Value} {c : Nat → List Cn} (t : Nat → Nat) (ht : ∀ i, i < 6 → t i ≤ t (i + 1)) (hr : ∀ j, j < 6 → w.ownsRow 0 39 3 (lv j) (c j).length (cnCells (c j))) (hw : ∀ j, j < 6 → w.ownsRow 0 39 3 (wv j) (c j).length (cnCells (c j)))
    (hl : ∀ j, j < 6 → ∀ k, (lv j).ownBlock = some k → t j ≤ k ∧ k < t (j + 1)) (hwl : ∀ j, j < 6 → ∀ k, (wv j).ownBlock = some k → t 6 ≤ k) (ho : ∀ k, off k → ∃ B T n V xs, T ≠ 39 ∧ w.ownsRow B T 1 V n xs ∧ V.ownBlock = some k) : Tryz.Six off w lv gv wv c 0 := by
  have mono : ∀ d i, i + d ≤ 6 → t i ≤ t (i + d) := by
    intro d
    induction d with
    | zero => intro i _; exact Nat.le_refl _
    | succ d ih => intro i h; exact Nat.le_trans (ih i (by omega)) (ht (i + d) (by omega))
  have mono' : ∀ i j, i ≤ j → j ≤ 6 → t i ≤ t j := fun i j h1 h2 => by
    have := mono (j - i) i (by omega)
    rwa [show i + (j - i) = j by omega] at this
  have hoff : ∀ {n V xs k}, w.ownsRow 0 39 3 V n xs → V.ownBlock = some k → ¬ off k := fun {n V xs k} h1 h2 h3 => by
    obtain ⟨B, T, n', V', xs', hT, h4, h5⟩ := ho k h3
    exact Fd.row_ne h4 h1 hT h5 h2
  refine ⟨fun j _ h => hr j h, fun j h => Cs.ofRow (hw j h), fun j h => by omega, fun j j' h1 _ h2 h3 k e e' => ?_, fun j _ h => by omega, fun j j' h1 _ h2 k e e' => ?_, fun j h k e => ⟨((hr j h).lt k e).2, hoff (hr j h) e⟩, fun j h => by omega, fun j h k e => ⟨((hw j h).lt k e).2, hoff (hw j h) e⟩, fun k e => ?_⟩
  · have a1 := hl j h1 k e
    have a2 := hl j' h2 k e'
    rcases Nat.lt_or_gt_of_ne h3 with h | h
    · have := mono' (j + 1) j' h (by omega); omega
    · have := mono' (j' + 1) j h (by omega); omega
  · have a1 := hwl j h1 k e
    have a2 := hl j' h2 k e'
    have := mono' (j' + 1) 6 (by omega) (Nat.le_refl _)
    omega
  · obtain ⟨B, T, n', V', xs', hT, h4, h5⟩ := ho k e
    exact (h4.lt k h5).2
theorem Tryz.infoLs : (Tryz.prog.info? 22).map (fun i => (i.zero, i.size, i.bytes)) = some (some (.slice none 0 0), 1, 24) := by kernel_rfl
set_option maxRecDepth 20000 in
/-- 'append' of one text, and where the row lies then. -/
theorem Tryz.appTs {ops : Array Oper} {rest : List Oper} {o : Oper} {a : Act} {Q : Exit → Act → World → Prop} (hgd : o.guard = none) (s y : Operand)
    (ho : o.op = .call { callee := .builtin .append, args := #[s, y], argTypes := #[27, 27] })
    {w : World} {V : Value} {n : Nat} {L0 : List ByteArray} {x : ByteArray} {g0 : Nat} (hrow : w.ownsRow 0 9 1 V n (L0.map Value.string)) (hs : a.eval s = V) (hb : w.heap[g0]? = some (.cells #[.string x] 9 (0, 0))) (hy : a.eval y = .slice (some ⟨g0, 0, none⟩) 1 1) (hlen : n + 1 ≤ 4398046511104)
    (hK : ∀ v' w', w'.ownsRow 0 9 1 v' (n + 1) ((L0 ++ [x]).map Value.string) → w.grownBy w' V.ownBlock → (∀ k, v'.ownBlock = some k → V.ownBlock = some k ∨ w.heap.size ≤ k) → wpList Tryz.prog ops Q rest (a.put o.dst v') w') : wpList Tryz.prog ops Q (o :: rest) a w := by
  obtain ⟨i0, hi0, hz0, hz1, hz2⟩ := info_parts Tryz.infoStr
  refine wpList_append_lies w hgd s y 27 ho 0 9 i0 _ 1 16 Tryz.underlying27 hi0 hz0 hz1 hz2 rfl (by omega) V n _ hs hrow ⟨g0, 0, none⟩ 1 1 [.string x] hy rfl (World.news_of_block (cs := #[.string x]) hb) (by simp [Value.oneCell']) (by omega) (by unfold maxLen; omega) (by omega) (Nat.zero_le _) _ rfl ?_
  intro g cap w' h1 h2 h3 h4
  rw [show L0.map Value.string ++ [Value.string x] = (L0 ++ [x]).map Value.string by simp] at h1
  refine hK _ w' h1 h2 fun k e => ?_
  obtain rfl : g = k := by simpa [Value.ownBlock] using e
  rcases h3 with h3 | h3
  · exact .inl h3
  · exact .inr (by omega)
set_option maxRecDepth 20000 in
/-- 'append' of one list to a row of lists, and where the row lies then. -/
theorem Tryz.appLs {ops : Array Oper} {rest : List Oper} {o : Oper} {a : Act} {Q : Exit → Act → World → Prop} (hgd : o.guard = none) (s y : Operand)
    (ho : o.op = .call { callee := .builtin .append, args := #[s, y], argTypes := #[33, 33] })
    {w : World} {V : Value} {n : Nat} {L0 : List Value} {x : Value} {g0 : Nat} (hrow : w.ownsRow 0 22 1 V n L0) (hs : a.eval s = V) (hb : w.heap[g0]? = some (.cells #[x] 22 (0, 0))) (hx1 : x.oneCell' = true) (hy : a.eval y = .slice (some ⟨g0, 0, none⟩) 1 1) (hlen : n + 1 ≤ 4398046511104)
    (hK : ∀ v' w', w'.ownsRow 0 22 1 v' (n + 1) (L0 ++ [x]) → w.grownBy w' V.ownBlock → (∀ k, v'.ownBlock = some k → V.ownBlock = some k ∨ w.heap.size ≤ k) → wpList Tryz.prog ops Q rest (a.put o.dst v') w') : wpList Tryz.prog ops Q (o :: rest) a w := by
  obtain ⟨i0, hi0, hz0, hz1, hz2⟩ := info_parts Tryz.infoLs
  refine wpList_append_lies w hgd s y 33 ho 0 22 i0 _ 1 24 Tryz.underlying33 hi0 hz0 hz1 hz2 rfl (by omega) V n _ hs hrow ⟨g0, 0, none⟩ 1 1 [x] hy rfl (World.news_of_block (cs := #[x]) hb) (by simpa using hx1) (by omega) (by unfold maxLen; omega) (by omega) (Nat.zero_le _) _ rfl ?_
  intro g cap w' h1 h2 h3 h4
  refine hK _ w' h1 h2 fun k e => ?_
  obtain rfl : g = k := by simpa [Value.ownBlock] using e
  rcases h3 with h3 | h3
  · exact .inl h3
  · exact .inr (by omega)
theorem Fd.Ts.nz {w : World} {V : Value} {l : List ByteArray} (h : Ts w V l) : V = .slice none 0 0 ∨ ∃ ad m c, V = .slice (some ad) m c := by
  obtain ⟨ad, cap, rfl, hc, hn, h1⟩ := h.ex
  cases ad with
  | none =>
    have := hn rfl
    subst this
    left
    rw [show l.length = 0 by omega]
  | some a => exact .inr ⟨a, _, _, rfl⟩
theorem Fd.ts_cells {w : World} {ad : Option Addr} {n cap : Nat} {L : List ByteArray} (h : Ts w (.slice ad n cap) L) (a : Addr) (ha : ad = some a) : ∀ (j : Nat) (u : Value), (L.map Value.string)[j]? = some u → w.cell? (a.add j) = some u := by
  intro j u hu
  obtain ⟨ad', cap', e, hc, hn, h1⟩ := h.ex
  injection e with e1 e2 e3
  subst e1 e3
  rcases h1 with rfl | ⟨g, o, eg, hg, h1⟩
  · simp at hu
  · rw [ha] at eg
    injection eg with eg
    subst eg
    rw [Addr.add_mid]
    rw [List.getElem?_map] at hu
    cases hx : L[j]? with
    | none => rw [hx] at hu; cases hu
    | some x =>
      rw [hx] at hu
      cases hu
      exact h1 j x hx
set_option maxRecDepth 20000 in
/-- 'append' of texts. -/
theorem Tryz.appTl {ops : Array Oper} {rest : List Oper} {o : Oper} {a : Act} {Q : Exit → Act → World → Prop} (hgd : o.guard = none) (s y : Operand)
    (ho : o.op = .call { callee := .builtin .append, args := #[s, y], argTypes := #[27, 27] })
    {w : World} {B : Nat} {V Y : Value} {n : Nat} {L0 L1 : List ByteArray} (hrow : w.ownsRow B 9 1 V n (L0.map Value.string)) (hB : B ≤ w.heap.size) (hs : a.eval s = V) (hY : Ts w Y L1) (hy : a.eval y = Y) (hlen : n + L1.length ≤ 4398046511104)
    (hK : ∀ v' w', w'.ownsRow B 9 1 v' (n + L1.length) ((L0 ++ L1).map Value.string) → Below B w w' → wpList Tryz.prog ops Q rest (a.put o.dst v') w') : wpList Tryz.prog ops Q (o :: rest) a w := by
  obtain ⟨i0, hi0, hz0, hz1, hz2⟩ := info_parts Tryz.infoStr
  rcases Fd.Ts.nz hY with rfl | ⟨ad, m, c, rfl⟩
  · obtain ⟨ad, cap, e, h⟩ := hY.ex
    injection e with e1 e2 e3
    have e0 : L1 = [] := List.eq_nil_of_length_eq_zero e2.symm
    subst e0
    refine wpList_append_own_none hgd s y _ ho B 9 i0 1 Tryz.underlying27 hi0 V n _ hs hrow hy (hK V w ?_ (Below.refl _ _))
    rw [List.append_nil]
    exact hrow
  · have hcs := Fd.ts_cells hY ad rfl
    obtain ⟨ad', cap, e, h⟩ := hY.ex
    injection e with e1 e2 e3
    subst e1 e2
    refine wpList_append_own _ hgd s y _ ho B 9 i0 _ 1 16 Tryz.underlying27 hi0 hz0 hz1 hz2 rfl (by omega) V n _ hs hrow ad L1.length c (L1.map Value.string) hy (by simp) hcs (fun u hu => by obtain ⟨x, _, rfl⟩ := List.mem_map.1 hu; rfl) (by unfold maxLen; omega) (by omega) hB ?_
    intro v' w' h1 h2 h3
    rw [← List.map_append] at h1
    exact hK v' w' h1 ((Below.refl B w).grown h2 (by omega) fun k e => (hrow.lt k e).1)
set_option maxRecDepth 20000 in
/-- 'append([]T{}, l...)': a new row. -/
theorem Tryz.appNew {ops : Array Oper} {rest : List Oper} {o : Oper} {a : Act} {Q : Exit → Act → World → Prop} (hgd : o.guard = none) (s y : Operand)
    (ho : o.op = .call { callee := .builtin .append, args := #[s, y], argTypes := #[22, 22] })
    {W : World} {Y : Value} {L1 : List Cn} (hs : a.eval s = .slice (some ⟨W.heap.size, 0, none⟩) 0 0) (hY : Cs W Y L1) (hy : a.eval y = Y) (hlen : L1.length ≤ 4398046511104)
    (hK : ∀ v' w', w'.ownsRow W.heap.size 39 3 v' L1.length (cnCells L1) → Below W.heap.size W w' → wpList Tryz.prog ops Q rest (a.put o.dst v') w') : wpList Tryz.prog ops Q (o :: rest) a (W.alloc (.cells #[] 39)) := by
  have hb : Below W.heap.size W (W.alloc (.cells #[] 39)) := (Below.refl _ W).alloc (Nat.le_refl _) _
  have hmade : (W.alloc (.cells #[] 39)).ownsRow W.heap.size 39 3 (.slice (some ⟨W.heap.size, 0, none⟩) 0 0) 0 (cnCells []) := World.ownsRow_made W #[] 0 (Nat.le_refl _) (by unfold maxLen; omega) (by simp)
  refine Tryz.appCn Tryz.underlying22 hgd s y ho hmade (by simp) hs (hY.past hb) hy (by omega) ?_
  intro v' w' h1 h2
  rw [Nat.zero_add, List.nil_append] at h1
  exact hK v' w' h1 (hb.trans h2)
set_option maxRecDepth 20000 in
theorem Tryz.appNewT {ops : Array Oper} {rest : List Oper} {o : Oper} {a : Act} {Q : Exit → Act → World → Prop} (hgd : o.guard = none) (s y : Operand)
    (ho : o.op = .call { callee := .builtin .append, args := #[s, y], argTypes := #[27, 27] })
    {W : World} {Y : Value} {L1 : List ByteArray} (hs : a.eval s = .slice (some ⟨W.heap.size, 0, none⟩) 0 0) (hY : Ts W Y L1) (hy : a.eval y = Y) (hlen : L1.length ≤ 4398046511104)
    (hK : ∀ v' w', w'.ownsRow W.heap.size 9 1 v' L1.length (L1.map Value.string) → Below W.heap.size W w' → wpList Tryz.prog ops Q rest (a.put o.dst v') w') : wpList Tryz.prog ops Q (o :: rest) a (W.alloc (.cells #[] 9)) := by
  have hb : Below W.heap.size W (W.alloc (.cells #[] 9)) := (Below.refl _ W).alloc (Nat.le_refl _) _
  have hmade : (W.alloc (.cells #[] 9)).ownsRow W.heap.size 9 1 (.slice (some ⟨W.heap.size, 0, none⟩) 0 0) 0 (([] : List ByteArray).map Value.string) := World.ownsRow_made W #[] 0 (Nat.le_refl _) (by unfold maxLen; omega) (by simp)
  refine Tryz.appTl hgd s y ho hmade (by simp) hs (hY.past hb) hy (by omega) ?_
  intro v' w' h1 h2
  rw [Nat.zero_add, List.nil_append] at h1
  exact hK v' w' h1 (hb.trans h2)
end Go.Proofs
namespace Go.Fd
open Go.Sort
theorem bl_trans : ∀ x y z : List UInt8, Op.bytesLess x y = true → Op.bytesLess y z = true → Op.bytesLess x z = true
  | _, [], _, h, _ => by cases ‹List UInt8› <;> simp [Op.bytesLess] at h
  | _, _ :: _, [], _, h => by simp [Op.bytesLess] at h
  | [], _ :: _, _ :: _, _, _ => rfl
  | a :: x, b :: y, c :: z, h1, h2 => by
    simp only [Op.bytesLess, Bool.or_eq_true, decide_eq_true_eq, Bool.and_eq_true, beq_iff_eq] at h1 h2 ⊢
    rcases h1 with h1 | ⟨rfl, h1⟩
    · rcases h2 with h2 | ⟨rfl, h2⟩
      · exact .inl (UInt8.lt_trans h1 h2)
      · exact .inl h1
    · rcases h2 with h2 | ⟨rfl, h2⟩
      · exact .inl h2
      · exact .inr ⟨rfl, bl_trans x y z h1 h2⟩
theorem bl_tot : ∀ x y : List UInt8, Op.bytesLess x y = false → Op.bytesLess y x = false → x = y
  | [], [], _, _ => rfl
  | [], _ :: _, h, _ => by simp [Op.bytesLess] at h
  | _ :: _, [], _, h => by simp [Op.bytesLess] at h
  | a :: x, b :: y, h1, h2 => by
    simp only [Op.bytesLess, Bool.or_eq_false_iff, decide_eq_false_iff_not, Bool.and_eq_false_iff, beq_eq_false_iff_ne] at h1 h2
    have e : a = b := by
      have g1 := h1.1
      have g2 := h2.1
      rw [UInt8.lt_iff_toNat_lt] at g1 g2
      exact UInt8.toNat_inj.1 (by omega)
    subst e
    rw [bl_tot x y (h1.2.resolve_left (by simp)) (h2.2.resolve_left (by simp))]
/-- One text is ahead of another. -/
def lr (a b : ByteArray) : Bool := Op.bytesLess a.toList b.toList
theorem lr_irr (a : ByteArray) : lr a a = false := less_self _
theorem lr_trans {a b c : ByteArray} (h : lr a b = true) (g : lr b c = true) : lr a c = true := bl_trans _ _ _ h g
theorem lr_tot {a b : ByteArray} (h : lr a b = false) (g : lr b a = false) : a = b := toList_inj (bl_tot _ _ h g)
theorem lr_asym {a b : ByteArray} (h : lr a b = true) : lr b a = false := by
  cases e : lr b a with
  | false => rfl
  | true =>
    have := lr_trans h e
    rw [lr_irr] at this
    cases this
theorem lr_ne {a b : ByteArray} (h : lr a b = true) : a ≠ b := by
  rintro rfl
  rw [lr_irr] at h
  cases h
theorem cmpS_neg {a b : ByteArray} : cmpS a b < 0 ↔ lr a b = true := by
  unfold cmpS lr
  split
  · rename_i h
    simp [h]
  · rename_i h
    split
    · simp [h]
    · simp [h]
theorem cmpS_pos {a b : ByteArray} : cmpS a b > 0 ↔ lr b a = true := by
  constructor
  · intro h
    have h1 : ¬ cmpS a b < 0 := by omega
    have h2 : ¬ cmpS a b = 0 := by omega
    rw [cmpS_neg] at h1
    cases e : lr b a with
    | true => rfl
    | false => exact absurd (cmpS_eq.2 (lr_tot (by simpa using h1) e)) h2
  · intro h
    have h1 : ¬ cmpS a b < 0 := by rw [cmpS_neg, lr_asym h]; simp
    have h2 : ¬ cmpS a b = 0 := by rw [cmpS_eq]; exact (lr_ne h).symm
    omega
theorem ltR_is (x y : Cn) : Go.Proofs.Fd.ltR x y = lr x.room y.room := by
  show decide (cnC x y < 0) = _
  unfold cnC
  cases e : lr x.room y.room with
  | true => exact decide_eq_true (cmpS_neg.2 e)
  | false => exact decide_eq_false (by rw [cmpS_neg, e]; simp)
theorem swoR : SWO Go.Proofs.Fd.ltR :=
  ⟨fun x => by rw [ltR_is]; exact lr_irr _, fun x y z h1 h2 => by rw [ltR_is] at *; exact lr_trans h1 h2, fun x y z h1 h2 => by
    rw [ltR_is] at *
    cases e : lr x.room z.room with
    | false => rfl
    | true =>
      exfalso
      cases e1 : lr y.room x.room with
      | true =>
        have := lr_trans e1 e
        rw [h2] at this
        cases this
      | false =>
        rw [lr_tot h1 e1] at e
        rw [h2] at e
        cases e⟩
/-- The last one of a room. -/
def lk : List Cn → ByteArray → Option Cn
  | [], _ => none
  | x :: l, r => match lk l r with
    | some c => some c
    | none => if x.room = r then some x else none
theorem lk_filter (r : ByteArray) : ∀ l : List Cn, lk l r = (l.filter fun c => decide (c.room = r)).getLast?
  | [] => rfl
  | x :: l => by
    have ih := lk_filter r l
    unfold lk
    rw [ih]
    by_cases h : x.room = r
    · rw [List.filter_cons_of_pos (by simpa using h), List.getLast?_cons]
      cases (l.filter fun c => decide (c.room = r)).getLast? with
      | none => simp [h]
      | some c => simp
    · rw [List.filter_cons_of_neg (by simpa using h)]
      cases (l.filter fun c => decide (c.room = r)).getLast? with
      | none => simp [h]
      | some c => simp
/-- By rising rooms. -/
def Rise (l : List Cn) : Prop := l.Pairwise fun x y => lr x.room y.room = true
theorem lk_some {r : ByteArray} : ∀ {l : List Cn} {z : Cn}, lk l r = some z → z ∈ l ∧ z.room = r
  | [], z, h => by cases h
  | x :: l, z, h => by
    unfold lk at h
    cases e : lk l r with
    | some c =>
      rw [e] at h
      cases h
      obtain ⟨h1, h2⟩ := lk_some e
      exact ⟨List.mem_cons_of_mem _ h1, h2⟩
    | none =>
      rw [e] at h
      by_cases hx : x.room = r
      · simp only [if_pos hx] at h
        cases h
        exact ⟨List.mem_cons_self, hx⟩
      · simp [hx] at h
theorem lk_none {r : ByteArray} : ∀ {l : List Cn}, lk l r = none → ∀ z ∈ l, z.room ≠ r
  | [], _, z, hz => by cases hz
  | x :: l, h, z, hz => by
    unfold lk at h
    cases e : lk l r with
    | some c => rw [e] at h; cases h
    | none =>
      rw [e] at h
      rcases List.mem_cons.1 hz with rfl | hz
      · intro hx; simp [hx] at h
      · exact lk_none e z hz
theorem Rise.one {l : List Cn} (h : Rise l) {x y : Cn} (hx : x ∈ l) (hy : y ∈ l) (e : x.room = y.room) : x = y := by
  induction l with
  | nil => cases hx
  | cons a l ih =>
    obtain ⟨h1, h2⟩ := List.pairwise_cons.1 h
    rcases List.mem_cons.1 hx with e1 | hx'
    · rcases List.mem_cons.1 hy with e2 | hy'
      · rw [e1, e2]
      · rw [e1] at e
        exact absurd e (lr_ne (h1 y hy'))
    · rcases List.mem_cons.1 hy with e2 | hy'
      · rw [e2] at e
        exact absurd e.symm (lr_ne (h1 x hx'))
      · exact ih h2 hx' hy'
theorem Rise.lk {l : List Cn} (h : Rise l) {z : Cn} (hz : z ∈ l) : lk l z.room = some z := by
  cases e : Fd.lk l z.room with
  | none => exact absurd rfl (lk_none e z hz)
  | some c =>
    obtain ⟨h1, h2⟩ := lk_some e
    rw [h.one h1 hz h2]
/-- Lists by rising rooms that have the same things are the same. -/
theorem Rise.ext : ∀ {a b : List Cn}, Rise a → Rise b → (∀ z, z ∈ a ↔ z ∈ b) → a = b
  | [], [], _, _, _ => rfl
  | [], y :: b, _, _, h => by have := (h y).2 List.mem_cons_self; cases this
  | x :: a, [], _, _, h => by have := (h x).1 List.mem_cons_self; cases this
  | x :: a, y :: b, ha, hb, h => by
    obtain ⟨a1, a2⟩ := List.pairwise_cons.1 ha
    obtain ⟨b1, b2⟩ := List.pairwise_cons.1 hb
    have e : x = y := by
      rcases List.mem_cons.1 ((h x).1 List.mem_cons_self) with e | e
      · exact e
      · rcases List.mem_cons.1 ((h y).2 List.mem_cons_self) with e' | e'
        · exact e'.symm
        · have g1 := b1 x e
          have g2 := a1 y e'
          rw [lr_asym g1] at g2
          cases g2
    subst e
    rw [Rise.ext a2 b2 fun z => ?_]
    constructor
    · intro hz
      rcases List.mem_cons.1 ((h z).1 (List.mem_cons_of_mem _ hz)) with e | e
      · subst e
        have := a1 z hz
        rw [lr_irr] at this
        cases this
      · exact e
    · intro hz
      rcases List.mem_cons.1 ((h z).2 (List.mem_cons_of_mem _ hz)) with e | e
      · subst e
        have := b1 z hz
        rw [lr_irr] at this
        cases this
      · exact e
/-- Of those that are alike and stand together the last one. -/
def lastR : List Cn → List Cn
  | [] => []
  | [x] => [x]
  | x :: y :: r => if cnC x y ≠ 0 then x :: lastR (y :: r) else lastR (y :: r)
theorem lastN_R (l : List Cn) : ∀ i, i ≤ l.length → lastN l i ++ lastR (l.drop i) = lastR l
  | 0, _ => by simp [lastN]
  | i + 1, h => by
    rw [← lastN_R l i (by omega), List.drop_eq_getElem_cons (show i < l.length by omega)]
    have hN : lastN l (i + 1) = if i + 1 = l.length ∨ cnC l[i]! l[i + 1]! ≠ 0 then lastN l i ++ [l[i]!] else lastN l i := rfl
    rw [hN]
    have hi : l[i]! = l[i] := getElem!_pos l i (by omega)
    by_cases c : i + 1 = l.length
    · rw [if_pos (.inl c), List.drop_eq_nil_of_le (by omega)]
      simp [lastR, hi]
    · have h2 : i + 1 < l.length := by omega
      have hi2 : l[i + 1]! = l[i + 1] := getElem!_pos l (i + 1) h2
      rw [List.drop_eq_getElem_cons h2]
      by_cases c2 : cnC l[i]! l[i + 1]! ≠ 0
      · rw [if_pos (.inr c2)]
        rw [hi, hi2] at c2
        rw [lastR.eq_3, if_pos c2]
        simp [hi]
      · rw [if_neg (by intro e; rcases e with e | e; exact c e; exact c2 e)]
        rw [hi, hi2] at c2
        rw [lastR.eq_3, if_neg c2]
theorem lastE_R (l : List Cn) : lastE l = lastR l := by
  have := lastN_R l l.length (Nat.le_refl _)
  rw [List.drop_length] at this
  simpa [lastE, lastR] using this
theorem lastR_sub : ∀ l : List Cn, ∀ z ∈ lastR l, z ∈ l
  | [], z, h => h
  | [x], z, h => h
  | x :: y :: r, z, h => by
    rw [lastR.eq_3] at h
    split at h
    · rcases List.mem_cons.1 h with rfl | h
      · exact List.mem_cons_self
      · exact List.mem_cons_of_mem _ (lastR_sub (y :: r) z h)
    · exact List.mem_cons_of_mem _ (lastR_sub (y :: r) z h)
theorem lastR_ok : ∀ l : List Cn, (l.Pairwise fun x y => lr y.room x.room = false) → Rise (lastR l) ∧ ∀ r, lk (lastR l) r = lk l r
  | [], _ => ⟨List.Pairwise.nil, fun _ => rfl⟩
  | [x], _ => ⟨List.pairwise_singleton _ _, fun _ => rfl⟩
  | x :: y :: t, h => by
    obtain ⟨h1, h2⟩ := List.pairwise_cons.1 h
    obtain ⟨i1, i2⟩ := lastR_ok (y :: t) h2
    rw [lastR.eq_3]
    split
    · rename_i c
      refine ⟨List.pairwise_cons.2 ⟨fun z hz => ?_, i1⟩, fun r => ?_⟩
      · have hz' := lastR_sub _ z hz
        have hxy : lr x.room y.room = true := by
          cases e : lr x.room y.room with
          | true => rfl
          | false => exact absurd (cmpS_eq.2 (lr_tot e (h1 y List.mem_cons_self))) c
        cases e : lr x.room z.room with
        | true => rfl
        | false =>
          have hzy : lr z.room y.room = true := by rw [← lr_tot e (h1 z hz')]; exact hxy
          rcases List.mem_cons.1 hz' with rfl | hz2
          · rw [lr_irr] at hzy; cases hzy
          · rw [(List.pairwise_cons.1 h2).1 z hz2] at hzy; cases hzy
      · unfold lk
        rw [i2 r]
    · rename_i c
      refine ⟨i1, fun r => ?_⟩
      have hxy : x.room = y.room := by
        have : cnC x y = 0 := by simpa using c
        exact cmpS_eq.1 this
      rw [i2 r]
      conv => rhs; unfold lk
      cases e : lk (y :: t) r with
      | some c => rfl
      | none =>
        have := lk_none e y List.mem_cons_self
        rw [hxy]
        simp [this]
theorem stab_sorted (l : List Cn) : (stab l).Pairwise fun x y => lr y.room x.room = false := by
  have h := (stabA_ok swoR l.toArray).2
  rw [List.pairwise_iff_getElem]
  intro i j hi hj hij
  have hs : (stabA Go.Proofs.Fd.ltR l.toArray).size = l.length := by rw [stabA_sz]; simp
  have hl : (stab l).length = l.length := stab_len l
  have := h i j (Nat.zero_le _) hij (by simp; omega)
  rw [ltR_is] at this
  rw [getElem!_pos _ i (by rw [hs]; omega), getElem!_pos _ j (by rw [hs]; omega)] at this
  simpa [stab] using this
theorem stab_lk (l : List Cn) (r : ByteArray) : lk (stab l) r = lk l r := by
  rw [lk_filter, lk_filter]
  have := (stabA_ok swoR l.toArray).1 (fun c => decide (c.room = r)) (fun x y hx hy => by
    rw [ltR_is]
    have h1 : x.room = r := by simpa using hx
    have h2 : y.room = r := by simpa using hy
    rw [h1, h2]
    exact lr_irr r)
  have e : stab l = (stabA Go.Proofs.Fd.ltR l.toArray).toList := rfl
  rw [e, this]
/-- What a sheet is. -/
theorem sheet_rise (l : List Cn) : Rise (sheet l) := by
  unfold sheet
  rw [lastE_R]
  exact (lastR_ok _ (stab_sorted l)).1
theorem sheet_lk (l : List Cn) (r : ByteArray) : lk (sheet l) r = lk l r := by
  unfold sheet
  rw [lastE_R, (lastR_ok _ (stab_sorted l)).2, stab_lk]
theorem mem_sheet {l : List Cn} {z : Cn} : z ∈ sheet l ↔ lk l z.room = some z := by
  rw [← sheet_lk]
  exact ⟨fun h => (sheet_rise l).lk h, fun h => (lk_some h).1⟩
theorem sheet_self {l : List Cn} (h : Rise l) : sheet l = l := (sheet_rise l).ext h fun z => by
  rw [mem_sheet]
  exact ⟨fun h => (lk_some h).1, fun hz => h.lk hz⟩
end Go.Fd
namespace Go.Fd
open Go.Sort
/-- What is asked of a comparison where one goes through two lists. -/
structure Cf {β : Type} (cf : Cn → β → Int) (ord : β → β → Prop) : Prop where
  up : ∀ x x' y, cf x y > 0 → lr x.room x'.room = true → cf x' y ≠ 0
  dn : ∀ x y y', cf x y < 0 → ord y y' → cf x y' ≠ 0
theorem mem_skip {cf : Cn → Cn → Int} {x : Cn} : ∀ {o : List Cn} {y : Cn}, y ∈ o → y ∈ skip cf x o ∨ cf x y > 0
  | a :: o, y, h => by
    unfold skip
    split
    · rename_i c
      rcases List.mem_cons.1 h with rfl | h
      · exact .inr c
      · exact mem_skip h
    · exact .inl h
theorem skip_sub {cf : Cn → Cn → Int} {x : Cn} : ∀ o : List Cn, (skip cf x o).Sublist o
  | [] => List.Sublist.refl _
  | a :: o => by
    unfold skip
    split
    · exact (skip_sub o).cons a
    · exact List.Sublist.refl _
theorem skip_head {cf : Cn → Cn → Int} {x : Cn} : ∀ {o : List Cn} {y : Cn} {r : List Cn}, skip cf x o = y :: r → ¬ cf x y > 0
  | [], y, r, h => by cases h
  | a :: o, y, r, h => by
    unfold skip at h
    split at h
    · exact skip_head h
    · rename_i c
      cases h
      exact c
theorem wout_sub (cf : Cn → Cn → Int) : ∀ l o : List Cn, (wout cf l o).Sublist l
  | [], _ => List.Sublist.refl _
  | x :: l, o => by
    unfold wout
    split
    · exact (wout_sub cf l []).cons_cons x
    · split
      · exact (wout_sub cf l _).cons_cons x
      · exact (wout_sub cf l _).cons x
theorem mem_wout {cf : Cn → Cn → Int} {ord : Cn → Cn → Prop} (hc : Cf cf ord) : ∀ (l o : List Cn), Rise l → o.Pairwise ord → ∀ z, z ∈ wout cf l o ↔ z ∈ l ∧ ∀ y ∈ o, cf z y ≠ 0
  | [], o, _, _, z => by simp [wout]
  | x :: l, o, hl, ho, z => by
    obtain ⟨l1, l2⟩ := List.pairwise_cons.1 hl
    have tail : ∀ z ∈ l, (∀ y ∈ o, cf z y ≠ 0) ↔ ∀ y ∈ skip cf x o, cf z y ≠ 0 := fun z hz => by
      constructor
      · intro h y hy
        exact h y ((skip_sub o).subset hy)
      · intro h y hy
        rcases mem_skip (cf := cf) (x := x) hy with h1 | h1
        · exact h y h1
        · exact hc.up x z y h1 (l1 z hz)
    have hso : (skip cf x o).Pairwise ord := ho.sublist (skip_sub o)
    have ih := mem_wout hc l (skip cf x o) l2 hso z
    have head : (∀ y ∈ o, cf x y ≠ 0) ↔ ∀ y ∈ skip cf x o, cf x y ≠ 0 := by
      constructor
      · intro h y hy
        exact h y ((skip_sub o).subset hy)
      · intro h y hy
        rcases mem_skip (cf := cf) (x := x) hy with h1 | h1
        · exact h y h1
        · omega
    unfold wout
    split
    · rename_i e
      rw [e] at ih tail head
      rw [List.mem_cons, ih, List.mem_cons]
      constructor
      · rintro (rfl | ⟨h1, h2⟩)
        · exact ⟨.inl rfl, head.2 (fun y hy => by cases hy)⟩
        · exact ⟨.inr h1, (tail z h1).2 h2⟩
      · rintro ⟨rfl | h1, h2⟩
        · exact .inl rfl
        · exact .inr ⟨h1, (tail z h1).1 h2⟩
    · rename_i y r e
      have hy := skip_head e
      rw [e] at ih tail head hso
      split
      · rename_i c
        rw [List.mem_cons, ih, List.mem_cons]
        have hx : ∀ y' ∈ y :: r, cf x y' ≠ 0 := fun y' hy' => by
          rcases List.mem_cons.1 hy' with e' | hy'
          · rw [e']; exact c
          · exact hc.dn x y y' (by omega) ((List.pairwise_cons.1 hso).1 y' hy')
        constructor
        · rintro (rfl | ⟨h1, h2⟩)
          · exact ⟨.inl rfl, head.2 hx⟩
          · exact ⟨.inr h1, (tail z h1).2 h2⟩
        · rintro ⟨rfl | h1, h2⟩
          · exact .inl rfl
          · exact .inr ⟨h1, (tail z h1).1 h2⟩
      · rename_i c
        rw [ih, List.mem_cons]
        constructor
        · rintro ⟨h1, h2⟩
          exact ⟨.inr h1, (tail z h1).2 h2⟩
        · rintro ⟨rfl | h1, h2⟩
          · exact absurd (head.1 h2 y List.mem_cons_self) c
          · exact ⟨h1, (tail z h1).1 h2⟩
theorem mem_skipT {cf : Cn → ByteArray → Int} {x : Cn} : ∀ {o : List ByteArray} {y : ByteArray}, y ∈ o → y ∈ skipT cf x o ∨ cf x y > 0
  | a :: o, y, h => by
    unfold skipT
    split
    · rename_i c
      rcases List.mem_cons.1 h with rfl | h
      · exact .inr c
      · exact mem_skipT h
    · exact .inl h
theorem skipT_sub {cf : Cn → ByteArray → Int} {x : Cn} : ∀ o : List ByteArray, (skipT cf x o).Sublist o
  | [] => List.Sublist.refl _
  | a :: o => by
    unfold skipT
    split
    · exact (skipT_sub o).cons a
    · exact List.Sublist.refl _
theorem skipT_head {cf : Cn → ByteArray → Int} {x : Cn} : ∀ {o : List ByteArray} {y : ByteArray} {r : List ByteArray}, skipT cf x o = y :: r → ¬ cf x y > 0
  | [], y, r, h => by cases h
  | a :: o, y, r, h => by
    unfold skipT at h
    split at h
    · exact skipT_head h
    · rename_i c
      cases h
      exact c
theorem woutT_sub (cf : Cn → ByteArray → Int) : ∀ (l : List Cn) (o : List ByteArray), (woutT cf l o).Sublist l
  | [], _ => List.Sublist.refl _
  | x :: l, o => by
    unfold woutT
    split
    · exact (woutT_sub cf l []).cons_cons x
    · split
      · exact (woutT_sub cf l _).cons_cons x
      · exact (woutT_sub cf l _).cons x
theorem mem_woutT {cf : Cn → ByteArray → Int} {ord : ByteArray → ByteArray → Prop} (hc : Cf cf ord) : ∀ (l : List Cn) (o : List ByteArray), Rise l → o.Pairwise ord → ∀ z, z ∈ woutT cf l o ↔ z ∈ l ∧ ∀ y ∈ o, cf z y ≠ 0
  | [], o, _, _, z => by simp [woutT]
  | x :: l, o, hl, ho, z => by
    obtain ⟨l1, l2⟩ := List.pairwise_cons.1 hl
    have tail : ∀ z ∈ l, (∀ y ∈ o, cf z y ≠ 0) ↔ ∀ y ∈ skipT cf x o, cf z y ≠ 0 := fun z hz => by
      constructor
      · intro h y hy
        exact h y ((skipT_sub o).subset hy)
      · intro h y hy
        rcases mem_skipT (cf := cf) (x := x) hy with h1 | h1
        · exact h y h1
        · exact hc.up x z y h1 (l1 z hz)
    have hso : (skipT cf x o).Pairwise ord := ho.sublist (skipT_sub o)
    have ih := mem_woutT hc l (skipT cf x o) l2 hso z
    have head : (∀ y ∈ o, cf x y ≠ 0) ↔ ∀ y ∈ skipT cf x o, cf x y ≠ 0 := by
      constructor
      · intro h y hy
        exact h y ((skipT_sub o).subset hy)
      · intro h y hy
        rcases mem_skipT (cf := cf) (x := x) hy with h1 | h1
        · exact h y h1
        · omega
    unfold woutT
    split
    · rename_i e
      rw [e] at ih tail head
      rw [List.mem_cons, ih, List.mem_cons]
      constructor
      · rintro (rfl | ⟨h1, h2⟩)
        · exact ⟨.inl rfl, head.2 (fun y hy => by cases hy)⟩
        · exact ⟨.inr h1, (tail z h1).2 h2⟩
      · rintro ⟨rfl | h1, h2⟩
        · exact .inl rfl
        · exact .inr ⟨h1, (tail z h1).1 h2⟩
    · rename_i y r e
      have hy := skipT_head e
      rw [e] at ih tail head hso
      split
      · rename_i c
        rw [List.mem_cons, ih, List.mem_cons]
        have hx : ∀ y' ∈ y :: r, cf x y' ≠ 0 := fun y' hy' => by
          rcases List.mem_cons.1 hy' with e' | hy'
          · rw [e']; exact c
          · exact hc.dn x y y' (by omega) ((List.pairwise_cons.1 hso).1 y' hy')
        constructor
        · rintro (rfl | ⟨h1, h2⟩)
          · exact ⟨.inl rfl, head.2 hx⟩
          · exact ⟨.inr h1, (tail z h1).2 h2⟩
        · rintro ⟨rfl | h1, h2⟩
          · exact .inl rfl
          · exact .inr ⟨h1, (tail z h1).1 h2⟩
      · rename_i c
        rw [ih, List.mem_cons]
        constructor
        · rintro ⟨h1, h2⟩
          exact ⟨.inr h1, (tail z h1).2 h2⟩
        · rintro ⟨rfl | h1, h2⟩
          · exact absurd (head.1 h2 y List.mem_cons_self) c
          · exact ⟨h1, (tail z h1).1 h2⟩
theorem cnC_cf : Cf cnC fun x y => lr x.room y.room = true :=
  ⟨fun x x' y h1 h2 h3 => by
    have e := cmpS_eq.1 h3
    rw [e] at h2
    have := lr_trans (cmpS_pos.1 h1) h2
    rw [lr_irr] at this
    exact absurd this (by simp), fun x y y' h1 h2 h3 => by
    have e := cmpS_eq.1 h3
    rw [← e] at h2
    have := lr_trans (cmpS_neg.1 h1) h2
    rw [lr_irr] at this
    exact absurd this (by simp)⟩
theorem cmpN_cf : Cf cmpN fun x y => lr y x = false :=
  ⟨fun x x' y h1 h2 h3 => by
    have e := cmpS_eq.1 h3
    rw [e] at h2
    have := lr_trans (cmpS_pos.1 h1) h2
    rw [lr_irr] at this
    exact absurd this (by simp), fun x y y' h1 h2 h3 => by
    have e := cmpS_eq.1 h3
    rw [← e] at h2
    rw [cmpS_neg.1 h1] at h2
    exact absurd h2 (by simp)⟩
theorem cnAll_zero {x y : Cn} : cnAll x y = 0 ↔ x = y := by
  constructor
  · intro h
    unfold cnAll at h
    split at h
    · rename_i c; exact absurd h c
    · rename_i c
      split at h
      · rename_i c2; exact absurd h c2
      · rename_i c2
        have e1 : x.room = y.room := cmpS_eq.1 (by simpa using c)
        have e2 : x.un = y.un := cmpI_eq.1 (by simpa using c2)
        have e3 : x.hi = y.hi := cmpI_eq.1 h
        cases x; cases y
        simp_all
  · rintro rfl
    unfold cnAll
    rw [if_neg (by rw [cmpS_self]; simp), if_neg (by rw [cmpI_eq.2 rfl]; simp)]
    exact cmpI_eq.2 rfl
theorem cnAll_room {x y : Cn} (h : x.room ≠ y.room) : cnAll x y = cmpS x.room y.room := by
  unfold cnAll
  rw [if_pos (fun e => h (cmpS_eq.1 e))]
theorem cnAll_cf : Cf cnAll fun x y => lr x.room y.room = true :=
  ⟨fun x x' y h1 h2 h3 => by
    have e := cnAll_zero.1 h3
    subst e
    rw [cnAll_room (lr_ne h2)] at h1
    have h4 := cmpS_pos.1 h1
    rw [lr_asym h2] at h4
    exact absurd h4 (by simp), fun x y y' h1 h2 h3 => by
    have e := cnAll_zero.1 h3
    subst e
    rw [cnAll_room (lr_ne h2).symm, cmpS_neg, lr_asym h2] at h1
    exact absurd h1 (by simp)⟩
/-- What has changed, what is gone. -/
theorem mem_changed {A B : List Cn} (hA : Rise A) (hB : Rise B) (z : Cn) : z ∈ changed B A ↔ z ∈ B ∧ z ∉ A := by
  unfold changed
  rw [mem_wout cnAll_cf B A hB hA z]
  refine and_congr_right fun _ => ⟨fun h hz => h z hz (cnAll_zero.2 rfl), fun h y hy e => ?_⟩
  rw [cnAll_zero.1 e] at h
  exact h hy
theorem changed_rise {A B : List Cn} (hB : Rise B) : Rise (changed B A) := hB.sublist (wout_sub _ _ _)
theorem mem_gone {A B : List Cn} (hA : Rise A) (hB : Rise B) (r : ByteArray) : r ∈ goneL B A ↔ ∃ y ∈ A, y.room = r ∧ ∀ b ∈ B, b.room ≠ r := by
  unfold goneL
  rw [List.mem_map]
  constructor
  · rintro ⟨y, hy, rfl⟩
    obtain ⟨h1, h2⟩ := (mem_wout cnC_cf A B hA hB y).1 hy
    exact ⟨y, h1, rfl, fun b hb e => h2 b hb (cmpS_eq.2 e.symm)⟩
  · rintro ⟨y, hy, rfl, h⟩
    exact ⟨y, (mem_wout cnC_cf A B hA hB y).2 ⟨hy, fun b hb e => h b hb (cmpS_eq.1 e).symm⟩, rfl⟩
theorem low_app (x : Cn) : ∀ l, lowT cnC x l ++ lowD cnC x l = l
  | [] => rfl
  | y :: r => by
    unfold lowT lowD
    split
    · rw [List.cons_append, low_app x r]
    · rfl
theorem lowT_lt (x : Cn) : ∀ l, ∀ z ∈ lowT cnC x l, lr z.room x.room = true
  | [], z, h => by cases h
  | y :: r, z, h => by
    unfold lowT at h
    split at h
    · rename_i c
      rcases List.mem_cons.1 h with rfl | h
      · exact cmpS_neg.1 c
      · exact lowT_lt x r z h
    · cases h
theorem lowD_gt (x : Cn) : ∀ l, Rise l → (∀ z ∈ l, z.room ≠ x.room) → ∀ z ∈ lowD cnC x l, lr x.room z.room = true
  | [], _, _, z, h => by cases h
  | y :: r, hr, hn, z, h => by
    unfold lowD at h
    split at h
    · exact lowD_gt x r (List.pairwise_cons.1 hr).2 (fun z hz => hn z (List.mem_cons_of_mem _ hz)) z h
    · rename_i c
      have hy : lr x.room y.room = true := by
        cases e : lr x.room y.room with
        | true => rfl
        | false =>
          cases e2 : lr y.room x.room with
          | true => exact absurd (cmpS_neg.2 e2) c
          | false => exact absurd (lr_tot e2 e) (hn y List.mem_cons_self)
      rcases List.mem_cons.1 h with rfl | h
      · exact hy
      · exact lr_trans hy ((List.pairwise_cons.1 hr).1 z h)
theorem mem_mer : ∀ (u l : List Cn) (z : Cn), z ∈ mer cnC l u ↔ z ∈ l ∨ z ∈ u
  | [], l, z => by simp [mer]
  | x :: u, l, z => by
    simp only [mer, List.mem_append, List.mem_cons, mem_mer u]
    conv => rhs; rw [← low_app x l, List.mem_append]
    constructor
    · rintro (h | h | h | h)
      · exact .inl (.inl h)
      · exact .inr (.inl h)
      · exact .inl (.inr h)
      · exact .inr (.inr h)
    · rintro ((h | h) | h | h)
      · exact .inl h
      · exact .inr (.inr (.inl h))
      · exact .inr (.inl h)
      · exact .inr (.inr (.inr h))
theorem mer_rise : ∀ (u l : List Cn), Rise l → Rise u → (∀ x ∈ l, ∀ y ∈ u, x.room ≠ y.room) → Rise (mer cnC l u)
  | [], l, hl, _, _ => by simpa [mer] using hl
  | x :: u, l, hl, hu, hn => by
    obtain ⟨u1, u2⟩ := List.pairwise_cons.1 hu
    have hl' := hl
    rw [← low_app x l] at hl'
    obtain ⟨p1, p2, p3⟩ := List.pairwise_append.1 hl'
    have hD := lowD_gt x l hl (fun z hz => hn z hz x List.mem_cons_self)
    have hsub : ∀ z ∈ lowD cnC x l, z ∈ l := fun z hz => by rw [← low_app x l]; exact List.mem_append_right _ hz
    have hm : ∀ z ∈ mer cnC (lowD cnC x l) u, lr x.room z.room = true := fun z hz => by
      rcases (mem_mer u _ z).1 hz with h | h
      · exact hD z h
      · exact u1 z h
    simp only [mer]
    refine List.pairwise_append.2 ⟨p1, List.pairwise_cons.2 ⟨hm, mer_rise u _ p2 u2 fun a ha b hb => hn a (hsub a ha) b (List.mem_cons_of_mem _ hb)⟩, fun a ha b hb => ?_⟩
    have h1 := lowT_lt x l a ha
    rcases List.mem_cons.1 hb with rfl | hb
    · exact h1
    · exact lr_trans h1 (hm b hb)
theorem sortT_mem (l : List ByteArray) (r : ByteArray) : r ∈ sortT l ↔ r ∈ l := by
  unfold sortT
  rw [List.mem_map]
  constructor
  · rintro ⟨x, hx, rfl⟩
    obtain ⟨b, hb, rfl⟩ := List.mem_map.1 ((List.mergeSort_perm _ _).mem_iff.1 hx)
    rw [asB_asL]
    exact hb
  · intro h
    exact ⟨asL r, (List.mergeSort_perm _ _).mem_iff.2 (List.mem_map.2 ⟨r, h, rfl⟩), asB_asL r⟩
theorem sortT_sorted (l : List ByteArray) : (sortT l).Pairwise fun x y => lr y x = false := by
  unfold sortT
  rw [List.pairwise_map]
  have h := List.pairwise_mergeSort (le := fun x y : List UInt8 => decide (x ≤ y)) (fun a b c h1 h2 => by
    simp only [decide_eq_true_eq] at *
    exact List.le_trans h1 h2) (fun a b => by
    simp only [Bool.or_eq_true, decide_eq_true_eq]
    exact List.le_total a b) (l.map asL)
  refine h.imp fun {a b} hab => ?_
  have hab' : a ≤ b := by simpa using hab
  have e : ∀ x : List UInt8, (asB x).toList = x := fun x => by rw [ByteArray.toList_eq]; simp [asB]
  show Op.bytesLess (asB b).toList (asB a).toList = false
  rw [e, e, Go.Proofs.bytesLess_eq]
  exact decide_eq_false (by simpa using hab')
/-- What Fold makes. -/
theorem fold_rise (la lc : List Cn) (lg : List ByteArray) : Rise (foldP la lc lg) := by
  have hA := sheet_rise la
  have h1 : Rise (woutT cmpN (sheet la) (sortT lg)) := hA.sublist (woutT_sub _ _ _)
  have h2 : Rise (wout cnC (woutT cmpN (sheet la) (sortT lg)) (sheet lc)) := h1.sublist (wout_sub _ _ _)
  refine mer_rise _ _ h2 (sheet_rise lc) fun x hx y hy e => ?_
  exact ((mem_wout cnC_cf _ _ h1 (sheet_rise lc) x).1 hx).2 y hy (cmpS_eq.2 e)
theorem mem_fold (la lc : List Cn) (lg : List ByteArray) (z : Cn) : z ∈ foldP la lc lg ↔ z ∈ sheet lc ∨ (z ∈ sheet la ∧ z.room ∉ lg ∧ ∀ y ∈ sheet lc, y.room ≠ z.room) := by
  have hA := sheet_rise la
  have h1 : Rise (woutT cmpN (sheet la) (sortT lg)) := hA.sublist (woutT_sub _ _ _)
  unfold foldP
  rw [mem_mer, mem_wout cnC_cf _ _ h1 (sheet_rise lc), mem_woutT cmpN_cf _ _ hA (sortT_sorted lg)]
  constructor
  · rintro (⟨⟨a1, a2⟩, a3⟩ | h)
    · refine .inr ⟨a1, fun h => a2 _ ((sortT_mem lg _).2 h) (cmpS_eq.2 rfl), fun y hy e => a3 y hy (cmpS_eq.2 e.symm)⟩
    · exact .inl h
  · rintro (h | ⟨a1, a2, a3⟩)
    · exact .inr h
    · exact .inl ⟨⟨a1, fun y hy e => a2 (by rw [show z.room = y from cmpS_eq.1 e]; exact (sortT_mem lg y).1 hy)⟩, fun y hy e => a3 y hy (cmpS_eq.1 e).symm⟩
/-- Who folds what has changed and what is gone has what there is. -/
theorem fold_back (la : List Cn) {B : List Cn} (hB : Rise B) : foldP la (changed B (sheet la)) (goneL B (sheet la)) = B := by
  have hA := sheet_rise la
  refine (fold_rise _ _ _).ext hB fun z => ?_
  rw [mem_fold, sheet_self (changed_rise hB), mem_changed hA hB, mem_gone hA hB]
  constructor
  · rintro (h | ⟨a1, a2, a3⟩)
    · exact h.1
    · have : ∃ b ∈ B, b.room = z.room := by
        apply Classical.byContradiction
        intro hno
        exact a2 ⟨z, a1, rfl, fun b hb e => hno ⟨b, hb, e⟩⟩
      obtain ⟨b, hb, e⟩ := this
      have hbA : b ∈ sheet la := by
        apply Classical.byContradiction
        intro hn
        exact a3 b ((mem_changed hA hB b).2 ⟨hb, hn⟩) e
      rw [← hA.one hbA a1 e]
      exact hb
  · intro hz
    by_cases hzA : z ∈ sheet la
    · refine .inr ⟨hzA, ?_, fun y hy e => ?_⟩
      · rintro ⟨y, _, _, h⟩
        exact h z hz rfl
      · obtain ⟨y1, y2⟩ := (mem_changed hA hB y).1 hy
        rw [hB.one y1 hz e] at y2
        exact y2 hzA
    · exact .inl ⟨hz, hzA⟩
theorem twD_len (b : Bool) (la lb : List Cn) : (twD b la (sheet la) (sheet lb)).length ≤ lb.length := by
  unfold twD
  split
  · exact Nat.le_trans (sheet_len _) (sheet_len _)
  · rw [fold_back la (sheet_rise lb)]
    exact sheet_len _
end Go.Fd
namespace Go.Fd
open Go.Sort
def dropEq (y : Cn) : List Cn → List Cn
  | [] => []
  | z :: r => if z.room = y.room then r else z :: r
theorem dropEq_cons (y z : Cn) (r : List Cn) : dropEq y (z :: r) = if z.room = y.room then r else z :: r := rfl
/-- Two sheets put together: what stands in both is as the second one has it. -/
def rM : List Cn → List Cn → List Cn
  | a, [] => a
  | a, y :: b => lowT cnC y a ++ y :: rM (dropEq y (lowD cnC y a)) b
theorem rM_nil (a : List Cn) : rM a [] = a := by cases a <;> rfl
theorem rM_cons (a : List Cn) (y : Cn) (b : List Cn) : rM a (y :: b) = lowT cnC y a ++ y :: rM (dropEq y (lowD cnC y a)) b := by cases a <;> rfl
theorem rM_low {x y : Cn} {a b : List Cn} (h : lr x.room y.room = true) : rM (x :: a) (y :: b) = x :: rM a (y :: b) := by
  have h' : cnC x y < 0 := cmpS_neg.2 h
  rw [rM_cons, rM_cons]
  simp [lowT, lowD, h']
theorem rM_none {y : Cn} {b : List Cn} : rM [] (y :: b) = y :: rM [] b := by
  rw [rM_cons]
  simp [lowT, lowD, dropEq]
theorem rM_stop {x y : Cn} {a b : List Cn} (h : lr x.room y.room = false) : rM (x :: a) (y :: b) = y :: rM (if x.room = y.room then a else x :: a) b := by
  have h' : ¬ cnC x y < 0 := fun e => by rw [cmpS_neg.1 e] at h; cases h
  rw [rM_cons]
  simp [lowT, lowD, h', dropEq]
theorem lowD_sub (x : Cn) : ∀ l, (lowD cnC x l).Sublist l
  | [] => List.Sublist.refl _
  | y :: r => by
    unfold lowD
    split
    · exact (lowD_sub x r).cons y
    · exact List.Sublist.refl _
theorem lowD_ge (x : Cn) : ∀ l, Rise l → ∀ z ∈ lowD cnC x l, lr z.room x.room = false
  | [], _, z, h => by cases h
  | y :: r, hr, z, h => by
    unfold lowD at h
    split at h
    · exact lowD_ge x r (List.pairwise_cons.1 hr).2 z h
    · rename_i c
      have hy : lr y.room x.room = false := by
        cases e : lr y.room x.room with
        | false => rfl
        | true => exact absurd (cmpS_neg.2 e) c
      rcases List.mem_cons.1 h with rfl | h
      · exact hy
      · cases e : lr z.room x.room with
        | false => rfl
        | true =>
          have := lr_trans ((List.pairwise_cons.1 hr).1 z h) e
          rw [hy] at this
          cases this
theorem dropEq_sub (y : Cn) : ∀ l, (dropEq y l).Sublist l
  | [] => List.Sublist.refl _
  | z :: r => by
    rw [dropEq_cons]
    split
    · exact (List.Sublist.refl r).cons z
    · exact List.Sublist.refl _
theorem dropEq_gt (y : Cn) {l : List Cn} (hl : Rise l) (h : ∀ z ∈ l, lr z.room y.room = false) : ∀ z ∈ dropEq y l, lr y.room z.room = true := by
  cases l with
  | nil => intro z hz; cases hz
  | cons a r =>
    intro z hz
    have ha := h a List.mem_cons_self
    obtain ⟨r1, r2⟩ := List.pairwise_cons.1 hl
    rw [dropEq_cons] at hz
    split at hz
    · rename_i c
      rw [← c]
      exact r1 z hz
    · rename_i c
      have hya : lr y.room a.room = true := by
        cases e : lr y.room a.room with
        | true => rfl
        | false => exact absurd (lr_tot ha e) c
      rcases List.mem_cons.1 hz with rfl | hz
      · exact hya
      · exact lr_trans hya (r1 z hz)
theorem dropEq_mem (y : Cn) {l : List Cn} {z : Cn} (hz : z ∈ l) (hn : z.room ≠ y.room) : z ∈ dropEq y l := by
  cases l with
  | nil => cases hz
  | cons a r =>
    rw [dropEq_cons]
    split
    · rename_i c
      rcases List.mem_cons.1 hz with rfl | hz
      · exact absurd c hn
      · exact hz
    · exact hz
theorem rM_ok : ∀ (b a : List Cn), Rise a → Rise b → Rise (rM a b) ∧ ∀ z, z ∈ rM a b ↔ z ∈ b ∨ (z ∈ a ∧ ∀ y ∈ b, y.room ≠ z.room)
  | [], a, ha, _ => by
    rw [rM_nil]
    exact ⟨ha, fun z => by simp⟩
  | y :: b, a, ha, hb => by
    obtain ⟨b1, b2⟩ := List.pairwise_cons.1 hb
    have hD := ha.sublist (lowD_sub y a)
    have hE : Rise (dropEq y (lowD cnC y a)) := List.Pairwise.sublist (dropEq_sub y _) hD
    have hgt := dropEq_gt y hD (lowD_ge y a ha)
    obtain ⟨i1, i2⟩ := rM_ok b _ hE b2
    have hl' := ha
    rw [← low_app y a] at hl'
    obtain ⟨p1, _, _⟩ := List.pairwise_append.1 hl'
    have hm : ∀ z ∈ rM (dropEq y (lowD cnC y a)) b, lr y.room z.room = true := fun z hz => by
      rcases (i2 z).1 hz with h | h
      · exact b1 z h
      · exact hgt z h.1
    rw [rM_cons]
    refine ⟨List.pairwise_append.2 ⟨p1, List.pairwise_cons.2 ⟨hm, i1⟩, fun c hc d hd => ?_⟩, fun z => ?_⟩
    · have h1 := lowT_lt y a c hc
      rcases List.mem_cons.1 hd with rfl | hd
      · exact h1
      · exact lr_trans h1 (hm d hd)
    · rw [List.mem_append, List.mem_cons, i2 z, List.mem_cons]
      constructor
      · rintro (h | h | h | ⟨h1, h2⟩)
        · refine .inr ⟨by rw [← low_app y a]; exact List.mem_append_left _ h, fun c hc e => ?_⟩
          have h1 := lowT_lt y a z h
          rcases List.mem_cons.1 hc with rfl | hc
          · exact lr_ne h1 e.symm
          · exact lr_ne (lr_trans h1 (b1 c hc)) e.symm
        · exact .inl (.inl h)
        · exact .inl (.inr h)
        · refine .inr ⟨(lowD_sub y a).subset ((dropEq_sub y _).subset h1), fun c hc => ?_⟩
          rcases List.mem_cons.1 hc with rfl | hc
          · exact lr_ne (hgt z h1)
          · exact h2 c hc
      · rintro ((h | h) | ⟨h1, h2⟩)
        · exact .inr (.inl h)
        · exact .inr (.inr (.inl h))
        · have h3 := h1
          rw [← low_app y a] at h3
          rcases List.mem_append.1 h3 with h4 | h4
          · exact .inl h4
          · exact .inr (.inr (.inr ⟨dropEq_mem y h4 (fun e => h2 y List.mem_cons_self e.symm), fun c hc => h2 c (List.mem_cons_of_mem _ hc)⟩))
theorem lk_append (r : ByteArray) (b : List Cn) : ∀ a : List Cn, lk (a ++ b) r = match lk b r with
    | some c => some c
    | none => lk a r
  | [] => by
    rw [List.nil_append]
    cases lk b r <;> rfl
  | x :: a => by
    have ih := lk_append r b a
    have e : ∀ l : List Cn, lk (x :: l) r = match lk l r with
        | some c => some c
        | none => if x.room = r then some x else none := fun _ => rfl
    rw [List.cons_append, e, e, ih]
    cases lk b r with
    | none => rfl
    | some c => rfl
/-- A sheet of two halves. -/
theorem sheet_app (a b : List Cn) : rM (sheet a) (sheet b) = sheet (a ++ b) := by
  obtain ⟨h1, h2⟩ := rM_ok (sheet b) (sheet a) (sheet_rise a) (sheet_rise b)
  refine h1.ext (sheet_rise _) fun z => ?_
  rw [h2, mem_sheet, mem_sheet, mem_sheet, lk_append]
  constructor
  · rintro (h | ⟨h, hn⟩)
    · rw [h]
    · have : lk b z.room = none := by
        cases e : lk b z.room with
        | none => rfl
        | some c =>
          have e2 := (lk_some e).2
          exact absurd e2 (hn c (mem_sheet.2 (by rw [e2]; exact e)))
      rw [this]
      exact h
  · intro h
    cases e : lk b z.room with
    | some c =>
      rw [e] at h
      exact .inl h
    | none =>
      rw [e] at h
      exact .inr ⟨h, fun y hy e2 => by
        have := mem_sheet.1 hy
        rw [e2, e] at this
        cases this⟩
theorem sheet_few {l : List Cn} (h : l.length < 2) : sheet l = l := by
  match l, h with
  | [], _ => exact sheet_self List.Pairwise.nil
  | [x], _ => exact sheet_self (List.pairwise_singleton _ _)
end Go.Fd
namespace Go.Proofs
open Go.RowKit Go.Wi Go.Fd Go.Sort
theorem Fd.rep_any {α : Type} {l : List α} {n : Nat} {x : α} (h1 : l.length = n) (h2 : ∀ j, j < n → l[j]? = some x) : l = List.replicate n x := by
  apply List.ext_getElem?
  intro j
  by_cases hj : j < n
  · rw [h2 j hj, List.getElem?_replicate, if_pos hj]
  · rw [List.getElem?_eq_none (by omega), List.getElem?_eq_none (by simp; omega)]
/-- What an owner of texts writes. -/
def Fd.ow : ByteArray := ⟨#[116, 104, 101, 32, 111, 119, 110, 101, 114, 39, 115]⟩
def Fd.an : ByteArray := ⟨#[97, 110, 111, 116, 104, 101, 114, 39, 115]⟩
def Fd.sev {α : Type} (a b c d e f g : α) : Nat → α
  | 0 => a
  | 1 => b
  | 2 => c
  | 3 => d
  | 4 => e
  | 5 => f
  | _ => g
structure Tryz.Tw (w0 : World) (off : Nat → Prop) (gL gW : Nat) (LA WA : Array Value) (lv wv : Nat → Value) (c : Nat → List Cn) (G1 G2 G3 : Value) (Gn : List ByteArray) (i n : Nat) (G : Value) (gv : Nat → Value) (w : World) : Prop where
  six : Tryz.Six off w lv gv wv c i
  li : w.heap[gL]? = some (.cells LA 22 (0, 0))
  wa : w.heap[gW]? = some (.cells WA 22 (0, 0))
  gr : w.ownsRow 0 22 1 G n ((List.range n).map gv)
  ga : ∀ k, G.ownBlock = some k → (∀ j, j < 6 → (lv j).ownBlock ≠ some k) ∧ (∀ j, j < i → (gv j).ownBlock ≠ some k) ∧ (∀ j, j < 6 → (wv j).ownBlock ≠ some k) ∧ k ≠ gL ∧ k ≠ gW ∧ w0.heap.size ≤ k
  s1 : w.ownsRow 0 9 1 G1 Gn.length (Gn.map Value.string)
  s2 : w.ownsRow 0 9 1 G2 Gn.length (Gn.map Value.string)
  s3 : w.ownsRow 0 9 1 G3 Gn.length (Gn.map Value.string)
  be : Below w0.heap.size w0 w
  ab : ∀ j, j < 6 → ∀ k, (lv j).ownBlock = some k → w0.heap.size ≤ k
theorem Fd.cell_lit {W : World} {g : Nat} {cs : Array Value} {T : TypeId} (h : W.heap[g]? = some (.cells cs T (0, 0))) {j : Nat} {v : Value} (hj : cs[j]? = some v) : W.cell? ⟨g, j, none⟩ = some v := (cell_of_row _ _ _ _ _ _ h).trans hj
theorem Fd.six_lit {a b c d e f : Value} : ∀ j, j < 6 → (#[a, b, c, d, e, f] : Array Value)[j]? = some (Fd.six a b c d e f j) := Fd.six_all rfl rfl rfl rfl rfl rfl
theorem Fd.lit_ne {w : World} {B n k g b : Nat} {T T' : TypeId} {V : Value} {xs : List Value} {cs : Array Value} (h : w.ownsRow B T k V n xs) (h' : w.heap[g]? = some (.cells cs T' (0, 0))) (hT : T ≠ T') (e : V.ownBlock = some b) : b ≠ g := by
  rintro rfl
  rcases h.2 with ⟨rfl, _⟩ | ⟨g, cap, cur, rfl, _, hb, _⟩
  · cases e
  · cases e
    rw [hb] at h'
    injection h' with h'
    injection h' with _ h'
    exact hT h'
section
variable {w0 : World} {off : Nat → Prop} {gL gW : Nat} {LA WA : Array Value} {lv wv : Nat → Value} {c : Nat → List Cn} {G1 G2 G3 : Value} {Gn : List ByteArray} {i n : Nat} {G : Value} {gv : Nat → Value} {w w' : World}
theorem Tryz.Tw.past (h : Tryz.Tw w0 off gL gW LA WA lv wv c G1 G2 G3 Gn i n G gv w) (hi : i ≤ 6) (g : Below w.heap.size w w') : Tryz.Tw w0 off gL gW LA WA lv wv c G1 G2 G3 Gn i n G gv w' :=
  ⟨h.six.past hi g, (g.block gL (block_lt h.li)).trans h.li, (g.block gW (block_lt h.wa)).trans h.wa, Fd.row_past h.gr g (Nat.le_refl _), h.ga, Fd.row_past h.s1 g (Nat.le_refl _), Fd.row_past h.s2 g (Nat.le_refl _), Fd.row_past h.s3 g (Nat.le_refl _), Fd.bel_on h.be h.be.size g, h.ab⟩
theorem Tryz.Tw.owns (h : Tryz.Tw w0 off gL gW LA WA lv wv c G1 G2 G3 Gn i n G gv w) (hi : i < 6) (hn : n ≤ i) {V' : Value} (g : Wo (fun k => (lv i).ownBlock = some k) w w') (h1 : Cs w' (lv i) (List.replicate (c i).length (mkc i))) (h2 : Cs w' V' (List.replicate ((c i).length + 12) (mkc i)))
    (h3 : ∀ k, V'.ownBlock = some k → ((lv i).ownBlock = some k ∨ w.heap.size ≤ k) ∧ k < w'.heap.size) : Tryz.Tw w0 off gL gW LA WA lv wv c G1 G2 G3 Gn (i + 1) n G (fun j => if j = i then V' else gv j) w' := by
  have hr := h.six.row i (Nat.le_refl _) hi
  have str : ∀ {V : Value}, w.ownsRow 0 9 1 V Gn.length (Gn.map Value.string) → w'.ownsRow 0 9 1 V Gn.length (Gn.map Value.string) := fun {V} hs => Fd.row_keep hs fun k e => g.block k (hs.lt k e).2 (Fd.row_ne hs hr (by decide) e)
  refine ⟨h.six.step hi g h1 h2 h3, ?_, ?_, ?_, fun k e => ?_, str h.s1, str h.s2, str h.s3, g.toBelow h.be (fun k e => h.ab i hi k e) h.be.size, h.ab⟩
  · rw [g.block gL (block_lt h.li) fun e => Fd.lit_ne hr h.li (by decide) e rfl]; exact h.li
  · rw [g.block gW (block_lt h.wa) fun e => Fd.lit_ne hr h.wa (by decide) e rfl]; exact h.wa
  · have e : (List.range n).map (fun j => if j = i then V' else gv j) = (List.range n).map gv := List.map_congr_left fun j hj => by
      have := List.mem_range.1 hj
      simp only [if_neg (show j ≠ i by omega)]
    rw [e]
    exact Fd.row_keep h.gr fun k e => g.block k (h.gr.lt k e).2 (Fd.row_ne h.gr hr (by decide) e)
  · obtain ⟨a1, a2, a3, a4⟩ := h.ga k e
    refine ⟨a1, fun j hj => ?_, a3, a4⟩
    by_cases e' : j = i
    · subst e'
      simp only [if_true]
      intro e2
      rcases (h3 k e2).1 with e3 | e3
      · exact a1 j hi e3
      · have := (h.gr.lt k e).2
        omega
    · simp only [if_neg e']
      exact a2 j (by omega)
theorem Tryz.Tw.app (h : Tryz.Tw w0 off gL gW LA WA lv wv c G1 G2 G3 Gn i n G gv w) (hi : i ≤ 6) {v : Value} (hr : w'.ownsRow 0 22 1 v (n + 1) ((List.range n).map gv ++ [gv n])) (g : w.grownBy w' G.ownBlock) (hl : ∀ k, v.ownBlock = some k → G.ownBlock = some k ∨ w.heap.size ≤ k) : Tryz.Tw w0 off gL gW LA WA lv wv c G1 G2 G3 Gn i (n + 1) v gv w' := by
  have gw : Wo (fun k => G.ownBlock = some k) w w' := (Wo.refl _ w).grown g (fun k e => .inl e)
  have str : ∀ {V : Value}, w.ownsRow 0 9 1 V Gn.length (Gn.map Value.string) → w'.ownsRow 0 9 1 V Gn.length (Gn.map Value.string) := fun {V} hs => Fd.row_keep hs fun k e => gw.block k (hs.lt k e).2 (Fd.row_ne hs h.gr (by decide) e)
  refine ⟨h.six.keep hi gw (fun j hj k e e' => (h.ga k e').1 j hj e) (fun j hj k e e' => (h.ga k e').2.1 j hj e) (fun j hj k e e' => (h.ga k e').2.2.1 j hj e), ?_, ?_, ?_, fun k e => ?_, str h.s1, str h.s2, str h.s3, gw.toBelow h.be (fun k e => (h.ga k e).2.2.2.2.2) h.be.size, h.ab⟩
  · rw [gw.block gL (block_lt h.li) fun e => (h.ga gL e).2.2.2.1 rfl]; exact h.li
  · rw [gw.block gW (block_lt h.wa) fun e => (h.ga gW e).2.2.2.2.1 rfl]; exact h.wa
  · rw [List.range_succ, List.map_append]; exact hr
  · rcases hl k e with e' | e'
    · exact h.ga k e'
    · refine ⟨fun j hj e2 => ?_, fun j hj e2 => ?_, fun j hj e2 => ?_, fun e2 => ?_, fun e2 => ?_, Nat.le_trans h.be.size e'⟩
      · have := (h.six.ll j hj k e2).1; omega
      · have := (h.six.gl j hj k e2).1; omega
      · have := (h.six.wl j hj k e2).1; omega
      · have := block_lt h.li; omega
      · have := block_lt h.wa; omega
end
end Go.Proofs
