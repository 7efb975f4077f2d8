/-
  FEED: two sorted lists laid together.
-/
import Derived.Test.YtdhgpkacilcfgaaGreatDoorFgA
import Derived.Deep.AppendLies
import Derived.OwnWalk
namespace Go.Fd
section
variable (cf : Cn → Cn → Int)
/-- What of a list stands ahead of one. -/
def lowT (x : Cn) : List Cn → List Cn
  | [] => []
  | y :: r => if cf y x < 0 then y :: lowT x r else []
def lowD (x : Cn) : List Cn → List Cn
  | [] => []
  | y :: r => if cf y x < 0 then lowD x r else y :: r
def mer : List Cn → List Cn → List Cn
  | rest, [] => rest
  | rest, x :: u => lowT cf x rest ++ x :: mer (lowD cf x rest) u
theorem low_len (x : Cn) : ∀ l, (lowT cf x l).length + (lowD cf x l).length = l.length
  | [] => rfl
  | y :: r => by
    have := low_len x r
    unfold lowT lowD
    split
    · simp; omega
    · simp
theorem mer_len : ∀ u l, (mer cf l u).length = l.length + u.length
  | [], l => by simp [mer]
  | x :: u, l => by
    have h1 := mer_len u (lowD cf x l)
    have h2 := low_len cf x l
    simp only [mer, List.length_append, List.length_cons, h1]
    omega
theorem mer_low {x y : Cn} {r u : List Cn} (h : cf y x < 0) : mer cf (y :: r) (x :: u) = y :: mer cf r (x :: u) := by
  simp [mer, lowT, lowD, h]
theorem mer_take {x y : Cn} {r u : List Cn} (h : ¬ cf y x < 0) : mer cf (y :: r) (x :: u) = x :: mer cf (y :: r) u := by
  simp [mer, lowT, lowD, h]
theorem mer_none {x : Cn} {u : List Cn} : mer cf [] (x :: u) = x :: mer cf [] u := by
  simp [mer, lowT, lowD]
end
end Go.Fd
namespace Go.Proofs
open Go.RowKit Go.Wi Go.Fd Go.Sort
set_option maxRecDepth 20000 in
/-- 'append' of a count, at a step of a region that draws its order. -/
theorem Tryz.stepCn {t : TypeId} (ht : Tryz.prog.underlying t = some (.slice 39)) {ops : Array Oper} {o : Oper} {a : Act} {K : Act → World → Prop} {Q : Exit → Act → World → Prop} {E : Prop} (hgd : o.guard = none) (s y : Operand)
    (ho : o.op = .call { callee := .builtin .append, args := #[s, y], argTypes := #[t, t] })
    {w : World} {B H : Nat} {V : Value} {n : Nat} {L0 : List Cn} {c : Cn} (hrow : w.ownsRow B 39 3 V n (cnCells L0)) (hB : B ≤ w.heap.size) (hs : a.eval s = V) (hY : Cs w (.slice (some ⟨H, 0, none⟩) 1 1) [c]) (hy : a.eval y = .slice (some ⟨H, 0, none⟩) 1 1) (hlen : n + 1 ≤ 4398046511104)
    (hK : ∀ v' w', w'.ownsRow B 39 3 v' (n + 1) (cnCells (L0 ++ [c])) → Below B w w' → w.grownBy w' V.ownBlock → (∀ k, v'.ownBlock = some k → V.ownBlock = some k ∨ w.heap.size ≤ k) → K (a.put o.dst v') w') : if Region.wanted o (yielded ops a.tmps) = true then Oper.wp Tryz.prog o a w K Q else E := by
  obtain ⟨i0, hi0, hz0, hz1, hz2⟩ := info_parts Tryz.infoCn
  have hcs := Fd.cs_cells hY ⟨H, 0, none⟩ rfl
  refine step_append_lies w hgd s y t ho B 39 i0 _ 3 32 ht hi0 hz0 hz1 hz2 rfl (by omega) V n _ hs hrow ⟨H, 0, none⟩ 1 1 (cnCells [c]) hy (cnCells_len [c]) hcs cnCells_one (by omega) (by unfold maxLen; omega) (by omega) hB _ rfl ?_
  intro g cap w' h1 h2 h3 h4
  rw [← cnCells_app] at h1
  refine hK _ w' h1 ((Below.refl B w).grown h2 hB fun k e => (hrow.lt k e).1) h2 fun k e => ?_
  obtain rfl : g = k := by simpa [Value.ownBlock] using e
  rcases h3 with h3 | h3
  · exact .inl h3
  · exact .inr (by omega)
set_option maxRecDepth 20000 in
set_option maxHeartbeats 2000000 in
theorem Tryz.merge_wide (f : Nat) (cf : Cn → Cn → Int) (ef : ∀ args w, (callFunc f args).run Tryz.prog w = .ok (.enter f args) w)
    (hf : ∀ (x y : Cn) (w : World), Calls Tryz.prog f #[.agg (cnE x).toArray, .agg (cnE y).toArray] w fun e w' => e = .returned (.int .i64 (cf x y)) ∧ ∃ q os', w' = grow (w.drewN q) os')
    {w : World} {V U : Value} {l o : List Cn} (h : Cs w V l) (hV : ∀ k, V.ownBlock = some k → k < w.heap.size) (g : Cs w U o) (hU : ∀ k, U.ownBlock = some k → k < w.heap.size) (hl0 : l.length ≤ 4398046511104) (hlo : (wout cf l o).length + o.length ≤ 4398046511104) :
    Calls Tryz.prog 32 #[V, U, .func (.func f) #[] #[]] w fun e w' => ∃ V', e = .returned V' ∧ w'.ownsRow w.heap.size 39 3 V' (mer cf (wout cf l o) o).length (cnCells (mer cf (wout cf l o) o)) ∧ Below w.heap.size w w' := by
  obtain ⟨ud, ucap, rfl⟩ := g.is
  have hmx : Tryz.prog.follows .mixedOrders = true := by kernel_rfl
  have hwo := Tryz.without_any f cf ef hf h hV g hU (by omega) (by omega)
  have HF : Hid (∀ (x y : Cn) (w : World), Calls Tryz.prog f #[.agg #[.string x.room, .int .i64 x.un, .int .i64 x.hi], .agg #[.string y.room, .int .i64 y.un, .int .i64 y.hi]] w fun e w' => e = .returned (.int .i64 (cf x y)) ∧ ∃ q os', w' = grow (w.drewN q) os') := hf
  have HG : Hid (Cs w (.slice ud o.length ucap) o ∧ ∀ k, (Value.slice ud o.length ucap).ownBlock = some k → k < w.heap.size) := ⟨g, hU⟩
  have HL : Hid ((wout cf l o).length + o.length ≤ 4398046511104) := hlo
  clear h hV g hU hf hlo hl0
  go_enter Tryz.func32, Tryz.ntmps32
  go_upto_region 2 with (first
    | (go_at_call 45; refine hwo.mono ?_; clear hwo; rintro e w1 ⟨V1, rfl, hr1, hb1⟩)
    | fail)
  obtain ⟨R, hR⟩ : ∃ R, R = wout cf l o := ⟨_, rfl⟩
  have HRR : Hid (R = wout cf l o) := hR
  rw [← hR] at hr1 HL
  clear hR
  have HR1 : Hid (Cs w1 V1 R ∧ ∀ k, V1.ownBlock = some k → k < w1.heap.size) := ⟨Cs.ofRow hr1, fun k e => (hr1.lt k e).2⟩
  have HB1 : Hid (Below w.heap.size w w1) := hb1
  obtain ⟨vd, vcap, rfl⟩ := (Cs.ofRow hr1).is
  clear hr1 hb1
  have HG1 : Hid (Cs w1 (.slice ud o.length ucap) o ∧ ∀ k, (Value.slice ud o.length ucap).ownBlock = some k → k < w1.heap.size) := ⟨HG.out.1.below HB1.out HG.out.2, fun k e => Nat.lt_of_lt_of_le (HG.out.2 k e) HB1.out.size⟩
  clear HG
  obtain ⟨i0, hi0, hz0, hz1, hz2⟩ := info_parts Tryz.infoCn
  have kk : (R.length : Int) + (o.length : Int) ≤ 4398046511104 := by have := HL.out; omega
  go_wp2_with (first
    | (at_make; refine wpList_make_own _ rfl _ _ _ rfl w1.heap.size 39 i0 _ 3 Tryz.underlying22 hi0 hz0 hz1 _ _ _ (R.length + o.length) rfl rfl (by omega) (by rw [hz2]; omega) (by unfold maxLen; omega) (Nat.le_refl _) ?_; intro w2 hr2 hg2)
    | fail)
  have HB2 : Hid (Below w1.heap.size w1 w2) := (Below.refl _ w1).grown hg2 (Nat.le_refl _) (fun k e => by cases e)
  have HR2 : Hid (w2.ownsRow w1.heap.size 39 3 (.slice (some ⟨w1.heap.size, 0, none⟩) 0 (R.length + o.length)) 0 []) := hr2
  have HN : Hid (R.length + o.length ≤ 4398046511104) := HL.out
  clear hr2 hg2 hi0 hz0 hz1 hz2 i0 kk
  have hN : o.length < 9223372036854775807 := by have := HL.out; omega
  go_loopw [7, 8, 10, 23] (fun Rv A _ iv wr => ∃ (i : Nat) (al rs : List Cn), iv = .int .i64 i ∧ i ≤ o.length ∧ wr.ownsRow w1.heap.size 39 3 A al.length (cnCells al) ∧ Below w1.heap.size w1 wr ∧ Cs wr Rv rs ∧ (∀ k, Rv.ownBlock = some k → k < w1.heap.size) ∧ al.length + rs.length + (o.length - i) ≤ 4398046511104 ∧ mer cf R o = al ++ mer cf rs (o.drop i)) (fun _ _ _ iv _ => o.length - (intOf iv).toNat)
  case atStart => exact ⟨0, [], R, rfl, Nat.zero_le _, HR2.out, HB2.out, HR1.out.1.below HB2.out HR1.out.2, HR1.out.2, by have := HN.out; simp; omega, rfl⟩
  case round =>
    obtain ⟨i, al, rs, rfl, hi, hrow, hbel, hC, hCk, hn, heq⟩ := hrel
    have HR : Hid (wr.ownsRow w1.heap.size 39 3 u8 al.length (cnCells al)) := hrow
    have HB : Hid (Below w1.heap.size w1 wr) := hbel
    have HC : Hid (Cs wr u7 rs ∧ ∀ k, u7.ownBlock = some k → k < w1.heap.size) := ⟨hC, hCk⟩
    have HE : Hid (mer cf R o = al ++ mer cf rs (o.drop i)) := heq
    have HNi : Hid (al.length + rs.length + (o.length - i) ≤ 4398046511104) := hn
    clear hrow hbel hC hCk heq hn
    by_cases hlt : i < o.length
    · have q : (i : Int) < (o.length : Int) := by omega
      have HG2 := HG1.out.1.below HB.out HG1.out.2
      obtain ⟨ug, uo, rfl, c1, c2, c3⟩ := HG2.at hlt
      rw [← getElem!_pos o i hlt] at c1 c2 c3
      have HD : Hid (o.drop i = o[i]! :: o.drop (i + 1)) := Fd.drop_at hlt
      generalize o[i]! = x at *
      clear HG2
      go_upto_region 6 with (fail)
      obtain ⟨wq, hwq⟩ : ∃ W, W = wr.alloc (.cells #[.string x.room, .int .i64 x.un, .int .i64 x.hi] 39) := ⟨_, rfl⟩
      have hb1 : Below wr.heap.size wr wq := by rw [hwq]; exact (Below.refl _ wr).alloc (Nat.le_refl _) _
      have HBq : Hid (Below w1.heap.size w1 wq) := HB.out.trans (hb1.mono HB.out.size)
      have HRq : Hid (wq.ownsRow w1.heap.size 39 3 u8 al.length (cnCells al)) := Fd.row_past HR.out hb1 (Nat.le_refl _)
      have HXq : Hid (wq.heap[wr.heap.size]? = some (.cells #[.string x.room, .int .i64 x.un, .int .i64 x.hi] 39 (0, 0))) := by show _ = _; rw [hwq]; exact heap_alloc_new _ _
      have HOq : Hid (Cs wq u7 rs ∧ ∀ k, u7.ownBlock = some k → k < w1.heap.size) := ⟨HC.out.1.past hb1, HC.out.2⟩
      have HKq : Hid (∀ k, u8.ownBlock = some k → k ≠ wr.heap.size) := fun k e => Nat.ne_of_lt (HR.out.lt k e).2
      have HEq : Hid (mer cf R o = al ++ mer cf rs (x :: o.drop (i + 1))) := by show _ = _; rw [HE.out, HD.out]
      have HNq : Hid (al.length + rs.length + (o.length - i) ≤ 4398046511104) := HNi.out
      rw [← hwq]
      generalize wr.heap.size = bx at *
      clear hwq hb1 c1 c2 c3 HR HB HC HE HNi HD
      go_loopw [7, 8] (fun Rv A wr2 => ∃ (al2 rs2 : List Cn), wr2.ownsRow w1.heap.size 39 3 A al2.length (cnCells al2) ∧ Below w1.heap.size w1 wr2 ∧ Cs wr2 Rv rs2 ∧ (∀ k, Rv.ownBlock = some k → k < w1.heap.size) ∧ al2.length + rs2.length + (o.length - i) ≤ 4398046511104 ∧ mer cf R o = al2 ++ mer cf rs2 (x :: o.drop (i + 1)) ∧ wr2.heap[bx]? = some (.cells #[.string x.room, .int .i64 x.un, .int .i64 x.hi] 39 (0, 0)) ∧ ∀ k, A.ownBlock = some k → k ≠ bx) (fun Rv _ _ => Fd.lenOf Rv)
      case atStart => exact ⟨al, rs, HRq.out, HBq.out, HOq.out.1, HOq.out.2, HNq.out, HEq.out, HXq.out, HKq.out⟩
      case round =>
        obtain ⟨al2, rs2, hr', hb', hO', hOk', hn', hE', hx', hk'⟩ := hrel
        have HR4 : Hid (wr.ownsRow w1.heap.size 39 3 u8 al2.length (cnCells al2)) := hr'
        have HB4 : Hid (Below w1.heap.size w1 wr) := hb'
        have HX4 : Hid (wr.heap[bx]? = some (.cells #[.string x.room, .int .i64 x.un, .int .i64 x.hi] 39 (0, 0))) := hx'
        have HN4 : Hid (al2.length + rs2.length + (o.length - i) ≤ 4398046511104) := hn'
        have HE4 : Hid (mer cf R o = al2 ++ mer cf rs2 (x :: o.drop (i + 1))) := hE'
        have HK4 : Hid (∀ k, u8.ownBlock = some k → k ≠ bx) := hk'
        have HLn : Hid (al2.length + 1 ≤ 4398046511104) := by show _ ≤ _; omega
        obtain ⟨od, oc, rfl⟩ := hO'.is
        have HO4 : Hid (Cs wr (.slice od rs2.length oc) rs2) := hO'
        have HOk : Hid (∀ k, (Value.slice od rs2.length oc).ownBlock = some k → k < w1.heap.size) := hOk'
        have hbl := block_lt hx'
        clear hr' hb' hOk' hn' hE' hk' HRq HBq HXq HOq HKq HEq HNq
        cases rs2 with
        | nil =>
          clear hO' hx'
          have HEQ : Hid (mer cf R o = (al2 ++ [x]) ++ mer cf [] (o.drop (i + 1))) := by
            show _ = _
            rw [HE4.out, mer_none]
            simp
          have HR5 : Hid (wr.drew.ownsRow w1.heap.size 39 3 u8 al2.length (cnCells al2)) := Fd.row_keep HR4.out fun _ _ => rfl
          have HB5 : Hid (Below w1.heap.size w1 wr.drew) := HB4.out.drew
          have HX5 : Hid (wr.drew.heap[bx]? = some (.cells #[.string x.room, .int .i64 x.un, .int .i64 x.hi] 39 (0, 0))) := HX4.out
          have HO5 : Hid (Cs wr.drew (.slice od 0 oc) []) := HO4.out.keep fun _ _ => rfl
          have y0 : wr.drew.cell? ⟨bx, 0, none⟩ = some (.string x.room) := cell_of_row _ _ _ _ _ _ HX5.out
          have y1 : wr.drew.cell? ⟨bx, 1, none⟩ = some (.int .i64 x.un) := cell_of_row _ _ _ _ _ _ HX5.out
          have y2 : wr.drew.cell? ⟨bx, 2, none⟩ = some (.int .i64 x.hi) := cell_of_row _ _ _ _ _ _ HX5.out
          clear HR4 HB4 HX4 HO4
          rw [List.length_nil]
          go_wp2_with (fail)
          go_big_region_o
          generalize wr.drew = wz at *
          go_wp2_with (first
            | (at_builtin; refine Tryz.appCn Tryz.underlying22 rfl _ _ rfl (Fd.row_past HR5.out ((Below.refl _ _).alloc (Nat.le_refl _) _) (Nat.le_refl _)) (by rw [World.size_alloc]; exact Nat.le_succ_of_le HB5.out.size) rfl (Fd.cs_one (heap_alloc_new _ _)) rfl HLn.out ?_; intro v1 w2 hr2 hb2)
            | fail)
          go_roundw
          case rel => exact ⟨i + 1, al2 ++ [x], [], by first | rfl | (simp; done) | (simp; omega), by omega, by simpa using hr2, (HB5.out.alloc HB5.out.size _).trans hb2, (HO5.out.below ((Below.refl _ _).alloc HB5.out.size _) HOk.out).below hb2 HOk.out, HOk.out, by have := HN4.out; simp at this ⊢; omega, HEQ.out⟩
          case measure => simp [intOf]; omega
        | cons y r =>
          obtain ⟨og, oo, e', d1, d2, d3⟩ := hO'.at (i := 0) (by simp)
          subst e'
          simp only [List.getElem_cons_zero, Nat.zero_mul, Nat.add_zero] at d1 d2 d3
          rw [List.length_cons] at HOk HO4 ⊢
          have hogB : og < w1.heap.size := HOk.out og rfl
          have hogl : og < wr.heap.size := Nat.lt_of_lt_of_le hogB HB4.out.size
          have x0 : ∀ n os, (grow (wr.drewN n) os).cell? ⟨bx, 0, none⟩ = some (.string x.room) := cell_grown hbl (cell_of_row _ _ _ _ _ _ hx')
          have x1 : ∀ n os, (grow (wr.drewN n) os).cell? ⟨bx, 1, none⟩ = some (.int .i64 x.un) := cell_grown hbl (cell_of_row _ _ _ _ _ _ hx')
          have x2 : ∀ n os, (grow (wr.drewN n) os).cell? ⟨bx, 2, none⟩ = some (.int .i64 x.hi) := cell_grown hbl (cell_of_row _ _ _ _ _ _ hx')
          have z0 : ∀ n os, (grow (wr.drewN n) os).cell? ⟨og, oo, none⟩ = some (.string y.room) := cell_grown hogl d1
          have z1 : ∀ n os, (grow (wr.drewN n) os).cell? ⟨og, oo + 1, none⟩ = some (.int .i64 y.un) := cell_grown hogl d2
          have z2 : ∀ n os, (grow (wr.drewN n) os).cell? ⟨og, oo + 2, none⟩ = some (.int .i64 y.hi) := cell_grown hogl d3
          have hcmp : ∀ n os, Calls Tryz.prog f #[.agg #[.string y.room, .int .i64 y.un, .int .i64 y.hi], .agg #[.string x.room, .int .i64 x.un, .int .i64 x.hi]] (grow (wr.drewN n) os) fun e w' => e = .returned (.int .i64 (cf y x)) ∧ ∃ q os', w' = grow ((grow (wr.drewN n) os).drewN q) os' := fun n os => HF.out y x _
          have hcf : ∃ c, cf y x = c := ⟨_, rfl⟩
          obtain ⟨c, hc⟩ := hcf
          have HCF : Hid (cf y x = c) := hc
          rw [hc] at hcmp
          have kl : (r.length : Int) + 1 > 0 := by omega
          clear hO' hx' d1 d2 d3 hc
          go_wp2_with (fail)
          go_quiet_grown (first | (go_at_fn f; refine Calls.grown_of (hcmp _ _)))
          have HR5 : Hid ((grow (wr.drewN nq) osq).ownsRow w1.heap.size 39 3 u8 al2.length (cnCells al2)) := Fd.row_grow HR4.out nq osq
          have HB5 : Hid (Below w1.heap.size w1 (grow (wr.drewN nq) osq)) := Fd.below_grow HB4.out HB4.out.size nq osq
          have HX5 : Hid ((grow (wr.drewN nq) osq).heap[bx]? = some (.cells #[.string x.room, .int .i64 x.un, .int .i64 x.hi] 39 (0, 0))) := by show _ = _; rw [heap_grow_old _ _ (show bx < (wr.drewN nq).heap.size from block_lt HX4.out)]; exact HX4.out
          have HO5 : Hid (Cs (grow (wr.drewN nq) osq) (.slice (some ⟨og, oo, none⟩) (r.length + 1) oc) (y :: r)) := HO4.out.past (Fd.past_grow ⟨nq, osq, rfl⟩)
          clear x0 x1 x2 z0 z1 z2 hcmp
          generalize grow (wr.drewN nq) osq = wz at *
          clear HR4 HB4 HX4 HO4 hbl hogl
          by_cases hc1 : c < 0
          · have HE5 : Hid (mer cf R o = (al2 ++ [y]) ++ mer cf r (x :: o.drop (i + 1))) := by
              show _ = _
              rw [HE4.out, mer_low cf (by rw [HCF.out]; exact hc1)]
              simp
            obtain ⟨og', oo', e', hT⟩ := HO5.out.tail
            injection e' with e'
            injection e' with e1 e2
            subst e1 e2
            have hoc : r.length + 1 ≤ oc := by
              obtain ⟨_, _, e, h1, _⟩ := HO5.out.ex
              injection e with _ _ e3
              subst e3
              simpa using h1
            have k1 : (1 : Int) ≤ (r.length : Int) + 1 := by omega
            have k2 : (r.length : Int) + 1 ≤ (oc : Int) := by omega
            have HT2 : Hid (Cs wz (.slice (if oc = 1 then some ⟨og, oo, none⟩ else some ⟨og, oo + 3, none⟩) r.length (oc - 1)) r) := by
              by_cases e : oc = 1
              · have hr0 : r = [] := List.eq_nil_of_length_eq_zero (by omega)
                subst hr0
                rw [if_pos e]
                exact ⟨_, _, rfl, Nat.zero_le _, (fun e => by cases e), .inl rfl⟩
              · rw [if_neg e]; exact hT
            obtain ⟨og', oo', e', d1, d2, d3⟩ := HO5.out.at (i := 0) (by simp)
            injection e' with e'
            injection e' with e1 e2
            subst e1 e2
            simp only [List.getElem_cons_zero, Nat.zero_mul, Nat.add_zero] at d1 d2 d3
            have hS0 : ∀ W, Below w1.heap.size wz W → W.cell? ⟨og, oo, none⟩ = some (.string y.room) ∧ W.cell? ⟨og, oo + 1, none⟩ = some (.int .i64 y.un) ∧ W.cell? ⟨og, oo + 2, none⟩ = some (.int .i64 y.hi) ∧ Below w1.heap.size wz W := fun W hW =>
              ⟨(World.cell?_of_block (w := wz) (hW.block og hogB)).trans d1, (World.cell?_of_block (w := wz) (hW.block og hogB)).trans d2, (World.cell?_of_block (w := wz) (hW.block og hogB)).trans d3, hW⟩
            have hdr : wz.drew.cell? ⟨og, oo, none⟩ = some (.string y.room) ∧ wz.drew.cell? ⟨og, oo + 1, none⟩ = some (.int .i64 y.un) ∧ wz.drew.cell? ⟨og, oo + 2, none⟩ = some (.int .i64 y.hi) ∧ Below w1.heap.size wz wz.drew := hS0 _ (Below.refl _ wz).drew
            have hal : ∀ ob, (wz.drew.alloc ob).cell? ⟨og, oo, none⟩ = some (.string y.room) ∧ (wz.drew.alloc ob).cell? ⟨og, oo + 1, none⟩ = some (.int .i64 y.un) ∧ (wz.drew.alloc ob).cell? ⟨og, oo + 2, none⟩ = some (.int .i64 y.hi) ∧ Below w1.heap.size wz (wz.drew.alloc ob) := fun ob => hS0 _ ((Below.refl _ wz).drew.alloc HB5.out.size _)
            have hap : ∀ ob W, Below w1.heap.size (wz.drew.alloc ob) W → W.cell? ⟨og, oo, none⟩ = some (.string y.room) ∧ W.cell? ⟨og, oo + 1, none⟩ = some (.int .i64 y.un) ∧ W.cell? ⟨og, oo + 2, none⟩ = some (.int .i64 y.hi) ∧ Below w1.heap.size wz W := fun ob W hW => hS0 _ (((Below.refl _ wz).drew.alloc HB5.out.size _).trans hW)
            have hrw : ∀ ob, (wz.drew.alloc ob).ownsRow w1.heap.size 39 3 u8 al2.length (cnCells al2) := fun ob => Fd.row_past HR5.out ((Below.refl _ wz).drew.alloc (Nat.le_refl _) _) (Nat.le_refl _)
            have hsz : ∀ ob, w1.heap.size ≤ (wz.drew.alloc ob).heap.size := fun ob => by rw [World.size_alloc]; exact Nat.le_succ_of_le HB5.out.size
            clear hT
            go_wp2_with (fail)
            go_region_held3 (fun W => W.cell? ⟨og, oo, none⟩ = some (.string y.room) ∧ W.cell? ⟨og, oo + 1, none⟩ = some (.int .i64 y.un) ∧ W.cell? ⟨og, oo + 2, none⟩ = some (.int .i64 y.hi) ∧ Below w1.heap.size wz W)
              (first | assumption | exact hdr | exact hal _ | exact hap _ _ (by assumption))
              (first
                | (refine Tryz.stepCn Tryz.underlying22 (by rfl) _ _ (by rfl) (hrw _) (hsz _) (by rfl) (Fd.cs_one (heap_alloc_new _ _)) (by rfl) HLn.out ?_; intro v1 w2 hr2 hb2 hg2 hk2)
                | fail)
            all_goals
              have hbz := (((Below.refl w1.heap.size wz).drew.alloc HB5.out.size _).trans hb2)
              have hbx := block_lt HX5.out
              have HFI : Hid (w2.heap[bx]? = some (.cells #[.string x.room, .int .i64 x.un, .int .i64 x.hi] 39 (0, 0))) := (hg2.block bx (by show bx < (World.alloc wz _).heap.size; rw [World.size_alloc]; exact Nat.lt_succ_of_lt hbx) (fun e => HK4.out bx e.symm rfl)).trans ((heap_alloc_old _ _ hbx).trans HX5.out)
              clear hdr hal hap hrw hsz hS0 d1 d2 d3
              go_wp2
              exact ⟨⟨al2 ++ [y], r, by simpa using hr2, HB5.out.trans hbz, HT2.out.below hbz (fun k e => HOk.out k (by split at e <;> exact e)), fun k e => HOk.out k (by split at e <;> exact e), by have := HN4.out; simp at this ⊢; omega, HE5.out, HFI.out, fun k e => by
                rcases hk2 k e with e1 | e1
                · exact HK4.out k e1
                · have e2 : (World.alloc wz _).heap.size ≤ k := e1
                  rw [World.size_alloc] at e2
                  omega⟩, by simp [Fd.lenOf]⟩
          · have HEQ : Hid (mer cf R o = (al2 ++ [x]) ++ mer cf (y :: r) (o.drop (i + 1))) := by
              show _ = _
              rw [HE4.out, mer_take cf (by rw [HCF.out]; exact hc1)]
              simp
            have y0 : wz.cell? ⟨bx, 0, none⟩ = some (.string x.room) := cell_of_row _ _ _ _ _ _ HX5.out
            have y1 : wz.cell? ⟨bx, 1, none⟩ = some (.int .i64 x.un) := cell_of_row _ _ _ _ _ _ HX5.out
            have y2 : wz.cell? ⟨bx, 2, none⟩ = some (.int .i64 x.hi) := cell_of_row _ _ _ _ _ _ HX5.out
            go_wp2_with (first
              | (at_builtin; refine Tryz.appCn Tryz.underlying22 rfl _ _ rfl (Fd.row_past HR5.out ((Below.refl _ _).alloc (Nat.le_refl _) _) (Nat.le_refl _)) (by rw [World.size_alloc]; exact Nat.le_succ_of_le HB5.out.size) rfl (Fd.cs_one (heap_alloc_new _ _)) rfl HLn.out ?_; intro v1 w2 hr2 hb2)
              | fail)
            go_roundw
            case rel => exact ⟨i + 1, al2 ++ [x], y :: r, by first | rfl | (simp; done) | (simp; omega), by omega, by simpa using hr2, (HB5.out.alloc HB5.out.size _).trans hb2, (HO5.out.below ((Below.refl _ _).alloc HB5.out.size _) HOk.out).below hb2 HOk.out, HOk.out, by have := HN4.out; simp at this ⊢; omega, HEQ.out⟩
            case measure => simp [intOf]; omega
    · have q : ¬ (i : Int) < (o.length : Int) := by omega
      have e : i = o.length := by omega
      subst e
      have e2 : mer cf R o = al ++ rs := by rw [HE.out, List.drop_length]; simp [mer]
      have hln : al.length + rs.length ≤ 4398046511104 := by have := HNi.out; omega
      go_wp2_with (first
        | (at_builtin; refine Tryz.appCn Tryz.underlying22 rfl _ _ rfl HR.out HB.out.size rfl HC.out.1 rfl hln ?_; intro v1 w2 hr2 hb2)
        | fail)
      go_ret
      rw [← List.length_append, ← e2, HRR.out] at hr2
      exact ⟨_, rfl, Fd.row_mono hr2 HB1.out.size, HB1.out.trans ((HB.out.trans hb2).mono HB1.out.size)⟩
theorem Tryz.merge_any (f : Nat) (cf : Cn → Cn → Int) (ef : ∀ args w, (callFunc f args).run Tryz.prog w = .ok (.enter f args) w)
    (hf : ∀ (x y : Cn) (w : World), Calls Tryz.prog f #[.agg (cnE x).toArray, .agg (cnE y).toArray] w fun e w' => e = .returned (.int .i64 (cf x y)) ∧ ∃ q os', w' = grow (w.drewN q) os')
    {w : World} {V U : Value} {l o : List Cn} (h : Cs w V l) (hV : ∀ k, V.ownBlock = some k → k < w.heap.size) (g : Cs w U o) (hU : ∀ k, U.ownBlock = some k → k < w.heap.size) (hlo : l.length + o.length ≤ 4398046511104) :
    Calls Tryz.prog 32 #[V, U, .func (.func f) #[] #[]] w fun e w' => ∃ V', e = .returned V' ∧ w'.ownsRow w.heap.size 39 3 V' (mer cf (wout cf l o) o).length (cnCells (mer cf (wout cf l o) o)) ∧ Below w.heap.size w w' :=
  Tryz.merge_wide f cf ef hf h hV g hU (by omega) (by have := wout_len cf l o; omega)
end Go.Proofs
