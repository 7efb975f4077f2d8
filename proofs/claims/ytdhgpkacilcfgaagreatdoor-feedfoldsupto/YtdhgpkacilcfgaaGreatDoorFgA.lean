/-
  FEED: what of a sorted list is not named in a list of texts.
-/
import Derived.Test.YtdhgpkacilcfgaaGreatDoorFdR
namespace Go.Fd
open Go.RowKit Go.Wi
section
variable (cf : Cn → ByteArray → Int)
def skipT (x : Cn) : List ByteArray → List ByteArray
  | [] => []
  | y :: r => if cf x y > 0 then skipT x r else y :: r
def woutT : List Cn → List ByteArray → List Cn
  | [], _ => []
  | x :: l, o => match skipT cf x o with
    | [] => x :: woutT l []
    | y :: r => if cf x y ≠ 0 then x :: woutT l (y :: r) else woutT l (y :: r)
theorem woutT_len : ∀ l o, (woutT cf l o).length ≤ l.length
  | [], _ => Nat.le_refl _
  | x :: l, o => by
    unfold woutT
    split
    · have := woutT_len l []; simp; omega
    · rename_i y r _
      have := woutT_len l (y :: r)
      split
      · simp; omega
      · simp; omega
theorem woutT_skip {x : Cn} {l : List Cn} {o o' : List ByteArray} (h : skipT cf x o' = skipT cf x o) : woutT cf (x :: l) o' = woutT cf (x :: l) o := by unfold woutT; rw [h]
end
/-- Texts that lie somewhere. -/
structure Ts (w : World) (V : Value) (l : List ByteArray) : Prop where
  ex : ∃ ad cap, V = .slice ad l.length cap ∧ l.length ≤ cap ∧ (ad = none → cap = 0) ∧ (l = [] ∨ ∃ g o, ad = some ⟨g, o, none⟩ ∧ g < w.heap.size ∧ ∀ (j : Nat) (u : ByteArray), l[j]? = some u → w.cell? ⟨g, o + j, none⟩ = some (.string u))
theorem Ts.nil (w : World) : Ts w (.slice none 0 0) [] := ⟨none, 0, rfl, Nat.le_refl _, fun _ => rfl, .inl rfl⟩
theorem Ts.keep {w w' : World} {V : Value} {l : List ByteArray} (h : Ts w V l) (hk : ∀ k, V.ownBlock = some k → w'.heap[k]? = w.heap[k]?) : Ts w' V l := by
  obtain ⟨ad, cap, rfl, hc, hn, h1⟩ := h.ex
  refine ⟨ad, cap, rfl, hc, hn, ?_⟩
  rcases h1 with h1 | ⟨g, o, rfl, hg, h1⟩
  · exact .inl h1
  · have e := hk g rfl
    refine .inr ⟨g, o, rfl, ?_, fun j u hu => (World.cell?_of_block (w := w) (a := ⟨g, o + j, none⟩) e).trans (h1 j u hu)⟩
    rw [Array.getElem?_eq_getElem hg] at e
    exact block_lt e
theorem Ts.below {w w' : World} {V : Value} {l : List ByteArray} {B : Nat} (h : Ts w V l) (g : Below B w w') (hB : ∀ k, V.ownBlock = some k → k < B) : Ts w' V l :=
  h.keep fun k hk => g.block k (hB k hk)
theorem Ts.past {w w' : World} {V : Value} {l : List ByteArray} (h : Ts w V l) (g : Below w.heap.size w w') : Ts w' V l := by
  obtain ⟨ad, cap, rfl, hc, hn, h1⟩ := h.ex
  refine ⟨ad, cap, rfl, hc, hn, ?_⟩
  rcases h1 with h1 | ⟨b, o, rfl, hg, h1⟩
  · exact .inl h1
  · exact .inr ⟨b, o, rfl, Nat.lt_of_lt_of_le hg g.size, fun j u hu => (World.cell?_of_block (w := w) (a := ⟨b, o + j, none⟩) (g.block b hg)).trans (h1 j u hu)⟩
theorem Ts.ofRow {w : World} {V : Value} {B n : Nat} {T : TypeId} {l : List ByteArray} (h : w.ownsRow B T 1 V n (l.map .string)) : Ts w V l := by
  have hl := h.1
  rw [List.length_map] at hl
  obtain rfl : n = l.length := by omega
  rcases h.2 with ⟨rfl, h0⟩ | ⟨g, cap, cur, rfl, hB, hg, h1, h2, h3, h4⟩
  · exact ⟨none, 0, by rw [h0], by omega, fun _ => rfl, .inl (List.eq_nil_of_length_eq_zero h0)⟩
  · refine ⟨some ⟨g, 0, none⟩, cap, rfl, h1, (fun e => by cases e), .inr ⟨g, 0, rfl, block_lt hg, fun j u hu => ?_⟩⟩
    have hu' : (l.map Value.string)[j]? = some (.string u) := by rw [List.getElem?_map, hu]; rfl
    rw [← h4] at hu'
    rw [cell_of_row _ _ _ _ _ _ hg]
    rw [List.getElem?_take] at hu'
    split at hu'
    · simpa using hu'
    · cases hu'
theorem Ts.is {w : World} {V : Value} {l : List ByteArray} (h : Ts w V l) : ∃ ad cap, V = .slice ad l.length cap := by
  obtain ⟨ad, cap, e, _⟩ := h.ex
  exact ⟨ad, cap, e⟩
theorem Ts.tail {w : World} {ad : Option Addr} {n cap : Nat} {c : ByteArray} {l : List ByteArray} (h : Ts w (.slice ad n cap) (c :: l)) : ∃ g o, ad = some ⟨g, o, none⟩ ∧ Ts w (.slice (some ⟨g, o + 1, none⟩) l.length (cap - 1)) l := by
  obtain ⟨ad', cap', e, hc, hn, h1⟩ := h.ex
  injection e with e1 e2 e3
  subst e1 e3
  rcases h1 with h1 | ⟨g, o, rfl, hg, h1⟩
  · cases h1
  · refine ⟨g, o, rfl, _, _, rfl, by simp at hc; omega, (fun e => by cases e), .inr ⟨g, o + 1, rfl, hg, fun j u hu => ?_⟩⟩
    have := h1 (j + 1) u (by simpa using hu)
    rw [show o + (j + 1) = o + 1 + j by omega] at this
    exact this
theorem Ts.at {w : World} {ad : Option Addr} {n cap : Nat} {l : List ByteArray} (h : Ts w (.slice ad n cap) l) {i : Nat} (hi : i < l.length) : ∃ g o, ad = some ⟨g, o, none⟩ ∧ w.cell? ⟨g, o + i, none⟩ = some (.string l[i]) := by
  obtain ⟨ad', cap', e, hc, hn, h1⟩ := h.ex
  injection e with e1 e2 e3
  subst e1 e3
  rcases h1 with rfl | ⟨g, o, rfl, hg, h1⟩
  · simp at hi
  · exact ⟨g, o, rfl, h1 _ _ (List.getElem?_eq_getElem hi)⟩
end Go.Fd
namespace Go.Proofs
open Go.RowKit Go.Wi Go.Fd Go.Sort
set_option maxRecDepth 20000 in
set_option maxHeartbeats 1000000 in
theorem Tryz.withoutT_any (f : Nat) (cf : Cn → ByteArray → Int) (ef : ∀ args w, (callFunc f args).run Tryz.prog w = .ok (.enter f args) w)
    (hf : ∀ (x : Cn) (y : ByteArray) (w : World), Calls Tryz.prog f #[.agg (cnE x).toArray, .string y] w fun e w' => e = .returned (.int .i64 (cf x y)) ∧ ∃ q os', w' = grow (w.drewN q) os')
    {w : World} {V U : Value} {l : List Cn} {o : List ByteArray} (h : Cs w V l) (hV : ∀ k, V.ownBlock = some k → k < w.heap.size) (g : Ts w U o) (hU : ∀ k, U.ownBlock = some k → k < w.heap.size) (hl : l.length ≤ 4398046511104) (ho : o.length ≤ 4398046511104) :
    Calls Tryz.prog 28 #[V, U, .func (.func f) #[] #[]] w fun e w' => ∃ V', e = .returned V' ∧ w'.ownsRow w.heap.size 39 3 V' (woutT cf l o).length (cnCells (woutT cf l o)) ∧ Below w.heap.size w w' := by
  obtain ⟨ad, cap, rfl⟩ := h.is
  have hmx : Tryz.prog.follows .mixedOrders = true := by kernel_rfl
  have HF : Hid (∀ (x : Cn) (y : ByteArray) (w : World), Calls Tryz.prog f #[.agg #[.string x.room, .int .i64 x.un, .int .i64 x.hi], .string y] w fun e w' => e = .returned (.int .i64 (cf x y)) ∧ ∃ q os', w' = grow (w.drewN q) os') := hf
  have HC : Hid (Cs w (.slice ad l.length cap) l) := h
  have HV : Hid (∀ k, (Value.slice ad l.length cap).ownBlock = some k → k < w.heap.size) := hV
  have HL : Hid (l.length ≤ 4398046511104) := hl
  have HG : Hid (Ts w U o ∧ (∀ k, U.ownBlock = some k → k < w.heap.size) ∧ o.length ≤ 4398046511104) := ⟨g, hU, ho⟩
  have hN : l.length < 9223372036854775807 := by omega
  clear h hV hl hf g hU ho
  go_enter Tryz.func28, Tryz.ntmps28
  go_wp2
  go_loopw [1, 7, 9, 12] (fun O R _ iv wr => ∃ (i : Nat) (res : List Cn) (oi : List ByteArray), iv = .int .i64 i ∧ i ≤ l.length ∧ res.length ≤ i ∧ wr.ownsRow w.heap.size 39 3 R res.length (cnCells res) ∧ Below w.heap.size w wr ∧ Ts wr O oi ∧ (∀ k, O.ownBlock = some k → k < w.heap.size) ∧ oi.length ≤ 4398046511104 ∧ woutT cf l o = res ++ woutT cf (l.drop i) oi) (fun _ _ _ iv _ => l.length - (intOf iv).toNat)
  case atStart => exact ⟨0, [], o, rfl, Nat.zero_le _, Nat.le_refl _, World.ownsRow_nil _ _ _ _, Below.refl _ _, HG.out.1, HG.out.2.1, HG.out.2.2, rfl⟩
  case round =>
    obtain ⟨i, res, oi, rfl, hi, hres, hrow, hbel, hO, hOk, hlo, heq⟩ := hrel
    have HR : Hid (wr.ownsRow w.heap.size 39 3 u7 res.length (cnCells res)) := hrow
    have HB : Hid (Below w.heap.size w wr) := hbel
    have HO : Hid (Ts wr u1 oi ∧ (∀ k, u1.ownBlock = some k → k < w.heap.size) ∧ oi.length ≤ 4398046511104) := ⟨hO, hOk, hlo⟩
    have HE : Hid (woutT cf l o = res ++ woutT cf (l.drop i) oi) := heq
    clear hrow hbel hO hOk hlo heq
    by_cases hlt : i < l.length
    · have q : (i : Int) < (l.length : Int) := by omega
      have HC2 := HC.out.below HB.out HV.out
      obtain ⟨g, o0, rfl, c1, c2, c3⟩ := HC2.at hlt
      rw [← getElem!_pos l i hlt] at c1 c2 c3
      have HD : Hid (l.drop i = l[i]! :: l.drop (i + 1)) := Fd.drop_at hlt
      generalize l[i]! = x at *
      clear HC2
      go_upto_region 5 with (fail)
      obtain ⟨wq, hwq⟩ : ∃ W, W = wr.alloc (.cells #[.string x.room, .int .i64 x.un, .int .i64 x.hi] 39) := ⟨_, rfl⟩
      have hb1 : Below wr.heap.size wr wq := by rw [hwq]; exact (Below.refl _ wr).alloc (Nat.le_refl _) _
      have HBq : Hid (Below w.heap.size w wq) := HB.out.trans (hb1.mono HB.out.size)
      have HRq : Hid (wq.ownsRow w.heap.size 39 3 u7 res.length (cnCells res)) := Fd.row_past HR.out hb1 (Nat.le_refl _)
      have HXq : Hid (wq.heap[wr.heap.size]? = some (.cells #[.string x.room, .int .i64 x.un, .int .i64 x.hi] 39 (0, 0))) := by show _ = _; rw [hwq]; exact heap_alloc_new _ _
      have HOq : Hid (Ts wq u1 oi ∧ (∀ k, u1.ownBlock = some k → k < w.heap.size) ∧ oi.length ≤ 4398046511104) := ⟨HO.out.1.past hb1, HO.out.2⟩
      rw [← hwq]
      generalize wr.heap.size = bx at *
      clear hwq hb1 c1 c2 c3 HR HB HO
      have HLn : Hid (res.length + 1 ≤ 4398046511104) := by have := HL.out; show _ ≤ _; omega
      go_loopw [1] (fun O wr2 => ∃ o' : List ByteArray, Ts wr2 O o' ∧ (∀ k, O.ownBlock = some k → k < w.heap.size) ∧ o'.length ≤ 4398046511104 ∧ skipT cf x o' = skipT cf x oi ∧ wr2.ownsRow w.heap.size 39 3 u7 res.length (cnCells res) ∧ Below w.heap.size w wr2 ∧ wr2.heap[bx]? = some (.cells #[.string x.room, .int .i64 x.un, .int .i64 x.hi] 39 (0, 0))) (fun O _ => Fd.lenOf O)
      case atStart => exact ⟨oi, HOq.out.1, HOq.out.2.1, HOq.out.2.2, rfl, HRq.out, HBq.out, HXq.out⟩
      case round =>
        obtain ⟨o', hO', hOk', hlo', hsk, hr', hb', hx'⟩ := hrel
        have HK : Hid (skipT cf x o' = skipT cf x oi) := hsk
        have HR4 : Hid (wr.ownsRow w.heap.size 39 3 u7 res.length (cnCells res)) := hr'
        have HB4 : Hid (Below w.heap.size w wr) := hb'
        have HX4 : Hid (wr.heap[bx]? = some (.cells #[.string x.room, .int .i64 x.un, .int .i64 x.hi] 39 (0, 0))) := hx'
        have HLO : Hid (o'.length ≤ 4398046511104) := hlo'
        obtain ⟨od, oc, rfl⟩ := hO'.is
        have HO4 : Hid (Ts wr (.slice od o'.length oc) o') := hO'
        have HOk : Hid (∀ k, (Value.slice od o'.length oc).ownBlock = some k → k < w.heap.size) := hOk'
        have hbl := block_lt hx'
        clear hsk hr' hb' hlo' hOk'
        cases o' with
        | nil =>
          clear hO' hx'
          have HEQ : Hid (woutT cf l o = (res ++ [x]) ++ woutT cf (l.drop (i + 1)) []) := by
            show _ = _
            rw [HE.out, HD.out, ← woutT_skip cf HK.out]
            simp [woutT, skipT]
          have HR5 : Hid (wr.drew.drew.ownsRow w.heap.size 39 3 u7 res.length (cnCells res)) := Fd.row_keep HR4.out fun _ _ => rfl
          have HB5 : Hid (Below w.heap.size w wr.drew.drew) := HB4.out.drew.drew
          have HX5 : Hid (wr.drew.drew.heap[bx]? = some (.cells #[.string x.room, .int .i64 x.un, .int .i64 x.hi] 39 (0, 0))) := HX4.out
          have HO5 : Hid (Ts wr.drew.drew (.slice od 0 oc) []) := HO4.out.keep fun _ _ => rfl
          have y0 : wr.drew.drew.cell? ⟨bx, 0, none⟩ = some (.string x.room) := cell_of_row _ _ _ _ _ _ HX5.out
          have y1 : wr.drew.drew.cell? ⟨bx, 1, none⟩ = some (.int .i64 x.un) := cell_of_row _ _ _ _ _ _ HX5.out
          have y2 : wr.drew.drew.cell? ⟨bx, 2, none⟩ = some (.int .i64 x.hi) := cell_of_row _ _ _ _ _ _ HX5.out
          clear HR4 HB4 HX4 HO4
          rw [List.length_nil]
          go_wp2_with (fail)
          go_big_region_o
          go_wp2_with (fail)
          go_big_region_o
          generalize wr.drew.drew = wz at *
          go_wp2_with (first
            | (at_builtin; refine Tryz.appCn Tryz.underlying22 rfl _ _ rfl (Fd.row_past HR5.out ((Below.refl _ _).alloc (Nat.le_refl _) _) (Nat.le_refl _)) (by rw [World.size_alloc]; exact Nat.le_succ_of_le HB5.out.size) rfl (Fd.cs_one (heap_alloc_new _ _)) rfl HLn.out ?_; intro v1 w2 hr2 hb2)
            | fail)
          go_roundw
          case rel => exact ⟨i + 1, res ++ [x], [], by first | rfl | (simp; done) | (simp; omega), by omega, by simp; omega, by simpa using hr2, (HB5.out.alloc HB5.out.size _).trans hb2, (HO5.out.below ((Below.refl _ _).alloc HB5.out.size _) HOk.out).below hb2 HOk.out, HOk.out, HLO.out, HEQ.out⟩
          case measure => simp [intOf]; omega
        | cons y r =>
          obtain ⟨og, oo, e', d1⟩ := hO'.at (i := 0) (by simp)
          subst e'
          simp only [List.getElem_cons_zero, Nat.add_zero] at d1
          rw [List.length_cons] at HOk HO4 ⊢
          have hogl : og < wr.heap.size := Nat.lt_of_lt_of_le (HOk.out og rfl) HB4.out.size
          have x0 : ∀ n os, (grow (wr.drewN n) os).cell? ⟨bx, 0, none⟩ = some (.string x.room) := cell_grown hbl (cell_of_row _ _ _ _ _ _ hx')
          have x1 : ∀ n os, (grow (wr.drewN n) os).cell? ⟨bx, 1, none⟩ = some (.int .i64 x.un) := cell_grown hbl (cell_of_row _ _ _ _ _ _ hx')
          have x2 : ∀ n os, (grow (wr.drewN n) os).cell? ⟨bx, 2, none⟩ = some (.int .i64 x.hi) := cell_grown hbl (cell_of_row _ _ _ _ _ _ hx')
          have z0 : ∀ n os, (grow (wr.drewN n) os).cell? ⟨og, oo, none⟩ = some (.string y) := cell_grown hogl d1
          have hcmp : ∀ n os, Calls Tryz.prog f #[.agg #[.string x.room, .int .i64 x.un, .int .i64 x.hi], .string y] (grow (wr.drewN n) os) fun e w' => e = .returned (.int .i64 (cf x y)) ∧ ∃ q os', w' = grow ((grow (wr.drewN n) os).drewN q) os' := fun n os => HF.out x y _
          have hcf : ∃ c, cf x y = c := ⟨_, rfl⟩
          obtain ⟨c, hc⟩ := hcf
          have HCF : Hid (cf x y = c) := hc
          rw [hc] at hcmp
          have kl : (r.length : Int) + 1 > 0 := by omega
          clear hO' hx' d1 hc
          go_wp2_with (fail)
          go_quiet_grown (first | (go_at_fn f; refine Calls.grown_of (hcmp _ _)))
          have HR5 : Hid ((grow (wr.drewN nq) osq).ownsRow w.heap.size 39 3 u7 res.length (cnCells res)) := Fd.row_grow HR4.out nq osq
          have HB5 : Hid (Below w.heap.size w (grow (wr.drewN nq) osq)) := Fd.below_grow HB4.out HB4.out.size nq osq
          have HX5 : Hid ((grow (wr.drewN nq) osq).heap[bx]? = some (.cells #[.string x.room, .int .i64 x.un, .int .i64 x.hi] 39 (0, 0))) := by show _ = _; rw [heap_grow_old _ _ (show bx < (wr.drewN nq).heap.size from block_lt HX4.out)]; exact HX4.out
          have HO5 : Hid (Ts (grow (wr.drewN nq) osq) (.slice (some ⟨og, oo, none⟩) (r.length + 1) oc) (y :: r)) := HO4.out.past (Fd.past_grow ⟨nq, osq, rfl⟩)
          clear x0 x1 x2 z0 hcmp
          generalize grow (wr.drewN nq) osq = wz at *
          clear HR4 HB4 HX4 HO4 hbl hogl
          by_cases hc1 : 0 < c
          · have HK2 : Hid (skipT cf x r = skipT cf x oi) := by
              show _ = _
              rw [← HK.out, skipT, if_pos (by rw [HCF.out]; exact hc1)]
            obtain ⟨og', oo', e', hT⟩ := HO5.out.tail
            injection e' with e'
            injection e' with e1 e2
            subst e1 e2
            have hoc : r.length + 1 ≤ oc := by
              obtain ⟨_, _, e, h1, _⟩ := HO5.out.ex
              injection e with _ _ e3
              subst e3
              simpa using h1
            have k1 : (1 : Int) ≤ (r.length : Int) + 1 := by omega
            have k2 : (r.length : Int) + 1 ≤ (oc : Int) := by omega
            have HT : Hid (Ts wz (.slice (some ⟨og, oo + 1, none⟩) r.length (oc - 1)) r) := hT
            have HLO2 : Hid (r.length ≤ 4398046511104) := by have := HLO.out; simp at this; show _ ≤ _; omega
            clear hT
            have HT2 : Hid (Ts wz (.slice (if oc = 1 then some ⟨og, oo, none⟩ else some ⟨og, oo + 1, none⟩) r.length (oc - 1)) r) := by
              by_cases e : oc = 1
              · have hr0 : r = [] := List.eq_nil_of_length_eq_zero (by omega)
                subst hr0
                rw [if_pos e]
                exact ⟨_, _, rfl, Nat.zero_le _, (fun e => by cases e), .inl rfl⟩
              · rw [if_neg e]; exact HT.out
            go_wp2
            exact ⟨⟨r, HT2.out, fun k e => HOk.out k (by split at e <;> exact e), HLO2.out, HK2.out, HR5.out, HB5.out, HX5.out⟩, by simp [Fd.lenOf]⟩
          · have hbl5 := block_lt HX5.out
            have hogl5 : og < wz.heap.size := Nat.lt_of_lt_of_le (HOk.out og rfl) HB5.out.size
            obtain ⟨og', oo', e', d1⟩ := HO5.out.at (i := 0) (by simp)
            injection e' with e'
            injection e' with e1 e2
            subst e1 e2
            simp only [List.getElem_cons_zero, Nat.add_zero] at d1
            have x0 : ∀ n os, (grow (wz.drewN n) os).cell? ⟨bx, 0, none⟩ = some (.string x.room) := cell_grown hbl5 (cell_of_row _ _ _ _ _ _ HX5.out)
            have x1 : ∀ n os, (grow (wz.drewN n) os).cell? ⟨bx, 1, none⟩ = some (.int .i64 x.un) := cell_grown hbl5 (cell_of_row _ _ _ _ _ _ HX5.out)
            have x2 : ∀ n os, (grow (wz.drewN n) os).cell? ⟨bx, 2, none⟩ = some (.int .i64 x.hi) := cell_grown hbl5 (cell_of_row _ _ _ _ _ _ HX5.out)
            have z0 : ∀ n os, (grow (wz.drewN n) os).cell? ⟨og, oo, none⟩ = some (.string y) := cell_grown hogl5 d1
            have hcmp : ∀ n os, Calls Tryz.prog f #[.agg #[.string x.room, .int .i64 x.un, .int .i64 x.hi], .string y] (grow (wz.drewN n) os) fun e w' => e = .returned (.int .i64 c) ∧ ∃ q os', w' = grow ((grow (wz.drewN n) os).drewN q) os' := fun n os => by rw [← HCF.out]; exact HF.out x y _
            have HSk : Hid (skipT cf x (y :: r) = y :: r) := by show _ = _; rw [skipT, if_neg (by rw [HCF.out]; exact hc1)]
            have kne : ((r.length : Int) + 1 == 0) = false := by simp; omega
            clear d1
            go_wp2_with (fail)
            go_quiet_grown (first | (go_at_fn f; refine Calls.grown_of (hcmp _ _)))
            have HR6 : Hid ((grow (wz.drewN nq) osq).ownsRow w.heap.size 39 3 u7 res.length (cnCells res)) := Fd.row_grow HR5.out nq osq
            have HB6 : Hid (Below w.heap.size w (grow (wz.drewN nq) osq)) := Fd.below_grow HB5.out HB5.out.size nq osq
            have HX6 : Hid ((grow (wz.drewN nq) osq).heap[bx]? = some (.cells #[.string x.room, .int .i64 x.un, .int .i64 x.hi] 39 (0, 0))) := by show _ = _; rw [heap_grow_old _ _ (show bx < (wz.drewN nq).heap.size from block_lt HX5.out)]; exact HX5.out
            have HO6 : Hid (Ts (grow (wz.drewN nq) osq) (.slice (some ⟨og, oo, none⟩) (r.length + 1) oc) (y :: r)) := HO5.out.past (Fd.past_grow ⟨nq, osq, rfl⟩)
            have y0 := x0 nq osq
            have y1 := x1 nq osq
            have y2 := x2 nq osq
            clear x0 x1 x2 z0 hcmp
            generalize grow (wz.drewN nq) osq = wy at *
            clear HR5 HB5 HX5 HO5 hbl5 hogl5
            by_cases hc0 : c = 0
            · subst hc0
              have HEQ : Hid (woutT cf l o = res ++ woutT cf (l.drop (i + 1)) (y :: r)) := by
                show _ = _
                rw [HE.out, HD.out, ← woutT_skip cf HK.out]
                simp [woutT, HSk.out, HCF.out]
              go_wp2
              go_roundw
              case rel => exact ⟨i + 1, res, y :: r, by first | rfl | (simp; done) | (simp; omega), by omega, by omega, HR6.out, HB6.out, HO6.out, HOk.out, HLO.out, HEQ.out⟩
              case measure => simp [intOf]; omega
            · have hc' : (c != 0) = true := by simpa using hc0
              have HEQ : Hid (woutT cf l o = (res ++ [x]) ++ woutT cf (l.drop (i + 1)) (y :: r)) := by
                show _ = _
                rw [HE.out, HD.out, ← woutT_skip cf HK.out]
                simp [woutT, HSk.out, HCF.out, hc0]
              go_wp2_with (first
                | (at_builtin; refine Tryz.appCn Tryz.underlying22 rfl _ _ rfl (Fd.row_past HR6.out ((Below.refl _ _).alloc (Nat.le_refl _) _) (Nat.le_refl _)) (by rw [World.size_alloc]; exact Nat.le_succ_of_le HB6.out.size) rfl (Fd.cs_one (heap_alloc_new _ _)) rfl HLn.out ?_; intro v1 w2 hr2 hb2)
                | fail)
              go_roundw
              case rel => exact ⟨i + 1, res ++ [x], y :: r, by first | rfl | (simp; done) | (simp; omega), by omega, by simp; omega, by simpa using hr2, (HB6.out.alloc HB6.out.size _).trans hb2, (HO6.out.below ((Below.refl _ _).alloc HB6.out.size _) HOk.out).below hb2 HOk.out, HOk.out, HLO.out, HEQ.out⟩
              case measure => simp [intOf]; omega
    · have q : ¬ (i : Int) < (l.length : Int) := by omega
      have e : i = l.length := by omega
      subst e
      have e2 : woutT cf l o = res := by rw [HE.out, List.drop_length]; simp [woutT]
      go_wp2
      go_ret
      exact ⟨_, rfl, HR.out, HB.out⟩
end Go.Proofs
