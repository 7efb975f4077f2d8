/-
  GlobWhole, walked.
-/
import Derived.Test.YtjfhpgafglmhdabDoorWh
import Derived.Deep.RegionHeld3
import Derived.Deep.AppendLies
namespace Go.Proofs
open Go.RowKit Go.Gl
set_option maxRecDepth 100000 in
set_option maxHeartbeats 8000000 in
theorem Tryd.globWholeWalk {w : World} (v0 : Value) (hv0 : ∃ l, Strs w v0 l ∧ (∀ X ∈ l, X.size ≤ 140737488351232) ∧ l.length * 16 ≤ 140737488351232) (v1 : Value) (hv1 : ∃ l, Strs w v1 l ∧ (∀ X ∈ l, X.size ≤ 140737488351232) ∧ l.length * 16 ≤ 140737488351232) (hT : Tryd.Tabs w) :
    Calls Tryd.prog 4 #[v0, v1] w fun e w' => e = .returned (.bool true) ∧ Below w.heap.size w w' := by
  obtain ⟨l, hS, hX, hL⟩ := hv0
  obtain ⟨l1, hS1, hX1, hL1⟩ := hv1
  obtain ⟨i0, hi0, hz0, hz1, hz2⟩ := info_parts Tryd.info_pg
  obtain ⟨j0, hj0, hy0, hy1, hy2⟩ := info_parts Tryd.info_pr
  have hsh := Tryd.shown_any w hT
  have HT : Hid (Tryd.Tabs w) := hT
  clear hT
  obtain ⟨hm, a, c, b, off, rfl, hpos, hcell⟩ := hS
  obtain ⟨hm1, a1, c1, b1, off1, rfl, hpos1, hcell1⟩ := hS1
  have HB : Hid _ := hpos
  have HC : Hid _ := hcell
  have HX : Hid _ := hX
  have HB1 : Hid _ := hpos1
  have HC1 : Hid _ := hcell1
  have HX1 : Hid _ := hX1
  have HL : Hid _ := hL
  have hml : l.length ≤ 9223372036854775807 := hm
  have hml1 : l1.length ≤ 9223372036854775807 := hm1
  clear hpos hcell hX hpos1 hcell1 hX1 hm hm1 hL hL1
  go_enter Tryd.func4, Tryd.ntmps4
  go_wp2_with (first
    | (go_at_call 6; refine hsh.mono ?_; clear hsh; rintro e1 w1 ⟨rfl, bb1⟩; have t1 := HT.out.below bb1)
    | fail)
  go_loopw [6, 7, 8] (fun gv hv i wr => ∃ (k : Nat) (xs ys : List Nat) (ls : List (List P)), k ≤ l.length ∧ i = .int .i64 k ∧ Tryd.Pats wr w1.heap.size gv hv xs ys ls ∧ xs.length ≤ k ∧ Below w1.heap.size w1 wr) (fun _ _ i _ => l.length - (intOf i).toNat)
  case atStart => exact ⟨0, [], [], [], by omega, rfl, Tryd.Pats.none _ _, by simp, Below.refl _ _⟩
  case round =>
    obtain ⟨k, xs, ys, ls, hk, rfl, hP, hxk, hbw⟩ := hrel
    have HP : Hid _ := hP
    by_cases hlt : k < l.length
    · have q0 : (k : Int) < (l.length : Int) := by omega
      obtain ⟨X, hXk⟩ : ∃ X, l[k]? = some X := ⟨_, List.getElem?_eq_getElem hlt⟩
      have hXs := HX.out X (List.mem_of_getElem? hXk)
      obtain ⟨ha, hbl⟩ := HB.out (by omega)
      subst ha
      have h0 : wr.cell? ⟨b, off + k, none⟩ = some (.string X) := ((Below.then bb1 hbw).cell (p := ⟨b, off + k, none⟩) hbl).trans (HC.out k X hXk)
      have tR := t1.below hbw
      clear hXk hP
      cases hr : rawc X with
      | none =>
        have q1 := Tryd.both_no hr wr hXs tR
        clear hr
        go_wp2_with (first
          | (go_at_call 7; refine q1.mono ?_; clear q1; rintro e2 w2 ⟨rfl, t2, b2⟩)
          | fail)
        go_roundw
        case rel => exact ⟨k + 1, xs, ys, ls, by omega, by go_num, HP.out.keep b2, by omega, Below.then hbw b2⟩
        case measure => simp [intOf]; omega
      | some p =>
        have q1 := Tryd.both_yes hr wr hXs tR
        have hb8 : xs.length * 8 + 8 ≤ 140737488355328 := by have := HL.out; omega
        have hb9 : ys.length * 8 + 8 ≤ 140737488355328 := by rw [HP.out.ly, ← HP.out.lx]; exact hb8
        have HR : Hid _ := hr
        have hsR := hbw.size
        clear hr
        go_wp2_with (first
          | (go_at_call 7; refine q1.mono ?_; clear q1; rintro e2 w2 ⟨x, y, rfl, g2, r2, hl2, t2, b2⟩; have P2 := HP.out.keep b2; have s2 := b2.size)
          | (at_builtin; refine wpList_append_lies _ rfl _ _ 32 rfl w1.heap.size 23 i0 _ 1 8 Tryd.underlying32 hi0 hz0 hz1 hz2 rfl (by omega) _ xs.length (Gl.ptrs xs) rfl (Gl.row_alloc P2.gs _) ⟨w2.heap.size, 0, none⟩ 1 1 (Gl.ptrs [x]) rfl rfl (World.news_of_block (cs := #[.pointer (some ⟨x, 0, none⟩)]) (t := 23) (fr := (0, 0)) (heap_alloc_new w2 _)) (by simp [Gl.ptrs, Value.oneCell']) (by omega) (by unfold maxLen; omega) (by omega) (by simp; omega) (w2.heap.size + 1) (by simp) ?_; intro g5 cap5 w5 hown5 hg5 hat5 hlt5; have s5 : w2.heap.size + 1 ≤ w5.heap.size := by have := hg5.size; simpa using this)
          | (at_builtin; refine wpList_append_lies _ rfl _ _ 33 rfl w1.heap.size 24 j0 _ 1 8 Tryd.underlying33 hj0 hy0 hy1 hy2 rfl (by omega) _ ys.length (Gl.ptrs ys) rfl (Gl.row_alloc (Gl.row_typed P2.hs fun k c fz hk => Gl.keepT hg5 (Gl.row_type P2.gs) k c _ fz hk (by decide)) _) ⟨w5.heap.size, 0, none⟩ 1 1 (Gl.ptrs [y]) rfl rfl (World.news_of_block (cs := #[.pointer (some ⟨y, 0, none⟩)]) (t := 24) (fr := (0, 0)) (heap_alloc_new w5 _)) (by simp [Gl.ptrs, Value.oneCell']) (by omega) (by unfold maxLen; omega) (by omega) (by simp; omega) (w5.heap.size + 1) (by simp) ?_; intro g6 cap6 w6 hown6 hg6 hat6 hlt6)
          | fail)
        go_roundw
        case rel =>
          have hb5 := ((Below.refl w1.heap.size w2).alloc (by omega) _).trans (Gl.below_grown hg5 (by simp; omega) (row_block P2.gs))
          have hb6 := ((Below.refl w1.heap.size w5).alloc (by omega) _).trans (Gl.below_grown hg6 (by simp; omega) (row_block P2.hs))
          exact ⟨k + 1, xs ++ [x], ys ++ [y], ls ++ [p], by omega, by go_num, P2.add g2 r2 (okL_of HR.out hl2) hg5 hown5 hg6 hown6, by simp; omega, ((Below.then hbw b2).trans hb5).trans hb6⟩
        case measure => simp [intOf]; omega
    · have q0 : ¬ (k : Int) < (l.length : Int) := by omega
      obtain ⟨ga, gc, rfl⟩ := Gl.row_form hP.gs
      obtain ⟨ha, hc, rfl⟩ := Gl.row_form hP.hs
      have hxl : xs.length ≤ 9223372036854775807 := by omega
      have hbR := Below.then bb1 hbw
      have hxy : xs.length = ls.length := HP.out.lx
      have hyx : ys.length = ls.length := HP.out.ly
      have HXY : Hid _ := hxy
      have HYX : Hid _ := hyx
      clear hP bb1 hbw hxy hyx t1
      obtain ⟨W9, hW9⟩ : ∃ W : World, W = wr := ⟨_, rfl⟩
      subst hW9
      go_wp2
      go_loopw [12] (fun j wq => ∃ k2 : Nat, k2 ≤ l1.length ∧ j = .int .i64 k2 ∧ Below W9.heap.size W9 wq) (fun j _ => l1.length - (intOf j).toNat)
      case atStart => exact ⟨0, by omega, rfl, Below.refl _ _⟩
      case round =>
        obtain ⟨k2, hk2, rfl, hbq⟩ := hrel
        by_cases hlt2 : k2 < l1.length
        · have q2 : (k2 : Int) < (l1.length : Int) := by omega
          obtain ⟨Y, hYk⟩ : ∃ Y, l1[k2]? = some Y := ⟨_, List.getElem?_eq_getElem hlt2⟩
          have hYs := HX1.out Y (List.mem_of_getElem? hYk)
          obtain ⟨ha1, hbl1⟩ := HB1.out (by omega)
          subst ha1
          have hy0 : ∀ W, Below W9.heap.size W9 W → W.cell? ⟨b1, off1 + k2, none⟩ = some (.string Y) := fun W hW => ((Below.then hbR hW).cell (p := ⟨b1, off1 + k2, none⟩) hbl1).trans (HC1.out k2 Y hYk)
          have HY : Hid _ := hy0
          clear hYk hy0
          go_wp2
          go_loopw [13] (fun i wz => ∃ m : Nat, m ≤ xs.length ∧ i = .int .i64 m ∧ Below W9.heap.size W9 wz) (fun i _ => xs.length - (intOf i).toNat)
          case atStart => exact ⟨0, by omega, rfl, hbq⟩
          case round =>
            obtain ⟨m, hm, rfl, hbz⟩ := hrel
            clear hbq
            by_cases hlt3 : m < xs.length
            · have q3 : (m : Int) < (xs.length : Int) := by omega
              have q4 : (m : Int) < (ys.length : Int) := by rw [HYX.out, ← HXY.out]; omega
              obtain ⟨x, hx⟩ : ∃ x, xs[m]? = some x := ⟨_, List.getElem?_eq_getElem hlt3⟩
              obtain ⟨y, hy⟩ : ∃ y, ys[m]? = some y := ⟨_, List.getElem?_eq_getElem (by omega)⟩
              obtain ⟨p, hp⟩ : ∃ p, ls[m]? = some p := ⟨_, List.getElem?_eq_getElem (by rw [← HXY.out]; exact hlt3)⟩
              obtain ⟨hp1, hp2, hp3⟩ := HP.out.ok p (List.mem_of_getElem? hp)
              obtain ⟨gg, rfl, hggl, hcg⟩ := Gl.ptr_at HP.out.gs hx rfl
              obtain ⟨gh, rfl, hghl, hch⟩ := Gl.ptr_at HP.out.hs hy rfl
              have cA : ∀ W, Below W9.heap.size W9 W → Calls Tryd.prog 14 #[.pointer (some ⟨x, 0, none⟩), .string Y] W fun e w' => e = .returned (.bool (wholeB (norm [] p) Y)) ∧ Below W9.heap.size W9 w' := fun W hW =>
                (Tryd.whole_any (norm [] p) x Y W ((HP.out.g m x p hx hp).keep hW) hp2 (by omega) ((HT.out.below hbR).below hW)).mono fun _ _ h => ⟨h.1, Below.then hW h.2⟩
              have cB : ∀ W, Below W9.heap.size W9 W → Calls Tryd.prog 15 #[.pointer (some ⟨y, 0, none⟩), .string Y] W fun e w' => e = .returned (.bool (wholeB (norm [] p) Y)) ∧ Below W9.heap.size W9 w' := fun W hW =>
                (Tryd.refWhole_any p y Y W ((HP.out.r m y p hy hp).keep hW) hp1 hp3 hYs).mono fun _ _ h => ⟨h.1, Below.then hW h.2⟩
              have c1 := (hbz.cell (p := ⟨gg, m, none⟩) hggl).trans hcg
              have c2 : ∀ W, Below W9.heap.size W9 W → W.cell? ⟨gh, m, none⟩ = some (.pointer (some ⟨y, 0, none⟩)) := fun W hW => (hW.cell (p := ⟨gh, m, none⟩) hghl).trans hch
              have C2 : Hid _ := c2
              have cy := HY.out _ hbz
              generalize wholeB (norm [] p) Y = WB at *
              clear hx hy hp hp1 hp2 hp3 hcg hch c2
              go_wp2_with fail
              go_region_law (first
                | (go_simp; refine (cA _ (Below.then hbz (Gl.same_below (by rfl) (by rfl) (by rfl) (by rfl)))).mono ?_; rintro e4 w4 ⟨rfl, b4⟩; have c4 := C2.out _ b4; have cy4 := HY.out _ b4)
                | fail)
              all_goals
                go_wp2_with fail
                go_region_law (first
                  | (go_simp; refine (cB _ (Below.then b4 (Gl.same_below (by rfl) (by rfl) (by rfl) (by rfl)))).mono ?_; rintro e5 w5 ⟨rfl, b5⟩)
                  | fail)
                all_goals
                  go_wp2
                  go_roundw
                  case rel => exact ⟨m + 1, by omega, by go_num, b5⟩
                  case measure => simp [intOf]; omega
            · have q3 : ¬ (m : Int) < (xs.length : Int) := by omega
              go_wp2
              go_roundw
              case rel => exact ⟨k2 + 1, by omega, by go_num, hbz⟩
              case measure => simp [intOf]; omega
        · have q2 : ¬ (k2 : Int) < (l1.length : Int) := by omega
          go_wp2
          go_ret
          exact ⟨rfl, Below.then hbR hbq⟩
end Go.Proofs
