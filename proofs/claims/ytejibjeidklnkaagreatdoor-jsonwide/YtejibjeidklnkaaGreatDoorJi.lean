/-
  'slices.Insert', one item, at a row of one's own.
-/
import Derived.Test.YtejibjeidklnkaaGreatDoorJc
import Derived.Test.YtejibjeidklnkaaGreatDoorJg
import Derived.Shelf.Spec.SlicesInsertGrow
namespace Go.Proofs
open Go.RowKit Go.Jv
theorem Jv.cell_heap {w : World} {g : Nat} {cur : Array Value} {e : TypeId} (h : w.heap[g]? = some (.cells cur e (0, 0))) (j : Nat) : w.cell? ⟨g, j, none⟩ = cur[j]? := by
  exact cell_of_row _ _ j _ _ _ h
theorem Jv.frozen_heap {w : World} {g : Nat} {cur : Array Value} {e : TypeId} (h : w.heap[g]? = some (.cells cur e (0, 0))) (j : Nat) : w.frozen? ⟨g, j, none⟩ = false := by
  simp [World.frozen?, h]
theorem Tryz.size_ptr : ∀ w, (Go.sizeOf 27).run Tryz.prog w = .ok 1 w := fun w => by kernel_rfl
set_option maxHeartbeats 4000000 in
set_option maxRecDepth 100000 in
/-- At the end. -/
theorem Tryz.ins_end_ptr (B : Nat) (sv : Value) (xs : List Value) (w : World) (hrow : w.ownsRow B 27 1 sv xs.length xs) (hB : B ≤ w.heap.size) (hn : xs.length ≤ 64) (x : Value) (hx : x.oneCell' = true) (vb : Nat) (hvb : w.heap[vb]? = some (.cells #[x] 27 (0, 0))) :
    Calls Tryz.prog 50 #[sv, .int .i64 xs.length, .slice (some ⟨vb, 0, none⟩) 1 1] w fun e w' => ∃ g cap, e = .returned (.slice (some ⟨g, 0, none⟩) (xs.length + 1) cap) ∧ w'.ownsRow B 27 1 (.slice (some ⟨g, 0, none⟩) (xs.length + 1) cap) (xs.length + 1) (xs ++ [x]) ∧ w.grownBy w' sv.ownBlock ∧ (sv.ownBlock = some g ∨ g = w.heap.size) := by
  obtain ⟨i0, hi0, hz0, hz1, hz2⟩ := info_parts Tryz.info_ptr
  obtain ⟨a, c, hsv⟩ := Jv.row_form hrow
  have hnews : ∀ j u, [x][j]? = some u → w.cell? ((⟨vb, 0, none⟩ : Addr).add j) = some u := World.news_of_block (cs := #[x]) (t := 27) (fr := (0, 0)) hvb
  have hcap : a = none → c = 0 ∧ xs.length = 0 := by
    rintro rfl
    rcases hrow.2 with ⟨h1, h2⟩ | ⟨g, cap, cur, h1, _⟩
    · rw [hsv] at h1; injection h1 with _ _ h3; exact ⟨h3, h2⟩
    · rw [hsv] at h1; injection h1 with h1; cases h1
  have hle : xs.length ≤ c := by
    rcases hrow.2 with ⟨h1, h2⟩ | ⟨g, cap, cur, h1, _, _, h4, _⟩
    · omega
    · rw [hsv] at h1; injection h1 with _ _ h3; omega
  have hmx : c ≤ 9223372036854775807 := by
    rcases hrow.2 with ⟨h1, h2⟩ | ⟨g, cap, cur, h1, _, _, _, h5, _⟩
    · rw [hsv] at h1; injection h1 with _ _ h3; omega
    · rw [hsv] at h1; injection h1 with _ _ h3; unfold maxLen at h5; omega
  subst hsv
  generalize hnn : xs.length = n at *
  by_cases hcn : c = n
  · subst hcn
    go_enter Tryz.func50, Tryz.ntmps50
    go_wp2_with (first | (at_builtin; refine wpList_append_lies _ rfl _ _ _ rfl B 27 i0 _ 1 8 Tryz.underlying53 hi0 hz0 hz1 hz2 rfl (by omega) (.slice a c c) c xs rfl hrow ⟨vb, 0, none⟩ 1 1 [x] rfl rfl hnews (by simpa using hx) (by omega) (by unfold maxLen; omega) (by omega) hB w.heap.size rfl ?_; intro g cap w1 hown hgrow hat hlt) | fail)
    all_goals (go_ret; exact ⟨g, cap, rfl, hown, hgrow, hat⟩)
  · skip
    go_enter Tryz.func50, Tryz.ntmps50
    go_wp2_with (first | (at_builtin; refine wpList_append_lies _ rfl _ _ _ rfl B 27 i0 _ 1 8 Tryz.underlying53 hi0 hz0 hz1 hz2 rfl (by omega) (.slice a n c) n xs rfl hrow ⟨vb, 0, none⟩ 1 1 [x] rfl rfl hnews (by simpa using hx) (by omega) (by unfold maxLen; omega) (by omega) hB w.heap.size rfl ?_; intro g cap w1 hown hgrow hat hlt) | fail)
    all_goals (go_ret; exact ⟨g, cap, rfl, hown, hgrow, hat⟩)
set_option maxHeartbeats 4000000 in
set_option maxRecDepth 100000 in
/-- In the midst, no room. -/
theorem Tryz.ins_grow_ptr (g n i vb : Nat) (xs : List Value) (x : Value) (w : World) (hi : i < n) (hn : n ≤ 64) (hxl : xs.length = n) (hcs : ∀ j v, xs[j]? = some v → w.cell? ⟨g, j, none⟩ = some v) (hvs : w.cell? ⟨vb, 0, none⟩ = some x)
    (h1c : ∀ v ∈ xs, v.oneCell' = true) (hx : x.oneCell' = true) :
    Calls Tryz.prog 50 #[.slice (some ⟨g, 0, none⟩) n n, .int .i64 i, .slice (some ⟨vb, 0, none⟩) 1 1] w fun e w' => ∃ G, n + 1 ≤ G ∧ G ≤ maxLen ∧ e = .returned (.slice (some ⟨w.heap.size, 0, none⟩) (n + 1) G) ∧
      w' = (((w.alloc (.cells ((xs.take i).toArray ++ Builtin.zeroCells (.pointer none : Value).cells (n + 1 - i) ++ Builtin.zeroCells (.pointer none : Value).cells (G - (n + 1))) 27)).drew.setCells w.heap.size i [x]).drew).setCells w.heap.size (i + 1) (xs.drop i) := by
  obtain ⟨i0, hi0, hz0, hzs, hzb⟩ := info_parts Tryz.info_ptr
  have hsz : (Tryz.prog.info? 27).map (·.size) = some 1 := by rw [hi0]; simp [hzs]
  have hgw : g < w.heap.size := block_lt_of_cell (hcs 0 _ (List.getElem?_eq_getElem (by omega)))
  have hvw : vb < w.heap.size := block_lt_of_cell hvs
  have hkk : (n : Int) + 1 - (i : Int) = ((n + 1 - i : Nat) : Int) := by omega
  have hik : i + (n + 1 - i) = n + 1 := by omega
  have hold : (Builtin.firstCells i0.size i (.slice (some ⟨g, 0, none⟩) i n)).run Tryz.prog w.drew = .ok (xs.take i).toArray w.drew := by
    rw [hzs]
    exact run_firstCells_some w.drew 1 i ⟨g, 0, none⟩ i n (xs.take i) (by rw [List.length_take]; omega) (fun j v hj => by
      rw [Addr.add_lit, Nat.zero_add]
      rw [List.getElem?_take] at hj
      split at hj
      · exact hcs j v hj
      · cases hj)
  have hrz : ∀ ty, (Builtin.append_ #[53, 3] ty #[.slice (some ⟨g, 0, none⟩) i n, .int .i64 ((n : Int) + 1 - (i : Int))]).run Tryz.prog w =
      .ok (.slice (some ⟨w.heap.size, 0, none⟩) (n + 1) (grownCap w (n + 1) n 27)) (w.drew.alloc (.cells ((xs.take i).toArray ++ Builtin.zeroCells (.pointer none : Value).cells (n + 1 - i) ++ Builtin.zeroCells (.pointer none : Value).cells (grownCap w (n + 1) n 27 - (n + 1))) 27)) := fun ty => by
    have h := Lib.run_append_grow_zeros w 53 3 ty 27 i0 _ .i64 .i64 Tryz.underlying53 Tryz.underlying3 hi0 hz0 (some ⟨g, 0, none⟩) i n (xs.take i) hold (n + 1 - i) (by omega) (by omega) (by omega) (by omega) (by rw [hzb]; omega) (by rw [hzb, hik]; exact growslice_fits (by omega) (by omega))
    rw [hik] at h
    rw [hkk]
    exact h
  have hGn : n + 1 ≤ grownCap w (n + 1) n 27 := grownCap_ge w _ _ _
  have hGm : grownCap w (n + 1) n 27 ≤ maxLen := grownCap_le_maxLen w (n + 1) n 27 (by unfold maxLen; omega)
  generalize grownCap w (n + 1) n 27 = G at *
  have hG63 : G ≤ 9223372036854775807 := by unfold maxLen at hGm; omega
  obtain ⟨ROW, hROW⟩ : ∃ ROW : Array Value, ROW = (xs.take i).toArray ++ Builtin.zeroCells (.pointer none : Value).cells (n + 1 - i) ++ Builtin.zeroCells (.pointer none : Value).cells (G - (n + 1)) := ⟨_, rfl⟩
  rw [← hROW] at hrz
  have HROW : Hid (ROW = (xs.take i).toArray ++ Builtin.zeroCells (.pointer none : Value).cells (n + 1 - i) ++ Builtin.zeroCells (.pointer none : Value).cells (G - (n + 1))) := hROW
  have hRl : n + 1 ≤ ROW.size := by
    rw [hROW]
    simp [Builtin.zeroCells, Value.cells]
    omega
  obtain ⟨W1, hW1⟩ : ∃ W1, W1 = w.drew.alloc (.cells ROW 27) := ⟨_, rfl⟩
  rw [← hW1] at hrz
  have hN : ∀ j, j < n + 1 → (W1.cell? ⟨w.heap.size, j, none⟩).isSome = true := fun j hj => by
    rw [hW1, World.cell?_alloc_at (w := w.drew) ROW _ w.heap.size j rfl, Array.getElem?_eq_getElem (by omega)]; rfl
  have hNf : ∀ j, W1.frozen? ⟨w.heap.size, j, none⟩ = false := fun j => by rw [hW1]; exact World.frozen?_alloc_at (w := w.drew) ROW _ w.heap.size j rfl
  have hOb : ∀ j v, w.cell? ⟨g, j, none⟩ = some v → W1.cell? ⟨g, j, none⟩ = some v := fun j v h => by rw [hW1, World.cell?_alloc_past (w := w.drew) _ g j hgw]; exact h
  have hOv : W1.cell? ⟨vb, 0, none⟩ = some x := by rw [hW1, World.cell?_alloc_past (w := w.drew) _ vb 0 hvw]; exact hvs
  have hcpA : ∀ (W : World), (∀ y, W.cell? y = W1.cell? y) → (∀ y, W.frozen? y = W1.frozen? y) → ∀ ty dc, (Builtin.copy_ #[53, 53] ty #[.slice (some ⟨w.heap.size, i, none⟩) (n + 1 - i) dc, .slice (some ⟨vb, 0, none⟩) 1 1]).run Tryz.prog W = .ok (goInt [x].length) (W.setCells w.heap.size i [x]) := fun W hWc hWf ty dc =>
    run_copy_cells W _ _ ty 27 w.heap.size i (n + 1 - i) dc ⟨vb, 0, none⟩ 1 1 [x] Tryz.underlying53 hsz (by simp only [List.length_cons, List.length_nil, Nat.min_def]; split <;> omega)
      (fun j v hj => by
        rw [Addr.add_lit, Nat.zero_add, hWc]
        match j, hj with
        | 0, hj => obtain rfl : x = v := by simpa using hj
                   exact hOv
        | j + 1, hj => simp at hj)
      (fun j hj => by rw [hWc]; exact hN _ (by simp at hj; omega)) (fun j hj => by rw [hWf]; exact hNf _) (by simpa using hx)
  have hGi : ¬ (G = i) := by omega
  have hGim : ¬ (G = i + 1) := by omega
  have hci : ¬ (n = i) := by omega
  have hbN : g ≠ w.heap.size := by omega
  have hdl : (xs.drop i).length = n - i := by rw [List.length_drop, hxl]
  have hcpB : ∀ (W : World), (∀ y, W.cell? y = (W1.setCells w.heap.size i [x]).cell? y) → (∀ y, W.frozen? y = (W1.setCells w.heap.size i [x]).frozen? y) → ∀ ty dc sc, (Builtin.copy_ #[53, 53] ty #[.slice (some ⟨w.heap.size, i + 1, none⟩) (n + 1 - (i + 1)) dc, .slice (some ⟨g, i, none⟩) (n - i) sc]).run Tryz.prog W = .ok (goInt (xs.drop i).length) (W.setCells w.heap.size (i + 1) (xs.drop i)) := fun W hWc hWf ty dc sc =>
    run_copy_cells W _ _ ty 27 w.heap.size (i + 1) (n + 1 - (i + 1)) dc ⟨g, i, none⟩ (n - i) sc (xs.drop i) Tryz.underlying53 hsz (by rw [hdl]; simp only [Nat.min_def]; split <;> omega)
      (fun j v hj => by
        rw [Addr.add_lit, hWc, World.cell?_setCells_out _ _ _ _ _ (fun h _ => absurd h hbN)]
        exact hOb _ v (hcs (i + j) v (by rwa [List.getElem?_drop] at hj)))
      (fun j hj => by rw [hWc]; exact isSome_setCells _ _ _ _ (fun t ht => hN _ (by simp at ht; omega)) _ (hN _ (by omega)))
      (fun j hj => by rw [hWf, World.frozen?_setCells]; exact hNf _) (fun v hv => h1c v (List.mem_of_mem_drop hv))
  subst hW1
  have hE1 : ∀ y, ((w.alloc (.cells ROW 27)).drew).cell? y = (w.drew.alloc (.cells ROW 27)).cell? y := fun y => rfl
  have hE2 : ∀ y, ((w.alloc (.cells ROW 27)).drew).frozen? y = (w.drew.alloc (.cells ROW 27)).frozen? y := fun y => rfl
  have hF1 : ∀ y, (((w.alloc (.cells ROW 27)).drew.setCells w.heap.size i [x]).drew).cell? y = ((w.drew.alloc (.cells ROW 27)).setCells w.heap.size i [x]).cell? y := fun y => rfl
  have hF2 : ∀ y, (((w.alloc (.cells ROW 27)).drew.setCells w.heap.size i [x]).drew).frozen? y = ((w.drew.alloc (.cells ROW 27)).setCells w.heap.size i [x]).frozen? y := fun y => rfl
  have hz2 : ¬ ((i : Int) = (n : Int)) := by omega
  have hin : i ≤ n := by omega
  have hb3 : (i : Int) ≤ (n : Int) := by omega
  have hw1 : IntKind.i64.wrap ((i : Int) + 1) = (i : Int) + 1 := by rw [IntKind.wrap_i64]; omega
  have hb1 : (0 : Int) ≤ (i : Int) + 1 := by omega
  have htn : ((i : Int) + 1).toNat = i + 1 := by omega
  clear hkk hik hold hROW hRl
  go_enter Tryz.func50, Tryz.ntmps50
  go_wp2_with (first
    | (at_builtin; refine Lib.wpList_append_run _ rfl _ _ _ _ rfl _ _ rfl rfl _ _ (hrz _) ?_)
    | (at_builtin; refine wpList_copy_runI _ rfl _ _ 53 53 rfl _ _ rfl rfl (hcpA _ hE1 hE2 _ _) ?_)
    | fail)
  go_region_law (refine step_copy_runI rfl _ _ 53 53 rfl (.slice (some ⟨w.heap.size, i + 1, none⟩) (n + 1 - (i + 1)) (G - (i + 1))) (.slice (some ⟨g, i, none⟩) (n - i) (n - i)) (by simp [Act.eval, Act.put]) (by simp [Act.eval, Act.put]) (hcpB _ hF1 hF2 _ (G - (i + 1)) (n - i)) ?_)
  go_wp2
  go_ret
  exact ⟨G, hGn, hGm, rfl, by rw [← HROW.out]⟩
set_option maxHeartbeats 4000000 in
set_option maxRecDepth 100000 in
/-- In the midst, there is room. -/
theorem Tryz.ins_shift_ptr (g n c i vb : Nat) (cur : Array Value) (xs : List Value) (x : Value) (w : World) (hi : i < n) (hn : n ≤ 64) (hxl : xs.length = n) (hroom : n + 1 ≤ c) (hc63 : c ≤ 9223372036854775807)
    (hg : w.heap[g]? = some (.cells cur 27 (0, 0))) (hcz : cur.size = c) (hcs : ∀ j v, xs[j]? = some v → w.cell? ⟨g, j, none⟩ = some v) (hvb : w.heap[vb]? = some (.cells #[x] 27 (0, 0))) (hne : vb ≠ g)
    (h1c : ∀ v ∈ xs, v.oneCell' = true) (hx : x.oneCell' = true) :
    Calls Tryz.prog 50 #[.slice (some ⟨g, 0, none⟩) n c, .int .i64 i, .slice (some ⟨vb, 0, none⟩) 1 1] w fun e w' => e = .returned (.slice (some ⟨g, 0, none⟩) (n + 1) c) ∧ ∃ k, w' = ((w.drewN k).setCells g (i + 1) (xs.drop i)).setCells g i [x] := by
  obtain ⟨i0, hi0, hz0, hzs, hzb⟩ := info_parts Tryz.info_ptr
  have hsz : (Tryz.prog.info? 27).map (·.size) = some 1 := by rw [hi0]; simp [hzs]
  have hsp : ∀ j, j < n + 1 → (w.cell? ⟨g, j, none⟩).isSome = true := fun j hj => by rw [Jv.cell_heap hg, Array.getElem?_eq_getElem (by omega)]; rfl
  have hfz : ∀ j, w.frozen? ⟨g, j, none⟩ = false := fun j => Jv.frozen_heap hg j
  have hvs : w.cell? ⟨vb, 0, none⟩ = some x := by rw [Jv.cell_heap hvb]; rfl
  have hov : ∀ lb cb, (callFunc 65 #[.slice (some ⟨vb, 0, none⟩) 1 1, .slice (some ⟨g, i + 1, none⟩) lb cb]).run Tryz.prog w = .ok (.value (.bool false)) w := fun lb cb => by
    rw [run_callFunc_extern Tryz.func65 (by kernel_rfl) (by kernel_rfl) (by kernel_rfl) (e := Extern.SlicesOverlaps.overlaps #[53, 53] #[4]) (by kernel_rfl),
      Lib.run_overlaps_apart w 53 4 27 Tryz.underlying53 1 Tryz.size_ptr ⟨vb, 0, none⟩ ⟨g, i + 1, none⟩ 1 1 lb cb hne 27 27 1 c (by simp [World.shape?, hvb]) (by simp [World.shape?, hg, hcz]) (by omega) (Jv.frozen_heap hvb 0) (Jv.frozen_heap hvb 1)]
    rfl
  have hdl : (xs.drop i).length = n - i := by rw [List.length_drop, hxl]
  have hw1 : IntKind.i64.wrap ((i : Int) + 1) = (i : Int) + 1 := by rw [IntKind.wrap_i64]; omega
  have hb1 : (0 : Int) ≤ (i : Int) + 1 := by omega
  have hin : i ≤ n := by omega
  have htn : ((i : Int) + 1).toNat = i + 1 := by omega
  have hb2 : ¬ (c = i + 1) := by omega
  have hb3 : (i : Int) ≤ (n : Int) + 1 := by omega
  have hb4 : ¬ (c = i) := by omega
  have hz2 : ¬ ((i : Int) = (n : Int)) := by omega
  have hcp1 : ∀ ty dc sc, (Builtin.copy_ #[53, 53] ty #[.slice (some ⟨g, i + 1, none⟩) (n - i) dc, .slice (some ⟨g, i, none⟩) (n + 1 - i) sc]).run Tryz.prog w.drew = .ok (goInt (xs.drop i).length) (w.drew.setCells g (i + 1) (xs.drop i)) := fun ty dc sc =>
    run_copy_cells w.drew _ _ ty 27 g (i + 1) (n - i) dc ⟨g, i, none⟩ (n + 1 - i) sc (xs.drop i) Tryz.underlying53 hsz (by rw [hdl]; simp only [Nat.min_def]; split <;> omega)
      (fun j v hj => by rw [Addr.add_lit]; exact hcs (i + j) v (by rwa [List.getElem?_drop] at hj))
      (fun j hj => hsp _ (by omega)) (fun j hj => hfz _) (fun v hv => h1c v (List.mem_of_mem_drop hv))
  obtain ⟨W1, hW1⟩ : ∃ W1, W1 = w.drew.setCells g (i + 1) (xs.drop i) := ⟨_, rfl⟩
  have hsp1 : ∀ k, k < n + 1 → (W1.cell? ⟨g, k, none⟩).isSome = true := fun k hk => by
    rw [hW1]
    exact isSome_setCells g (xs.drop i) (i + 1) w.drew (fun j hj => hsp _ (by rw [hdl] at hj; omega)) k (hsp k hk)
  have hcp2 : ∀ (W : World), (∀ y, W.cell? y = W1.cell? y) → (∀ y, W.frozen? y = W1.frozen? y) → ∀ ty dc, (Builtin.copy_ #[53, 53] ty #[.slice (some ⟨g, i, none⟩) (n + 1 - i) dc, .slice (some ⟨vb, 0, none⟩) 1 1]).run Tryz.prog W = .ok (goInt [x].length) (W.setCells g i [x]) := fun W hWc hWf ty dc =>
    run_copy_cells W _ _ ty 27 g i (n + 1 - i) dc ⟨vb, 0, none⟩ 1 1 [x] Tryz.underlying53 hsz (by simp only [List.length_cons, List.length_nil, Nat.min_def]; split <;> omega)
      (fun j v hj => by
        rw [Addr.add_lit, Nat.zero_add, hWc, hW1, World.cell?_setCells_out g _ _ _ _ (fun h _ => absurd h hne)]
        match j, hj with
        | 0, hj => obtain rfl : x = v := by simpa using hj
                   exact hvs
        | j + 1, hj => simp at hj)
      (fun j hj => by rw [hWc]; exact hsp1 _ (by simp at hj; omega)) (fun j hj => by rw [hWf, hW1, World.frozen?_setCells]; exact hfz _) (by simpa using hx)
  rw [← hW1] at hcp1
  clear hg hvb hcz
  go_enter Tryz.func50, Tryz.ntmps50
  go_wp2_with (simp only [hov])
  go_region_law (refine step_copy_runI rfl _ _ 53 53 rfl _ _ (by simp [Act.eval, Act.put]) (by simp [Act.eval, Act.put]) (hcp1 _ _ _) ?_)
  go_wp2_with (at_builtin; refine wpList_copy_runI _ rfl _ _ 53 53 rfl _ _ rfl rfl (hcp2 _ (fun _ => rfl) (fun _ => rfl) _ _) ?_)
  go_ret
  exact ⟨rfl, 1, rfl⟩
set_option maxHeartbeats 2000000 in
/-- One item, wherever. -/
theorem Tryz.ins_any_ptr (B : Nat) (sv : Value) (xs : List Value) (w : World) (hrow : w.ownsRow B 27 1 sv xs.length xs) (hB : B ≤ w.heap.size) (i : Nat) (hi : i ≤ xs.length) (hn : xs.length ≤ 64) (x : Value) (hx : x.oneCell' = true) (h1c : ∀ v ∈ xs, v.oneCell' = true)
    (vb : Nat) (hvb : w.heap[vb]? = some (.cells #[x] 27 (0, 0))) (hne : sv.ownBlock ≠ some vb) :
    Calls Tryz.prog 50 #[sv, .int .i64 i, .slice (some ⟨vb, 0, none⟩) 1 1] w fun e w' => ∃ g cap, e = .returned (.slice (some ⟨g, 0, none⟩) (xs.length + 1) cap) ∧ w'.ownsRow B 27 1 (.slice (some ⟨g, 0, none⟩) (xs.length + 1) cap) (xs.length + 1) (insertAt xs i x) ∧ w.grownBy w' sv.ownBlock ∧ (sv.ownBlock = some g ∨ g = w.heap.size) := by
  by_cases hie : i = xs.length
  · subst hie
    have e : insertAt xs xs.length x = xs ++ [x] := by unfold insertAt; rw [List.take_of_length_le (Nat.le_refl _), List.drop_of_length_le (Nat.le_refl _)]
    rw [e]
    exact Tryz.ins_end_ptr B sv xs w hrow hB hn x hx vb hvb
  · have hlt : i < xs.length := by omega
    rcases hrow.2 with ⟨_, h0⟩ | ⟨g, cap, cur, rfl, hBg, hg, hnc, hcm, hcz, htk⟩
    · omega
    · simp only [Nat.mul_one] at hcz htk
      have hcs : ∀ j v, xs[j]? = some v → w.cell? ⟨g, j, none⟩ = some v := fun j v hj => by
        rw [Jv.cell_heap hg, ← Array.getElem?_toList]
        have hjl : j < xs.length := (List.getElem?_eq_some_iff.1 hj).1
        rw [← htk, List.getElem?_take, if_pos hjl] at hj
        exact hj
      have hcur : ∀ j, j < i → cur[j]? = xs[j]? := fun j hj => by
        have h1 := hcs j (xs[j]'(by omega)) (List.getElem?_eq_getElem (by omega))
        rw [Jv.cell_heap hg] at h1
        rw [h1, List.getElem?_eq_getElem (by omega)]
      have hgw : g < w.heap.size := (Array.getElem?_eq_some_iff.1 hg).1
      by_cases hr : xs.length + 1 ≤ cap
      · refine (Tryz.ins_shift_ptr g xs.length cap i vb cur xs x w hlt hn rfl hr (by unfold maxLen at hcm; omega) hg hcz hcs hvb (fun h => hne (by rw [h]; rfl)) h1c hx).mono ?_
        rintro e w' ⟨rfl, k, rfl⟩
        have hh : (((w.drewN k).setCells g (i + 1) (xs.drop i)).setCells g i [x]).heap[g]? = some (.cells (over (over cur (i + 1) (xs.drop i)) i [x]) 27 (0, 0)) := heap_sets _ _ _ _ (heap_sets _ _ (w.drewN k) _ hg)
        refine ⟨g, cap, rfl, ⟨by rw [insertAt_len]; omega, .inr ⟨g, cap, _, rfl, hBg, hh, hr, hcm, by rw [over_size, over_size]; omega, ?_⟩⟩, ⟨?_, ?_, ?_, ?_, ?_⟩, .inl rfl⟩
        · rw [Nat.mul_one]; exact ins_take (by omega) (by omega) hcur
        · rw [(sets_rest g [x] i _).1, (sets_rest g (xs.drop i) (i + 1) _).1]; rfl
        · rw [(sets_rest g [x] i _).2.1, (sets_rest g (xs.drop i) (i + 1) _).2.1]; rfl
        · rw [(sets_rest g [x] i _).2.2, (sets_rest g (xs.drop i) (i + 1) _).2.2]; rfl
        · rw [sets_size, sets_size]; exact Nat.le_refl _
        · intro m hm hmg
          have hne2 : m ≠ g := fun h => hmg (by rw [h]; rfl)
          rw [heap_sets_other hne2, heap_sets_other hne2]; rfl
      · obtain rfl : cap = xs.length := by omega
        refine (Tryz.ins_grow_ptr g xs.length i vb xs x w hlt hn rfl hcs (by rw [Jv.cell_heap hvb]; rfl) h1c hx).mono ?_
        rintro e w' ⟨G, hG1, hG2, rfl, rfl⟩
        generalize hR : ((xs.take i).toArray ++ Builtin.zeroCells (.pointer none : Value).cells (xs.length + 1 - i) ++ Builtin.zeroCells (.pointer none : Value).cells (G - (xs.length + 1))) = ROW
        have hRs : ROW.size = G := by
          rw [← hR]
          simp [Builtin.zeroCells, Value.cells]
          omega
        have hRc : ∀ j, j < i → ROW[j]? = xs[j]? := fun j hj => by
          rw [← hR, Array.append_assoc, Array.getElem?_append_left (by simp; omega)]
          simp [hj]
        have hh : ((((w.alloc (.cells ROW 27)).drew.setCells w.heap.size i [x]).drew).setCells w.heap.size (i + 1) (xs.drop i)).heap[w.heap.size]? = some (.cells (over (over ROW i [x]) (i + 1) (xs.drop i)) 27 (0, 0)) :=
          heap_sets _ _ _ _ (heap_sets [x] i ((w.alloc (.cells ROW 27)).drew) ROW (heap_alloc_new w _))
        refine ⟨w.heap.size, G, rfl, ⟨by rw [insertAt_len]; omega, .inr ⟨w.heap.size, G, _, rfl, hB, hh, hG1, hG2, by rw [over_size, over_size]; omega, ?_⟩⟩, ⟨?_, ?_, ?_, ?_, ?_⟩, .inr rfl⟩
        · rw [Nat.mul_one]; exact ins_take2 (by omega) (by omega) hRc
        · exact (sets_rest w.heap.size (xs.drop i) (i + 1) _).1.trans (sets_rest w.heap.size [x] i ((w.alloc (.cells ROW 27)).drew)).1
        · exact (sets_rest w.heap.size (xs.drop i) (i + 1) _).2.1.trans (sets_rest w.heap.size [x] i ((w.alloc (.cells ROW 27)).drew)).2.1
        · exact (sets_rest w.heap.size (xs.drop i) (i + 1) _).2.2.trans (sets_rest w.heap.size [x] i ((w.alloc (.cells ROW 27)).drew)).2.2
        · rw [sets_size]; show w.heap.size ≤ ((w.alloc (.cells ROW 27)).drew.setCells w.heap.size i [x]).heap.size; rw [sets_size]; simp
        · intro m hm _
          have hne2 : m ≠ w.heap.size := by omega
          rw [heap_sets_other hne2]
          show ((w.alloc (.cells ROW 27)).drew.setCells w.heap.size i [x]).heap[m]? = _
          rw [heap_sets_other hne2]
          exact Below.heap_alloc w _ m hm
theorem Tryz.info_str : (Tryz.prog.info? 9).map (fun i => (i.zero, i.size, i.bytes)) = some (some (.string ⟨#[]⟩), 1, 16) := by kernel_rfl
theorem Tryz.size_str : ∀ w, (Go.sizeOf 9).run Tryz.prog w = .ok 1 w := fun w => by kernel_rfl
set_option maxHeartbeats 4000000 in
set_option maxRecDepth 100000 in
/-- At the end. -/
theorem Tryz.ins_end_str (B : Nat) (sv : Value) (xs : List Value) (w : World) (hrow : w.ownsRow B 9 1 sv xs.length xs) (hB : B ≤ w.heap.size) (hn : xs.length ≤ 64) (x : Value) (hx : x.oneCell' = true) (vb : Nat) (hvb : w.heap[vb]? = some (.cells #[x] 9 (0, 0))) :
    Calls Tryz.prog 49 #[sv, .int .i64 xs.length, .slice (some ⟨vb, 0, none⟩) 1 1] w fun e w' => ∃ g cap, e = .returned (.slice (some ⟨g, 0, none⟩) (xs.length + 1) cap) ∧ w'.ownsRow B 9 1 (.slice (some ⟨g, 0, none⟩) (xs.length + 1) cap) (xs.length + 1) (xs ++ [x]) ∧ w.grownBy w' sv.ownBlock ∧ (sv.ownBlock = some g ∨ g = w.heap.size) := by
  obtain ⟨i0, hi0, hz0, hz1, hz2⟩ := info_parts Tryz.info_str
  obtain ⟨a, c, hsv⟩ := Jv.row_form hrow
  have hnews : ∀ j u, [x][j]? = some u → w.cell? ((⟨vb, 0, none⟩ : Addr).add j) = some u := World.news_of_block (cs := #[x]) (t := 9) (fr := (0, 0)) hvb
  have hcap : a = none → c = 0 ∧ xs.length = 0 := by
    rintro rfl
    rcases hrow.2 with ⟨h1, h2⟩ | ⟨g, cap, cur, h1, _⟩
    · rw [hsv] at h1; injection h1 with _ _ h3; exact ⟨h3, h2⟩
    · rw [hsv] at h1; injection h1 with h1; cases h1
  have hle : xs.length ≤ c := by
    rcases hrow.2 with ⟨h1, h2⟩ | ⟨g, cap, cur, h1, _, _, h4, _⟩
    · omega
    · rw [hsv] at h1; injection h1 with _ _ h3; omega
  have hmx : c ≤ 9223372036854775807 := by
    rcases hrow.2 with ⟨h1, h2⟩ | ⟨g, cap, cur, h1, _, _, _, h5, _⟩
    · rw [hsv] at h1; injection h1 with _ _ h3; omega
    · rw [hsv] at h1; injection h1 with _ _ h3; unfold maxLen at h5; omega
  subst hsv
  generalize hnn : xs.length = n at *
  by_cases hcn : c = n
  · subst hcn
    go_enter Tryz.func49, Tryz.ntmps49
    go_wp2_with (first | (at_builtin; refine wpList_append_lies _ rfl _ _ _ rfl B 9 i0 _ 1 16 Tryz.underlying24 hi0 hz0 hz1 hz2 rfl (by omega) (.slice a c c) c xs rfl hrow ⟨vb, 0, none⟩ 1 1 [x] rfl rfl hnews (by simpa using hx) (by omega) (by unfold maxLen; omega) (by omega) hB w.heap.size rfl ?_; intro g cap w1 hown hgrow hat hlt) | fail)
    all_goals (go_ret; exact ⟨g, cap, rfl, hown, hgrow, hat⟩)
  · skip
    go_enter Tryz.func49, Tryz.ntmps49
    go_wp2_with (first | (at_builtin; refine wpList_append_lies _ rfl _ _ _ rfl B 9 i0 _ 1 16 Tryz.underlying24 hi0 hz0 hz1 hz2 rfl (by omega) (.slice a n c) n xs rfl hrow ⟨vb, 0, none⟩ 1 1 [x] rfl rfl hnews (by simpa using hx) (by omega) (by unfold maxLen; omega) (by omega) hB w.heap.size rfl ?_; intro g cap w1 hown hgrow hat hlt) | fail)
    all_goals (go_ret; exact ⟨g, cap, rfl, hown, hgrow, hat⟩)
set_option maxHeartbeats 4000000 in
set_option maxRecDepth 100000 in
/-- In the midst, no room. -/
theorem Tryz.ins_grow_str (g n i vb : Nat) (xs : List Value) (x : Value) (w : World) (hi : i < n) (hn : n ≤ 64) (hxl : xs.length = n) (hcs : ∀ j v, xs[j]? = some v → w.cell? ⟨g, j, none⟩ = some v) (hvs : w.cell? ⟨vb, 0, none⟩ = some x)
    (h1c : ∀ v ∈ xs, v.oneCell' = true) (hx : x.oneCell' = true) :
    Calls Tryz.prog 49 #[.slice (some ⟨g, 0, none⟩) n n, .int .i64 i, .slice (some ⟨vb, 0, none⟩) 1 1] w fun e w' => ∃ G, n + 1 ≤ G ∧ G ≤ maxLen ∧ e = .returned (.slice (some ⟨w.heap.size, 0, none⟩) (n + 1) G) ∧
      w' = (((w.alloc (.cells ((xs.take i).toArray ++ Builtin.zeroCells (.string ⟨#[]⟩ : Value).cells (n + 1 - i) ++ Builtin.zeroCells (.string ⟨#[]⟩ : Value).cells (G - (n + 1))) 9)).drew.setCells w.heap.size i [x]).drew).setCells w.heap.size (i + 1) (xs.drop i) := by
  obtain ⟨i0, hi0, hz0, hzs, hzb⟩ := info_parts Tryz.info_str
  have hsz : (Tryz.prog.info? 9).map (·.size) = some 1 := by rw [hi0]; simp [hzs]
  have hgw : g < w.heap.size := block_lt_of_cell (hcs 0 _ (List.getElem?_eq_getElem (by omega)))
  have hvw : vb < w.heap.size := block_lt_of_cell hvs
  have hkk : (n : Int) + 1 - (i : Int) = ((n + 1 - i : Nat) : Int) := by omega
  have hik : i + (n + 1 - i) = n + 1 := by omega
  have hold : (Builtin.firstCells i0.size i (.slice (some ⟨g, 0, none⟩) i n)).run Tryz.prog w.drew = .ok (xs.take i).toArray w.drew := by
    rw [hzs]
    exact run_firstCells_some w.drew 1 i ⟨g, 0, none⟩ i n (xs.take i) (by rw [List.length_take]; omega) (fun j v hj => by
      rw [Addr.add_lit, Nat.zero_add]
      rw [List.getElem?_take] at hj
      split at hj
      · exact hcs j v hj
      · cases hj)
  have hrz : ∀ ty, (Builtin.append_ #[24, 3] ty #[.slice (some ⟨g, 0, none⟩) i n, .int .i64 ((n : Int) + 1 - (i : Int))]).run Tryz.prog w =
      .ok (.slice (some ⟨w.heap.size, 0, none⟩) (n + 1) (grownCap w (n + 1) n 9)) (w.drew.alloc (.cells ((xs.take i).toArray ++ Builtin.zeroCells (.string ⟨#[]⟩ : Value).cells (n + 1 - i) ++ Builtin.zeroCells (.string ⟨#[]⟩ : Value).cells (grownCap w (n + 1) n 9 - (n + 1))) 9)) := fun ty => by
    have h := Lib.run_append_grow_zeros w 24 3 ty 9 i0 _ .i64 .i64 Tryz.underlying24 Tryz.underlying3 hi0 hz0 (some ⟨g, 0, none⟩) i n (xs.take i) hold (n + 1 - i) (by omega) (by omega) (by omega) (by omega) (by rw [hzb]; omega) (by rw [hzb, hik]; exact growslice_fits (by omega) (by omega))
    rw [hik] at h
    rw [hkk]
    exact h
  have hGn : n + 1 ≤ grownCap w (n + 1) n 9 := grownCap_ge w _ _ _
  have hGm : grownCap w (n + 1) n 9 ≤ maxLen := grownCap_le_maxLen w (n + 1) n 9 (by unfold maxLen; omega)
  generalize grownCap w (n + 1) n 9 = G at *
  have hG63 : G ≤ 9223372036854775807 := by unfold maxLen at hGm; omega
  obtain ⟨ROW, hROW⟩ : ∃ ROW : Array Value, ROW = (xs.take i).toArray ++ Builtin.zeroCells (.string ⟨#[]⟩ : Value).cells (n + 1 - i) ++ Builtin.zeroCells (.string ⟨#[]⟩ : Value).cells (G - (n + 1)) := ⟨_, rfl⟩
  rw [← hROW] at hrz
  have HROW : Hid (ROW = (xs.take i).toArray ++ Builtin.zeroCells (.string ⟨#[]⟩ : Value).cells (n + 1 - i) ++ Builtin.zeroCells (.string ⟨#[]⟩ : Value).cells (G - (n + 1))) := hROW
  have hRl : n + 1 ≤ ROW.size := by
    rw [hROW]
    simp [Builtin.zeroCells, Value.cells]
    omega
  obtain ⟨W1, hW1⟩ : ∃ W1, W1 = w.drew.alloc (.cells ROW 9) := ⟨_, rfl⟩
  rw [← hW1] at hrz
  have hN : ∀ j, j < n + 1 → (W1.cell? ⟨w.heap.size, j, none⟩).isSome = true := fun j hj => by
    rw [hW1, World.cell?_alloc_at (w := w.drew) ROW _ w.heap.size j rfl, Array.getElem?_eq_getElem (by omega)]; rfl
  have hNf : ∀ j, W1.frozen? ⟨w.heap.size, j, none⟩ = false := fun j => by rw [hW1]; exact World.frozen?_alloc_at (w := w.drew) ROW _ w.heap.size j rfl
  have hOb : ∀ j v, w.cell? ⟨g, j, none⟩ = some v → W1.cell? ⟨g, j, none⟩ = some v := fun j v h => by rw [hW1, World.cell?_alloc_past (w := w.drew) _ g j hgw]; exact h
  have hOv : W1.cell? ⟨vb, 0, none⟩ = some x := by rw [hW1, World.cell?_alloc_past (w := w.drew) _ vb 0 hvw]; exact hvs
  have hcpA : ∀ (W : World), (∀ y, W.cell? y = W1.cell? y) → (∀ y, W.frozen? y = W1.frozen? y) → ∀ ty dc, (Builtin.copy_ #[24, 24] ty #[.slice (some ⟨w.heap.size, i, none⟩) (n + 1 - i) dc, .slice (some ⟨vb, 0, none⟩) 1 1]).run Tryz.prog W = .ok (goInt [x].length) (W.setCells w.heap.size i [x]) := fun W hWc hWf ty dc =>
    run_copy_cells W _ _ ty 9 w.heap.size i (n + 1 - i) dc ⟨vb, 0, none⟩ 1 1 [x] Tryz.underlying24 hsz (by simp only [List.length_cons, List.length_nil, Nat.min_def]; split <;> omega)
      (fun j v hj => by
        rw [Addr.add_lit, Nat.zero_add, hWc]
        match j, hj with
        | 0, hj => obtain rfl : x = v := by simpa using hj
                   exact hOv
        | j + 1, hj => simp at hj)
      (fun j hj => by rw [hWc]; exact hN _ (by simp at hj; omega)) (fun j hj => by rw [hWf]; exact hNf _) (by simpa using hx)
  have hGi : ¬ (G = i) := by omega
  have hGim : ¬ (G = i + 1) := by omega
  have hci : ¬ (n = i) := by omega
  have hbN : g ≠ w.heap.size := by omega
  have hdl : (xs.drop i).length = n - i := by rw [List.length_drop, hxl]
  have hcpB : ∀ (W : World), (∀ y, W.cell? y = (W1.setCells w.heap.size i [x]).cell? y) → (∀ y, W.frozen? y = (W1.setCells w.heap.size i [x]).frozen? y) → ∀ ty dc sc, (Builtin.copy_ #[24, 24] ty #[.slice (some ⟨w.heap.size, i + 1, none⟩) (n + 1 - (i + 1)) dc, .slice (some ⟨g, i, none⟩) (n - i) sc]).run Tryz.prog W = .ok (goInt (xs.drop i).length) (W.setCells w.heap.size (i + 1) (xs.drop i)) := fun W hWc hWf ty dc sc =>
    run_copy_cells W _ _ ty 9 w.heap.size (i + 1) (n + 1 - (i + 1)) dc ⟨g, i, none⟩ (n - i) sc (xs.drop i) Tryz.underlying24 hsz (by rw [hdl]; simp only [Nat.min_def]; split <;> omega)
      (fun j v hj => by
        rw [Addr.add_lit, hWc, World.cell?_setCells_out _ _ _ _ _ (fun h _ => absurd h hbN)]
        exact hOb _ v (hcs (i + j) v (by rwa [List.getElem?_drop] at hj)))
      (fun j hj => by rw [hWc]; exact isSome_setCells _ _ _ _ (fun t ht => hN _ (by simp at ht; omega)) _ (hN _ (by omega)))
      (fun j hj => by rw [hWf, World.frozen?_setCells]; exact hNf _) (fun v hv => h1c v (List.mem_of_mem_drop hv))
  subst hW1
  have hE1 : ∀ y, ((w.alloc (.cells ROW 9)).drew).cell? y = (w.drew.alloc (.cells ROW 9)).cell? y := fun y => rfl
  have hE2 : ∀ y, ((w.alloc (.cells ROW 9)).drew).frozen? y = (w.drew.alloc (.cells ROW 9)).frozen? y := fun y => rfl
  have hF1 : ∀ y, (((w.alloc (.cells ROW 9)).drew.setCells w.heap.size i [x]).drew).cell? y = ((w.drew.alloc (.cells ROW 9)).setCells w.heap.size i [x]).cell? y := fun y => rfl
  have hF2 : ∀ y, (((w.alloc (.cells ROW 9)).drew.setCells w.heap.size i [x]).drew).frozen? y = ((w.drew.alloc (.cells ROW 9)).setCells w.heap.size i [x]).frozen? y := fun y => rfl
  have hz2 : ¬ ((i : Int) = (n : Int)) := by omega
  have hin : i ≤ n := by omega
  have hb3 : (i : Int) ≤ (n : Int) := by omega
  have hw1 : IntKind.i64.wrap ((i : Int) + 1) = (i : Int) + 1 := by rw [IntKind.wrap_i64]; omega
  have hb1 : (0 : Int) ≤ (i : Int) + 1 := by omega
  have htn : ((i : Int) + 1).toNat = i + 1 := by omega
  clear hkk hik hold hROW hRl
  go_enter Tryz.func49, Tryz.ntmps49
  go_wp2_with (first
    | (at_builtin; refine Lib.wpList_append_run _ rfl _ _ _ _ rfl _ _ rfl rfl _ _ (hrz _) ?_)
    | (at_builtin; refine wpList_copy_runI _ rfl _ _ 24 24 rfl _ _ rfl rfl (hcpA _ hE1 hE2 _ _) ?_)
    | fail)
  go_region_law (refine step_copy_runI rfl _ _ 24 24 rfl (.slice (some ⟨w.heap.size, i + 1, none⟩) (n + 1 - (i + 1)) (G - (i + 1))) (.slice (some ⟨g, i, none⟩) (n - i) (n - i)) (by simp [Act.eval, Act.put]) (by simp [Act.eval, Act.put]) (hcpB _ hF1 hF2 _ (G - (i + 1)) (n - i)) ?_)
  go_wp2
  go_ret
  exact ⟨G, hGn, hGm, rfl, by rw [← HROW.out]⟩
set_option maxHeartbeats 4000000 in
set_option maxRecDepth 100000 in
/-- In the midst, there is room. -/
theorem Tryz.ins_shift_str (g n c i vb : Nat) (cur : Array Value) (xs : List Value) (x : Value) (w : World) (hi : i < n) (hn : n ≤ 64) (hxl : xs.length = n) (hroom : n + 1 ≤ c) (hc63 : c ≤ 9223372036854775807)
    (hg : w.heap[g]? = some (.cells cur 9 (0, 0))) (hcz : cur.size = c) (hcs : ∀ j v, xs[j]? = some v → w.cell? ⟨g, j, none⟩ = some v) (hvb : w.heap[vb]? = some (.cells #[x] 9 (0, 0))) (hne : vb ≠ g)
    (h1c : ∀ v ∈ xs, v.oneCell' = true) (hx : x.oneCell' = true) :
    Calls Tryz.prog 49 #[.slice (some ⟨g, 0, none⟩) n c, .int .i64 i, .slice (some ⟨vb, 0, none⟩) 1 1] w fun e w' => e = .returned (.slice (some ⟨g, 0, none⟩) (n + 1) c) ∧ ∃ k, w' = ((w.drewN k).setCells g (i + 1) (xs.drop i)).setCells g i [x] := by
  obtain ⟨i0, hi0, hz0, hzs, hzb⟩ := info_parts Tryz.info_str
  have hsz : (Tryz.prog.info? 9).map (·.size) = some 1 := by rw [hi0]; simp [hzs]
  have hsp : ∀ j, j < n + 1 → (w.cell? ⟨g, j, none⟩).isSome = true := fun j hj => by rw [Jv.cell_heap hg, Array.getElem?_eq_getElem (by omega)]; rfl
  have hfz : ∀ j, w.frozen? ⟨g, j, none⟩ = false := fun j => Jv.frozen_heap hg j
  have hvs : w.cell? ⟨vb, 0, none⟩ = some x := by rw [Jv.cell_heap hvb]; rfl
  have hov : ∀ lb cb, (callFunc 63 #[.slice (some ⟨vb, 0, none⟩) 1 1, .slice (some ⟨g, i + 1, none⟩) lb cb]).run Tryz.prog w = .ok (.value (.bool false)) w := fun lb cb => by
    rw [run_callFunc_extern Tryz.func63 (by kernel_rfl) (by kernel_rfl) (by kernel_rfl) (e := Extern.SlicesOverlaps.overlaps #[24, 24] #[4]) (by kernel_rfl),
      Lib.run_overlaps_apart w 24 4 9 Tryz.underlying24 1 Tryz.size_str ⟨vb, 0, none⟩ ⟨g, i + 1, none⟩ 1 1 lb cb hne 9 9 1 c (by simp [World.shape?, hvb]) (by simp [World.shape?, hg, hcz]) (by omega) (Jv.frozen_heap hvb 0) (Jv.frozen_heap hvb 1)]
    rfl
  have hdl : (xs.drop i).length = n - i := by rw [List.length_drop, hxl]
  have hw1 : IntKind.i64.wrap ((i : Int) + 1) = (i : Int) + 1 := by rw [IntKind.wrap_i64]; omega
  have hb1 : (0 : Int) ≤ (i : Int) + 1 := by omega
  have hin : i ≤ n := by omega
  have htn : ((i : Int) + 1).toNat = i + 1 := by omega
  have hb2 : ¬ (c = i + 1) := by omega
  have hb3 : (i : Int) ≤ (n : Int) + 1 := by omega
  have hb4 : ¬ (c = i) := by omega
  have hz2 : ¬ ((i : Int) = (n : Int)) := by omega
  have hcp1 : ∀ ty dc sc, (Builtin.copy_ #[24, 24] ty #[.slice (some ⟨g, i + 1, none⟩) (n - i) dc, .slice (some ⟨g, i, none⟩) (n + 1 - i) sc]).run Tryz.prog w.drew = .ok (goInt (xs.drop i).length) (w.drew.setCells g (i + 1) (xs.drop i)) := fun ty dc sc =>
    run_copy_cells w.drew _ _ ty 9 g (i + 1) (n - i) dc ⟨g, i, none⟩ (n + 1 - i) sc (xs.drop i) Tryz.underlying24 hsz (by rw [hdl]; simp only [Nat.min_def]; split <;> omega)
      (fun j v hj => by rw [Addr.add_lit]; exact hcs (i + j) v (by rwa [List.getElem?_drop] at hj))
      (fun j hj => hsp _ (by omega)) (fun j hj => hfz _) (fun v hv => h1c v (List.mem_of_mem_drop hv))
  obtain ⟨W1, hW1⟩ : ∃ W1, W1 = w.drew.setCells g (i + 1) (xs.drop i) := ⟨_, rfl⟩
  have hsp1 : ∀ k, k < n + 1 → (W1.cell? ⟨g, k, none⟩).isSome = true := fun k hk => by
    rw [hW1]
    exact isSome_setCells g (xs.drop i) (i + 1) w.drew (fun j hj => hsp _ (by rw [hdl] at hj; omega)) k (hsp k hk)
  have hcp2 : ∀ (W : World), (∀ y, W.cell? y = W1.cell? y) → (∀ y, W.frozen? y = W1.frozen? y) → ∀ ty dc, (Builtin.copy_ #[24, 24] ty #[.slice (some ⟨g, i, none⟩) (n + 1 - i) dc, .slice (some ⟨vb, 0, none⟩) 1 1]).run Tryz.prog W = .ok (goInt [x].length) (W.setCells g i [x]) := fun W hWc hWf ty dc =>
    run_copy_cells W _ _ ty 9 g i (n + 1 - i) dc ⟨vb, 0, none⟩ 1 1 [x] Tryz.underlying24 hsz (by simp only [List.length_cons, List.length_nil, Nat.min_def]; split <;> omega)
      (fun j v hj => by
        rw [Addr.add_lit, Nat.zero_add, hWc, hW1, World.cell?_setCells_out g _ _ _ _ (fun h _ => absurd h hne)]
        match j, hj with
        | 0, hj => obtain rfl : x = v := by simpa using hj
                   exact hvs
        | j + 1, hj => simp at hj)
      (fun j hj => by rw [hWc]; exact hsp1 _ (by simp at hj; omega)) (fun j hj => by rw [hWf, hW1, World.frozen?_setCells]; exact hfz _) (by simpa using hx)
  rw [← hW1] at hcp1
  clear hg hvb hcz
  go_enter Tryz.func49, Tryz.ntmps49
  go_wp2_with (simp only [hov])
  go_region_law (refine step_copy_runI rfl _ _ 24 24 rfl _ _ (by simp [Act.eval, Act.put]) (by simp [Act.eval, Act.put]) (hcp1 _ _ _) ?_)
  go_wp2_with (at_builtin; refine wpList_copy_runI _ rfl _ _ 24 24 rfl _ _ rfl rfl (hcp2 _ (fun _ => rfl) (fun _ => rfl) _ _) ?_)
  go_ret
  exact ⟨rfl, 1, rfl⟩
set_option maxHeartbeats 2000000 in
/-- One item, wherever. -/
theorem Tryz.ins_any_str (B : Nat) (sv : Value) (xs : List Value) (w : World) (hrow : w.ownsRow B 9 1 sv xs.length xs) (hB : B ≤ w.heap.size) (i : Nat) (hi : i ≤ xs.length) (hn : xs.length ≤ 64) (x : Value) (hx : x.oneCell' = true) (h1c : ∀ v ∈ xs, v.oneCell' = true)
    (vb : Nat) (hvb : w.heap[vb]? = some (.cells #[x] 9 (0, 0))) (hne : sv.ownBlock ≠ some vb) :
    Calls Tryz.prog 49 #[sv, .int .i64 i, .slice (some ⟨vb, 0, none⟩) 1 1] w fun e w' => ∃ g cap, e = .returned (.slice (some ⟨g, 0, none⟩) (xs.length + 1) cap) ∧ w'.ownsRow B 9 1 (.slice (some ⟨g, 0, none⟩) (xs.length + 1) cap) (xs.length + 1) (insertAt xs i x) ∧ w.grownBy w' sv.ownBlock ∧ (sv.ownBlock = some g ∨ g = w.heap.size) := by
  by_cases hie : i = xs.length
  · subst hie
    have e : insertAt xs xs.length x = xs ++ [x] := by unfold insertAt; rw [List.take_of_length_le (Nat.le_refl _), List.drop_of_length_le (Nat.le_refl _)]
    rw [e]
    exact Tryz.ins_end_str B sv xs w hrow hB hn x hx vb hvb
  · have hlt : i < xs.length := by omega
    rcases hrow.2 with ⟨_, h0⟩ | ⟨g, cap, cur, rfl, hBg, hg, hnc, hcm, hcz, htk⟩
    · omega
    · simp only [Nat.mul_one] at hcz htk
      have hcs : ∀ j v, xs[j]? = some v → w.cell? ⟨g, j, none⟩ = some v := fun j v hj => by
        rw [Jv.cell_heap hg, ← Array.getElem?_toList]
        have hjl : j < xs.length := (List.getElem?_eq_some_iff.1 hj).1
        rw [← htk, List.getElem?_take, if_pos hjl] at hj
        exact hj
      have hcur : ∀ j, j < i → cur[j]? = xs[j]? := fun j hj => by
        have h1 := hcs j (xs[j]'(by omega)) (List.getElem?_eq_getElem (by omega))
        rw [Jv.cell_heap hg] at h1
        rw [h1, List.getElem?_eq_getElem (by omega)]
      have hgw : g < w.heap.size := (Array.getElem?_eq_some_iff.1 hg).1
      by_cases hr : xs.length + 1 ≤ cap
      · refine (Tryz.ins_shift_str g xs.length cap i vb cur xs x w hlt hn rfl hr (by unfold maxLen at hcm; omega) hg hcz hcs hvb (fun h => hne (by rw [h]; rfl)) h1c hx).mono ?_
        rintro e w' ⟨rfl, k, rfl⟩
        have hh : (((w.drewN k).setCells g (i + 1) (xs.drop i)).setCells g i [x]).heap[g]? = some (.cells (over (over cur (i + 1) (xs.drop i)) i [x]) 9 (0, 0)) := heap_sets _ _ _ _ (heap_sets _ _ (w.drewN k) _ hg)
        refine ⟨g, cap, rfl, ⟨by rw [insertAt_len]; omega, .inr ⟨g, cap, _, rfl, hBg, hh, hr, hcm, by rw [over_size, over_size]; omega, ?_⟩⟩, ⟨?_, ?_, ?_, ?_, ?_⟩, .inl rfl⟩
        · rw [Nat.mul_one]; exact ins_take (by omega) (by omega) hcur
        · rw [(sets_rest g [x] i _).1, (sets_rest g (xs.drop i) (i + 1) _).1]; rfl
        · rw [(sets_rest g [x] i _).2.1, (sets_rest g (xs.drop i) (i + 1) _).2.1]; rfl
        · rw [(sets_rest g [x] i _).2.2, (sets_rest g (xs.drop i) (i + 1) _).2.2]; rfl
        · rw [sets_size, sets_size]; exact Nat.le_refl _
        · intro m hm hmg
          have hne2 : m ≠ g := fun h => hmg (by rw [h]; rfl)
          rw [heap_sets_other hne2, heap_sets_other hne2]; rfl
      · obtain rfl : cap = xs.length := by omega
        refine (Tryz.ins_grow_str g xs.length i vb xs x w hlt hn rfl hcs (by rw [Jv.cell_heap hvb]; rfl) h1c hx).mono ?_
        rintro e w' ⟨G, hG1, hG2, rfl, rfl⟩
        generalize hR : ((xs.take i).toArray ++ Builtin.zeroCells (.string ⟨#[]⟩ : Value).cells (xs.length + 1 - i) ++ Builtin.zeroCells (.string ⟨#[]⟩ : Value).cells (G - (xs.length + 1))) = ROW
        have hRs : ROW.size = G := by
          rw [← hR]
          simp [Builtin.zeroCells, Value.cells]
          omega
        have hRc : ∀ j, j < i → ROW[j]? = xs[j]? := fun j hj => by
          rw [← hR, Array.append_assoc, Array.getElem?_append_left (by simp; omega)]
          simp [hj]
        have hh : ((((w.alloc (.cells ROW 9)).drew.setCells w.heap.size i [x]).drew).setCells w.heap.size (i + 1) (xs.drop i)).heap[w.heap.size]? = some (.cells (over (over ROW i [x]) (i + 1) (xs.drop i)) 9 (0, 0)) :=
          heap_sets _ _ _ _ (heap_sets [x] i ((w.alloc (.cells ROW 9)).drew) ROW (heap_alloc_new w _))
        refine ⟨w.heap.size, G, rfl, ⟨by rw [insertAt_len]; omega, .inr ⟨w.heap.size, G, _, rfl, hB, hh, hG1, hG2, by rw [over_size, over_size]; omega, ?_⟩⟩, ⟨?_, ?_, ?_, ?_, ?_⟩, .inr rfl⟩
        · rw [Nat.mul_one]; exact ins_take2 (by omega) (by omega) hRc
        · exact (sets_rest w.heap.size (xs.drop i) (i + 1) _).1.trans (sets_rest w.heap.size [x] i ((w.alloc (.cells ROW 9)).drew)).1
        · exact (sets_rest w.heap.size (xs.drop i) (i + 1) _).2.1.trans (sets_rest w.heap.size [x] i ((w.alloc (.cells ROW 9)).drew)).2.1
        · exact (sets_rest w.heap.size (xs.drop i) (i + 1) _).2.2.trans (sets_rest w.heap.size [x] i ((w.alloc (.cells ROW 9)).drew)).2.2
        · rw [sets_size]; show w.heap.size ≤ ((w.alloc (.cells ROW 9)).drew.setCells w.heap.size i [x]).heap.size; rw [sets_size]; simp
        · intro m hm _
          have hne2 : m ≠ w.heap.size := by omega
          rw [heap_sets_other hne2]
          show ((w.alloc (.cells ROW 9)).drew.setCells w.heap.size i [x]).heap[m]? = _
          rw [heap_sets_other hne2]
          exact Below.heap_alloc w _ m hm
end Go.Proofs
