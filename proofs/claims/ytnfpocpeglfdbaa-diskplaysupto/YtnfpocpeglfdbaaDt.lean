/-
  slices.Clone, Copy.
-/
import Derived.Test.YtnfpocpeglfdbaaDj
import Derived.Lib.LazyBuf
namespace Go.Proofs
open Go.RowKit Go.Dk
/-- 'copy' of what takes several cells. -/
theorem Dk.run_copy_many {P : Program} (w : World) (dT sT ty elem : TypeId) (sz b o dLen dCap : Nat) (a : Addr) (sLen sCap : Nat) (cs : List Value)
    (hu : P.underlying dT = some (.slice elem)) (hs : (P.info? elem).map (·.size) = some sz) (hn : cs.length = Nat.min sLen dLen * sz)
    (hsrc : ∀ j v, cs[j]? = some v → w.cell? (a.add j) = some v) (hc : ∀ j, j < cs.length → (w.cell? ⟨b, o + j, none⟩).isSome = true) (hf : ∀ j, j < cs.length → w.frozen? ⟨b, o + j, none⟩ = false) (h1 : ∀ v ∈ cs, v.oneCell' = true) :
    (Builtin.copy_ #[dT, sT] ty #[.slice (some ⟨b, o, none⟩) dLen dCap, .slice (some a) sLen sCap]).run P w = .ok (goInt (Nat.min sLen dLen)) (w.setCells b o cs) := by
  have hl := run_loadCells_list (P := P) w a cs hsrc
  have hst := run_storeCells_cells (P := P) b o cs 0 w (by simpa using hc) (by simpa using hf) h1
  cases hq : P.info? elem with
  | none => simp [hq] at hs
  | some i =>
    have hi : i.size = sz := by simpa [hq] using hs
    simp [Builtin.copy_, run_underlying hu, Builtin.lenOf, Builtin.firstCells, sizeOf, typeInfo, hq, hi, ← hn, hl, hst]
set_option maxRecDepth 20000 in
set_option maxHeartbeats 1000000 in
theorem Try.clone_w {W : World} {V : Value} {n : Nat} {xs : List Value} (h : W.ownsRow 0 89 65 V n xs) (hone : ∀ u ∈ xs, u.oneCell' = true) (hn : n ≤ 1000000) :
    Calls Try.prog 44 #[V] W fun e w' => ∃ V', e = .returned V' ∧ w'.ownsRow W.heap.size 89 65 V' n xs ∧ Below W.heap.size W w' := by
  rcases h.2 with ⟨rfl, rfl⟩ | ⟨g, cap, cur, rfl, hb, hg, hcap, hmax, hcs, htk⟩
  · have hx : xs = [] := List.eq_nil_of_length_eq_zero (by simpa using h.1)
    subst hx
    have hq : ∀ (w : World) (a : Option Addr) (n c : Nat), (binOp .eql 61 (.slice a n c) (.slice none 0 0)).run Try.prog w = .ok (.bool a.isNone) w := fun w a n c => run_eql_slice_nil w 61 89 a n c Try.underlying61
    go_enter Try.func44, Try.ntmps44
    go_wp2
    go_ret
    exact ⟨_, rfl, World.ownsRow_nil _ _ _ _, Below.refl _ _⟩
  · obtain ⟨i0, hi0, hz0, hz1, hz2⟩ := info_parts Try.info_write
    have hgl := Dk.block_lt hg
    have hnews : ∀ (o : Obj) j u, xs[j]? = some u → (W.alloc o).cell? ((⟨g, 0, none⟩ : Addr).add j) = some u := fun o j u hj => by
      have := h.cells (g := g) rfl j u hj
      rw [Addr.add_mid] at this ⊢
      rw [((Below.refl W.heap.size W).alloc (Nat.le_refl _) o).cell (p := ⟨g, 0 + j, none⟩) hgl]; exact this
    have hmade : (W.alloc (.cells #[] 89)).ownsRow W.heap.size 89 65 (.slice (some ⟨W.heap.size, 0, none⟩) 0 0) 0 [] := World.ownsRow_made W #[] 0 (Nat.le_refl _) (by unfold maxLen; omega) (by simp)
    have HX : Hid (xs.length = n * 65) := h.1
    clear hg htk hcs h
    have hq : ∀ (w : World) (a : Option Addr) (n c : Nat), (binOp .eql 61 (.slice a n c) (.slice none 0 0)).run Try.prog w = .ok (.bool a.isNone) w := fun w a n c => run_eql_slice_nil w 61 89 a n c Try.underlying61
    go_enter Try.func44, Try.ntmps44
    go_wp2_with (at_builtin; refine wpList_append_own _ rfl _ _ 61 rfl W.heap.size 89 i0 _ 65 72 Try.underlying61 hi0 hz0 hz1 hz2 rfl (by omega) (.slice (some ⟨W.heap.size, 0, none⟩) 0 0) 0 [] rfl hmade ⟨g, 0, none⟩ n cap xs rfl HX.out (hnews _) hone (by unfold maxLen; omega) (by omega) (by simp) ?_; intro v' w3 hown hgrow _)
    go_ret
    simp only [Nat.zero_add, List.nil_append] at hown
    refine ⟨_, rfl, hown, ?_⟩
    exact ((Below.refl W.heap.size W).alloc (Nat.le_refl _) _).grown hgrow (by simp) (fun k hk => by simp [Value.ownBlock] at hk; omega)
set_option maxRecDepth 20000 in
set_option maxHeartbeats 1000000 in
theorem Try.clone_t {W : World} {g n cap : Nat} {xs : List Value} (hx : xs.length = n) (h0 : 0 < n) (hn : n ≤ 1000000) (hcell : ∀ (j : Nat) u, xs[j]? = some u → W.cell? ⟨g, j, none⟩ = some u) (hgl : g < W.heap.size) (hone : ∀ u ∈ xs, u.oneCell' = true) :
    Calls Try.prog 45 #[.slice (some ⟨g, 0, none⟩) n cap] W fun e w' => ∃ t' c' rest, e = .returned (.slice (some ⟨t', 0, none⟩) n c') ∧ n ≤ c' ∧ w'.heap[t']? = some (.cells (xs ++ rest).toArray 3 (0, 0)) ∧ W.heap.size ≤ t' ∧ Below W.heap.size W w' := by
  obtain ⟨i0, hi0, hz0, hz1, hz2⟩ := info_parts Try.info_int
  have hnews : ∀ (o : Obj) j u, xs[j]? = some u → (W.alloc o).cell? ((⟨g, 0, none⟩ : Addr).add j) = some u := fun o j u hj => by
    rw [Addr.add_mid, Nat.zero_add, ((Below.refl W.heap.size W).alloc (Nat.le_refl _) o).cell (p := ⟨g, j, none⟩) hgl]; exact hcell j u hj
  have hmade : (W.alloc (.cells #[] 3)).ownsRow W.heap.size 3 1 (.slice (some ⟨W.heap.size, 0, none⟩) 0 0) 0 [] := World.ownsRow_made W #[] 0 (Nat.le_refl _) (by unfold maxLen; omega) (by simp)
  have HX : Hid (xs.length = n * 1) := by rw [Nat.mul_one]; exact hx
  clear hx hcell
  have hq : ∀ (w : World) (a : Option Addr) (n c : Nat), (binOp .eql 60 (.slice a n c) (.slice none 0 0)).run Try.prog w = .ok (.bool a.isNone) w := fun w a n c => run_eql_slice_nil w 60 3 a n c Try.underlying60
  go_enter Try.func45, Try.ntmps45
  go_wp2_with (at_builtin; refine wpList_append_own _ rfl _ _ 60 rfl W.heap.size 3 i0 _ 1 8 Try.underlying60 hi0 hz0 hz1 hz2 rfl (by omega) (.slice (some ⟨W.heap.size, 0, none⟩) 0 0) 0 [] rfl hmade ⟨g, 0, none⟩ n cap xs rfl HX.out (hnews _) hone (by unfold maxLen; omega) (by omega) (by simp) ?_; intro v' w3 hown hgrow _)
  go_ret
  simp only [Nat.zero_add, List.nil_append] at hown
  have hb3 : Below W.heap.size W w3 := ((Below.refl W.heap.size W).alloc (Nat.le_refl _) _).grown hgrow (by simp) (fun k hk => by simp [Value.ownBlock] at hk; omega)
  rcases hown.2 with ⟨_, h2⟩ | ⟨g', c', cur, e, hb', hg', hc', _, hsz, htk⟩
  · omega
  · subst e
    refine ⟨g', c', cur.toList.drop n, rfl, hc', ?_, hb', hb3⟩
    rw [Nat.mul_one] at htk
    rw [← htk, List.take_append_drop]
    simpa using hg'
end Go.Proofs
