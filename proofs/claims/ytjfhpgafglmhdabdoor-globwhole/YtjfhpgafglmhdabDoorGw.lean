/-
  GLOB: rows of parts in memory; 'special', 'join'.
-/
import Derived.Test.YtjfhpgafglmhdabDoorGp
import Derived.Test.YtjfhpgafglmhdabDoorProg
import Derived.WalkKit
import Derived.Deep.AppendLies
import Derived.Deep.RegionWith
import Derived.Deep.DeepCutAuto
import Derived.Laws.OwnMore
namespace Go.Gl
theorem cells_len (ps : List P) : (cellsOf ps).length = ps.length * 2 := by
  induction ps with
  | nil => rfl
  | cons p r ih => simp [cellsOf, ih]; omega
theorem cells_app (ps qs : List P) : cellsOf (ps ++ qs) = cellsOf ps ++ cellsOf qs := by
  induction ps with
  | nil => rfl
  | cons p r ih => simp [cellsOf, ih]
theorem cells_kind (ps : List P) : ∀ (i : Nat) (h : i < ps.length), (cellsOf ps)[2 * i]? = some (.int .i64 (ps[i]'h).kind) := by
  induction ps with
  | nil => intro i h; simp at h
  | cons p r ih =>
    intro i h
    cases i with
    | zero => rfl
    | succ i => rw [show 2 * (i + 1) = 2 * i + 1 + 1 by omega]; simp only [cellsOf, List.getElem?_cons_succ, List.getElem_cons_succ]; exact ih i (by simpa using h)
theorem cells_sign (ps : List P) : ∀ (i : Nat) (h : i < ps.length), (cellsOf ps)[2 * i + 1]? = some (.int .i32 (ps[i]'h).sign) := by
  induction ps with
  | nil => intro i h; simp at h
  | cons p r ih =>
    intro i h
    cases i with
    | zero => rfl
    | succ i => rw [show 2 * (i + 1) + 1 = 2 * i + 1 + 1 + 1 by omega]; simp only [cellsOf, List.getElem?_cons_succ, List.getElem_cons_succ]; exact ih i (by simpa using h)
theorem cells_one (ps : List P) : ∀ u ∈ cellsOf ps, u.oneCell' = true := by
  induction ps with
  | nil => intro u h; simp [cellsOf] at h
  | cons p r ih =>
    intro u h
    simp only [cellsOf, List.mem_cons] at h
    rcases h with rfl | rfl | h
    · rfl
    · rfl
    · exact ih u h
theorem row_kept {w w' : World} {B : Nat} {e : TypeId} {size : Nat} {v : Value} {n : Nat} {xs : List Value} (h : w.ownsRow B e size v n xs) (hk : ∀ g, B ≤ g → g < w.heap.size → w'.heap[g]? = w.heap[g]?) : w'.ownsRow B e size v n xs := by
  refine ⟨h.1, ?_⟩
  rcases h.2 with h1 | ⟨g, cap, cur, h1, h2, h3, h4⟩
  · exact .inl h1
  · exact .inr ⟨g, cap, cur, h1, h2, by rw [hk g h2 (Array.getElem?_eq_some_iff.1 h3).1]; exact h3, h4⟩
theorem row_mono {w : World} {B B' : Nat} {e : TypeId} {size : Nat} {v : Value} {n : Nat} {xs : List Value} (h : w.ownsRow B e size v n xs) (hb : B' ≤ B) : w.ownsRow B' e size v n xs := by
  refine ⟨h.1, ?_⟩
  rcases h.2 with h1 | ⟨g, cap, cur, h1, h2, h3⟩
  · exact .inl h1
  · exact .inr ⟨g, cap, cur, h1, by omega, h3⟩
theorem row_slice {w : World} {B : Nat} {e : TypeId} {size : Nat} {v : Value} {n : Nat} {xs : List Value} (h : w.ownsRow B e size v n xs) : ∃ a m c, v = .slice a m c := by
  rcases h.2 with ⟨h1, _⟩ | ⟨g, cap, cur, h1, _⟩
  · exact ⟨_, _, _, h1⟩
  · exact ⟨_, _, _, h1⟩
theorem row_block {w : World} {B : Nat} {e : TypeId} {size : Nat} {v : Value} {n : Nat} {xs : List Value} (h : w.ownsRow B e size v n xs) : ∀ k, v.ownBlock = some k → B ≤ k := by
  intro k hk
  rcases h.2 with ⟨rfl, _⟩ | ⟨g, cap, cur, rfl, h2, _⟩
  · cases hk
  · simp [Value.ownBlock] at hk; omega
theorem join_last {ps : List P} {p : P} (h : ps.getLast? ≠ some .any ∨ ∃ r, p = .fix r) : join ps p = ps ++ [p] := by
  unfold join
  rcases h with h | ⟨r, rfl⟩
  · rw [if_neg h]
  · split <;> rfl
end Go.Gl
namespace Go.Proofs
open Go.RowKit Go.Gl
theorem Gl.row_below {w w' : World} {B : Nat} {e : TypeId} {size : Nat} {v : Value} {n : Nat} {xs : List Value} (h : w.ownsRow B e size v n xs) (hk : Below w.heap.size w w') : w'.ownsRow B e size v n xs :=
  row_kept h fun g _ h2 => hk.block g h2
theorem Gl.row_alloc {w : World} {B : Nat} {e : TypeId} {size : Nat} {v : Value} {n : Nat} {xs : List Value} (h : w.ownsRow B e size v n xs) (o : Obj) : (w.alloc o).ownsRow B e size v n xs :=
  row_kept h fun g _ h2 => Below.heap_alloc w o g h2
theorem Gl.below_grown {w1 w2 : World} {row : Option Nat} {B : Nat} (g : w1.grownBy w2 row) (hB : B ≤ w1.heap.size) (hr : ∀ k, row = some k → B ≤ k) : Below B w1 w2 :=
  ⟨g.os, g.tape, g.output, g.size, fun k hk => g.block k (by omega) (fun e => by have := hr k e.symm; omega)⟩
theorem Gl.new_block (w : World) (o1 o2 : Obj) : ((w.alloc o1).alloc o2).heap[w.heap.size + 1]? = some o2 := by
  have := heap_alloc_new (w.alloc o1) o2
  have e : (w.alloc o1).heap.size = w.heap.size + 1 := by simp
  rw [e] at this
  exact this
theorem Gl.below_two (w : World) (o1 o2 : Obj) : Below w.heap.size w ((w.alloc o1).alloc o2) := ((Below.refl _ w).alloc (Nat.le_refl _) o1).alloc (by simp) o2
set_option maxHeartbeats 400000 in
theorem Tryd.special_any (r : Nat) (w : World) : Calls Tryd.prog 25 #[.int .i32 r] w fun e w' => e = .returned (.bool (special r)) ∧ w' = w := by
  by_cases h1 : r = 42
  · subst h1
    go_enter Tryd.func25, Tryd.ntmps25
    go_wp2
    go_ret
    exact ⟨rfl, rfl⟩
  · by_cases h2 : r = 63
    · subst h2
      go_enter Tryd.func25, Tryd.ntmps25
      go_wp2
      go_ret
      exact ⟨rfl, rfl⟩
    · have b1 : ((r : Int) == 42) = false := by rw [beq_eq_false_iff_ne]; omega
      have b2 : ((r : Int) == 63) = false := by rw [beq_eq_false_iff_ne]; omega
      have b3 : ((r : Int) == 92) = special r := by
        unfold special
        rw [show (r == 42) = false by simpa using h1, show (r == 63) = false by simpa using h2, Bool.false_or, Bool.false_or]
        rw [Bool.eq_iff_iff, beq_iff_eq, beq_iff_eq]; omega
      generalize special r = x at *
      go_enter Tryd.func25, Tryd.ntmps25
      go_wp2
      go_ret
      exact ⟨rfl, rfl⟩
theorem Tryd.info_part : (Tryd.prog.info? 45).map (fun i => (i.zero, i.size, i.bytes)) = some (some (.agg #[.int .i64 0, .int .i32 0]), 2, 16) := by kernel_rfl
set_option maxHeartbeats 1000000 in
set_option maxRecDepth 100000 in
theorem Tryd.join_nil (p : P) (base : Nat) (w : World) (hb : base ≤ w.heap.size) :
    Calls Tryd.prog 54 #[.slice none 0 0, .agg #[.int .i64 p.kind, .int .i32 p.sign]] w fun e w' => ∃ v', e = .returned v' ∧ w'.ownsRow base 45 2 v' 1 (cellsOf [p]) ∧ Below base w w' := by
  obtain ⟨i0, hi0, hz0, hz1, hz2⟩ := info_parts Tryd.info_part
  have hown := World.ownsRow_nil w base 45 2
  go_enter Tryd.func54, Tryd.ntmps54
  go_wp2_with (first
    | (at_builtin; go_loud (refine wpList_append_lies _ rfl _ _ 42 rfl base 45 i0 _ 2 16 Tryd.underlying42 hi0 hz0 hz1 hz2 rfl (by omega) _ 0 [] rfl (Gl.row_alloc (Gl.row_alloc hown _) _) ⟨w.heap.size + 1, 0, none⟩ 1 1 (cellsOf [p]) rfl rfl (World.news_of_block (cs := #[.int .i64 p.kind, .int .i32 p.sign]) (t := 45) (fr := (0, 0)) (Gl.new_block w _ _)) (cells_one _) (by omega) (by unfold maxLen; omega) (by omega) (by simp; omega) (w.heap.size + 1 + 1) (by simp) ?_); intro g cap w' hown' hg hat hlt)
    | fail)
  go_ret
  exact ⟨_, rfl, hown', ((Gl.below_two w _ _).mono hb).trans (Gl.below_grown hg (by simp; omega) (fun k hk => by cases hk))⟩
set_option maxHeartbeats 2000000 in
set_option maxRecDepth 100000 in
/-- 'join', where the part is put behind others. -/
theorem Tryd.join_app (ps : List P) (p : P) (g n cap base : Nat) (w : World) (hown : w.ownsRow base 45 2 (.slice (some ⟨g, 0, none⟩) n cap) n (cellsOf ps)) (hb : base ≤ w.heap.size) (hlen : n ≤ 1000) (hp : n = ps.length)
    (q : P) (hq : ps.getLast? = some q) (hj : q ≠ .any ∨ ∃ r, p = .fix r) :
    Calls Tryd.prog 54 #[.slice (some ⟨g, 0, none⟩) n cap, .agg #[.int .i64 p.kind, .int .i32 p.sign]] w fun e w' => ∃ v', e = .returned v' ∧ w'.ownsRow base 45 2 v' (n + 1) (cellsOf ps ++ cellsOf [p]) ∧ Below base w w' := by
  obtain ⟨i0, hi0, hz0, hz1, hz2⟩ := info_parts Tryd.info_part
  have hrb := row_block hown
  obtain ⟨qs, rfl⟩ := List.getLast?_eq_some_iff.1 hq
  obtain ⟨m, rfl⟩ : ∃ m, n = m + 1 := ⟨qs.length, by simpa using hp⟩
  have hm : m = qs.length := by simpa using hp
  have hgl := hown.lt g rfl
  have hc : w.cell? ⟨g, m * 2, none⟩ = some (.int .i64 q.kind) := by
    rw [hown.cellAt (m * 2) (by omega)]
    have := cells_kind (qs ++ [q]) m (by simp; omega)
    rw [Nat.mul_comm m 2, this]
    simp [hm]
  have hc' : ∀ o1, (w.alloc o1).cell? ⟨g, m * 2, none⟩ = some (.int .i64 q.kind) := fun o1 => (((Below.refl w.heap.size w).alloc (Nat.le_refl _) o1).cell (p := ⟨g, m * 2, none⟩) hgl.2).trans hc
  have hlast : wrap64 (((m + 1 : Nat) : Int) - 1) = (m : Int) := by unfold wrap64; omega
  have hneg : ¬ (m : Int) < 0 := by omega
  clear hp hm hq hc
  rcases hj with hj | ⟨r, rfl⟩
  · have hk : (q.kind != 2) = true := by cases q <;> first | rfl | exact absurd rfl hj
    generalize q.kind = kd at hc' hk
    go_enter Tryd.func54, Tryd.ntmps54
    go_wp2_with (first
      | (at_builtin; go_loud (refine wpList_append_lies _ rfl _ _ 42 rfl base 45 i0 _ 2 16 Tryd.underlying42 hi0 hz0 hz1 hz2 rfl (by omega) _ (m + 1) (cellsOf (qs ++ [q])) rfl (Gl.row_alloc (Gl.row_alloc hown _) _) ⟨w.heap.size + 1, 0, none⟩ 1 1 (cellsOf [p]) rfl rfl (World.news_of_block (cs := #[.int .i64 p.kind, .int .i32 p.sign]) (t := 45) (fr := (0, 0)) (Gl.new_block w _ _)) (cells_one _) (by omega) (by unfold maxLen; omega) (by omega) (by simp; omega) (w.heap.size + 1 + 1) (by simp) ?_); intro g' cap' w' hown' hg hat hlt)
      | fail)
    go_ret
    exact ⟨_, rfl, hown', ((Gl.below_two w _ _).mono hb).trans (Gl.below_grown hg (by simp; omega) hrb)⟩
  · by_cases hqa : q = .any
    · have hk : (q.kind != 2) = false := by rw [hqa]; rfl
      clear hqa
      generalize q.kind = kd at hc' hk
      go_enter Tryd.func54, Tryd.ntmps54
      go_wp2_with (first
        | (at_builtin; refine wpList_append_lies _ rfl _ _ 42 rfl base 45 i0 _ 2 16 Tryd.underlying42 hi0 hz0 hz1 hz2 rfl (by omega) _ (m + 1) (cellsOf (qs ++ [q])) rfl (Gl.row_alloc (Gl.row_alloc hown _) _) ⟨w.heap.size + 1, 0, none⟩ 1 1 (cellsOf [.fix r]) rfl rfl (World.news_of_block (cs := #[.int .i64 0, .int .i32 r]) (t := 45) (fr := (0, 0)) (Gl.new_block w _ _)) (cells_one _) (by omega) (by unfold maxLen; omega) (by omega) (by simp; omega) (w.heap.size + 1 + 1) (by simp) ?_; intro g' cap' w' hown' hg hat hlt)
        | fail)
      go_ret
      exact ⟨_, rfl, hown', ((Gl.below_two w _ _).mono hb).trans (Gl.below_grown hg (by simp; omega) hrb)⟩
    · have hk : (q.kind != 2) = true := by cases q <;> first | rfl | exact absurd rfl hqa
      clear hqa
      generalize q.kind = kd at hc' hk
      go_enter Tryd.func54, Tryd.ntmps54
      go_wp2_with (first
        | (at_builtin; refine wpList_append_lies _ rfl _ _ 42 rfl base 45 i0 _ 2 16 Tryd.underlying42 hi0 hz0 hz1 hz2 rfl (by omega) _ (m + 1) (cellsOf (qs ++ [q])) rfl (Gl.row_alloc (Gl.row_alloc hown _) _) ⟨w.heap.size + 1, 0, none⟩ 1 1 (cellsOf [.fix r]) rfl rfl (World.news_of_block (cs := #[.int .i64 0, .int .i32 r]) (t := 45) (fr := (0, 0)) (Gl.new_block w _ _)) (cells_one _) (by omega) (by unfold maxLen; omega) (by omega) (by simp; omega) (w.heap.size + 1 + 1) (by simp) ?_; intro g' cap' w' hown' hg hat hlt)
        | fail)
      go_ret
      exact ⟨_, rfl, hown', ((Gl.below_two w _ _).mono hb).trans (Gl.below_grown hg (by simp; omega) hrb)⟩
set_option maxHeartbeats 1000000 in
set_option maxRecDepth 100000 in
/-- 'join', where the last one is ANY, and one more ANY comes. -/
theorem Tryd.join_any2 (ps : List P) (g n cap base : Nat) (w : World) (hown : w.ownsRow base 45 2 (.slice (some ⟨g, 0, none⟩) n cap) n (cellsOf ps)) (hb : base ≤ w.heap.size) (hlen : n ≤ 1000) (hp : n = ps.length)
    (hq : ps.getLast? = some .any) :
    Calls Tryd.prog 54 #[.slice (some ⟨g, 0, none⟩) n cap, .agg #[.int .i64 2, .int .i32 0]] w fun e w' => ∃ v', e = .returned v' ∧ w'.ownsRow base 45 2 v' n (cellsOf ps) ∧ Below base w w' := by
  obtain ⟨qs, rfl⟩ := List.getLast?_eq_some_iff.1 hq
  obtain ⟨m, rfl⟩ : ∃ m, n = m + 1 := ⟨qs.length, by simpa using hp⟩
  have hm : m = qs.length := by simpa using hp
  have hgl := hown.lt g rfl
  have hc : w.cell? ⟨g, m * 2, none⟩ = some (.int .i64 2) := by
    rw [hown.cellAt (m * 2) (by omega)]
    have := cells_kind (qs ++ [.any]) m (by simp; omega)
    rw [Nat.mul_comm m 2, this]
    simp [hm, P.kind]
  have hc' : ∀ o1, (w.alloc o1).cell? ⟨g, m * 2, none⟩ = some (.int .i64 2) := fun o1 => (((Below.refl w.heap.size w).alloc (Nat.le_refl _) o1).cell (p := ⟨g, m * 2, none⟩) hgl.2).trans hc
  have hneg : ¬ (m : Int) < 0 := by omega
  have Hown : Hid _ := hown
  clear hp hm hq hc hown
  go_enter Tryd.func54, Tryd.ntmps54
  go_wp2
  go_ret
  exact ⟨_, rfl, Gl.row_alloc Hown.out _, ((Below.refl w.heap.size w).alloc (Nat.le_refl _) _).mono hb⟩
theorem Gl.row_cut {w : World} {base : Nat} {e : TypeId} {g m cap : Nat} {xs : List Value} {a b : Value} (h : w.ownsRow base e 2 (.slice (some ⟨g, 0, none⟩) (m + 1) cap) (m + 1) (xs ++ [a, b])) : w.ownsRow base e 2 (.slice (some ⟨g, 0, none⟩) m cap) m xs := by
  have hl : xs.length = m * 2 := by have := h.1; simp at this; omega
  refine ⟨hl, ?_⟩
  rcases h.2 with ⟨h1, _⟩ | ⟨g', cap', cur, h1, h2, h3, h4, h5, h6, h7⟩
  · cases h1
  · cases h1
    refine .inr ⟨g, cap, cur, rfl, h2, h3, by omega, h5, h6, ?_⟩
    have := congrArg (List.take (m * 2)) h7
    rw [List.take_take, Nat.min_eq_left (by omega)] at this
    rw [this, ← hl, List.take_left]
set_option maxHeartbeats 2000000 in
set_option maxRecDepth 100000 in
/-- 'join', where the last one is ANY, and a ONE comes. -/
theorem Tryd.join_one2 (qs : List P) (g m cap base : Nat) (w : World) (hown : w.ownsRow base 45 2 (.slice (some ⟨g, 0, none⟩) (m + 1) cap) (m + 1) (cellsOf (qs ++ [.any]))) (hb : base ≤ w.heap.size) (hlen : m ≤ 1000) (hm : m = qs.length) :
    Calls Tryd.prog 54 #[.slice (some ⟨g, 0, none⟩) (m + 1) cap, .agg #[.int .i64 1, .int .i32 0]] w fun e w' => ∃ v', e = .returned v' ∧ w'.ownsRow base 45 2 v' (m + 2) (cellsOf qs ++ cellsOf [.one, .any]) ∧ Below base w w' := by
  obtain ⟨i0, hi0, hz0, hz1, hz2⟩ := info_parts Tryd.info_part
  have hgl := hown.lt g rfl
  have hcap : m + 1 ≤ cap := by
    rcases hown.2 with ⟨h1, _⟩ | ⟨g', cap', cur, h1, _, _, h4, _⟩
    · cases h1
    · cases h1; exact h4
  have hc : w.cell? ⟨g, m * 2, none⟩ = some (.int .i64 2) := by
    rw [hown.cellAt (m * 2) (by omega)]
    have := cells_kind (qs ++ [.any]) m (by simp; omega)
    rw [Nat.mul_comm m 2, this]
    simp [hm, P.kind]
  have hc' : ∀ o1, (w.alloc o1).cell? ⟨g, m * 2, none⟩ = some (.int .i64 2) := fun o1 => (((Below.refl w.heap.size w).alloc (Nat.le_refl _) o1).cell (p := ⟨g, m * 2, none⟩) hgl.2).trans hc
  have hneg : ¬ (m : Int) < 0 := by omega
  rw [cells_app] at hown
  have hcut := Gl.row_cut (a := .int .i64 2) (b := .int .i32 0) hown
  have hrb := row_block hcut
  clear hm hc hown
  have hm0 : (0 : Int) ≤ (m : Int) := by omega
  have hmc : (m : Int) ≤ (cap : Int) := by omega
  go_enter Tryd.func54, Tryd.ntmps54
  go_wp2_with fail
  go_region_law (first
    | (refine step_append_lies _ (by rfl) _ _ _ (by rfl) base 45 i0 _ 2 16 Tryd.underlying42 hi0 hz0 hz1 hz2 rfl (by omega) (.slice (some ⟨g, 0, none⟩) m cap) m (cellsOf qs) (by rfl) (Gl.row_alloc (row_kept (w' := (w.alloc (.cells #[.int .i64 1, .int .i32 0] 45)).drew) hcut (fun _ _ h2 => Below.heap_alloc w _ _ h2)) _) ⟨w.heap.size + 1, 0, none⟩ 2 2 (cellsOf [.one, .any]) (by rfl) (by rfl) (World.news_of_block (cs := #[.int .i64 1, .int .i32 0, .int .i64 2, .int .i32 0]) (t := 45) (fr := (0, 0)) (by exact Gl.new_block w _ _)) (cells_one _) (by omega) (by unfold maxLen; omega) (by omega) (by simp; omega) (w.heap.size + 1 + 1) (by simp) ?_; intro g' cap' w' hown' hg hat hlt)
    | fail)
  all_goals
    go_wp2
    go_ret
    exact ⟨_, rfl, hown', (((Gl.below_two w _ _).mono hb).trans (Gl.below_grown ⟨hg.os, hg.tape, hg.output, hg.size, hg.block⟩ (by simp; omega) hrb))⟩
end Go.Proofs
