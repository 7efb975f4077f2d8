/-
  The document's disk: Fuse, Restart, Read.
-/
import Derived.Test.YtbnokhaimcpggaaDyA
namespace Go.Proofs
open Go.RowKit Go.Dk
theorem Try.rRestart_any {w : World} {x : Nat} {Lv Wv : Value} {left k t : Int} {s : DS} (h : Try.Rfm w x Lv Wv left k t s) :
    Calls Try.prog 43 #[.pointer (some ⟨x, 0, none⟩)] w fun e w' => (∃ v, e = .returned v) ∧ Try.Rfm w' x Lv Wv left k t s.restart ∧ Dk.Wo (fun j => j = x) w w' := by
  obtain ⟨-, -, c2, c3, -⟩ := h.c
  have f2 := frozen_of_row w x 2 _ _ h.hx
  have h1 := h.set 2 (.bool true) (s' := { s with dead := false }) rfl h.hf rfl rfl rfl
  obtain ⟨-, -, -, d3, -⟩ := h1.c
  have f3 := frozen_of_row _ x 3 _ _ h1.hx
  have h2 := h1.set 3 (.bool false) (left' := left) (k' := k) (t' := t) (s' := s.restart) rfl (fun e => by cases e) rfl rfl rfl
  have hw := ((Dk.Wo.refl (fun j => j = x) w).setCell x 2 (.bool true) (.inl rfl)).setCell x 3 (.bool false) (.inl rfl)
  clear h h1
  go_enter Try.func43, Try.ntmps43
  go_wp2
  go_end0
  exact ⟨⟨_, rfl⟩, h2, hw⟩
theorem Try.rFuse_dead {w : World} {x : Nat} {Lv Wv : Value} {left k t : Int} {s : DS} (h : Try.Rfm w x Lv Wv left k t s) (hd : s.dead = true) (n k2 t2 : Int) :
    Calls Try.prog 39 #[.pointer (some ⟨x, 0, none⟩), .int .i64 n, .agg #[.int .i64 k2, .int .i64 t2]] w fun e w' => e = .returned (.int .i64 41) ∧ Below w.heap.size w w' := by
  obtain ⟨-, -, c2, -⟩ := h.c
  rw [hd] at c2
  have hxl : x < w.heap.size := Dk.block_lt h.hx
  have d2 : (w.alloc (.cells #[.int .i64 k2, .int .i64 t2] 56)).cell? ⟨x, 2, none⟩ = some (.bool false) := (((Below.refl w.heap.size w).alloc (Nat.le_refl _) _).cell (p := ⟨x, 2, none⟩) hxl).trans c2
  clear h c2
  go_enter Try.func39, Try.ntmps39
  go_wp2
  go_ret
  exact ⟨rfl, (Below.refl _ w).alloc (Nat.le_refl _) _⟩
theorem Try.rFuse_neg {w : World} {x : Nat} {Lv Wv : Value} {left k t : Int} {s : DS} (h : Try.Rfm w x Lv Wv left k t s) (hd : s.dead = false) (n k2 t2 : Int) (hn : n < 0) :
    Calls Try.prog 39 #[.pointer (some ⟨x, 0, none⟩), .int .i64 n, .agg #[.int .i64 k2, .int .i64 t2]] w fun e w' => e = .returned (.int .i64 1) ∧ Below w.heap.size w w' := by
  obtain ⟨-, -, c2, -⟩ := h.c
  rw [hd] at c2
  have hxl : x < w.heap.size := Dk.block_lt h.hx
  have d2 : (w.alloc (.cells #[.int .i64 k2, .int .i64 t2] 56)).cell? ⟨x, 2, none⟩ = some (.bool true) := (((Below.refl w.heap.size w).alloc (Nat.le_refl _) _).cell (p := ⟨x, 2, none⟩) hxl).trans c2
  clear h c2
  go_enter Try.func39, Try.ntmps39
  go_wp2
  go_ret
  exact ⟨rfl, (Below.refl _ w).alloc (Nat.le_refl _) _⟩
theorem Try.rFuse_ok {w : World} {x : Nat} {Lv Wv : Value} {left k t : Int} {s : DS} (h : Try.Rfm w x Lv Wv left k t s) (hd : s.dead = false) (n k2 t2 : Int) (hn : 0 ≤ n) :
    Calls Try.prog 39 #[.pointer (some ⟨x, 0, none⟩), .int .i64 n, .agg #[.int .i64 k2, .int .i64 t2]] w fun e w' => e = .returned (.int .i64 0) ∧ Try.Rfm w' x Lv Wv n k2 t2 { s with fset := true, fl := n, fk := k2, ft := t2 } ∧ Dk.Wo (fun j => j = x) w w' := by
  have q0 : ¬ n < 0 := by omega
  obtain ⟨W, hW⟩ : ∃ W : World, W = w.alloc (.cells #[.int .i64 k2, .int .i64 t2] 56) := ⟨_, rfl⟩
  have hb : Below w.heap.size w W := by rw [hW]; exact (Below.refl _ w).alloc (Nat.le_refl _) _
  have hbox : W.heap[w.heap.size]? = some (.cells #[.int .i64 k2, .int .i64 t2] 56 (0, 0)) := by rw [hW]; exact heap_alloc_new w _
  have hM := h.keep fun j e => hb.block j (h.foot_lt j e)
  have hxl : x < w.heap.size := Dk.block_lt h.hx
  obtain ⟨-, -, c2, c3, c4, c5, c6, -⟩ := hM.c
  rw [hd] at c2
  have f3 := frozen_of_row _ x 3 _ _ hM.hx
  have h1 := hM.set 3 (.bool true) (left' := left) (k' := k) (t' := t) (s' := { s with fset := true, fl := left, fk := k, ft := t }) rfl (fun _ => ⟨rfl, rfl, rfl⟩) rfl rfl rfl
  have h2 := h1.set 4 (.int .i64 n) (left' := n) (k' := k) (t' := t) (s' := { s with fset := true, fl := n, fk := k, ft := t }) rfl (fun _ => ⟨rfl, rfl, rfl⟩) rfl rfl rfl
  have h3 := h2.set 5 (.int .i64 k2) (left' := n) (k' := k2) (t' := t) (s' := { s with fset := true, fl := n, fk := k2, ft := t }) rfl (fun _ => ⟨rfl, rfl, rfl⟩) rfl rfl rfl
  have h4 := h3.set 6 (.int .i64 t2) (left' := n) (k' := k2) (t' := t2) (s' := { s with fset := true, fl := n, fk := k2, ft := t2 }) rfl (fun _ => ⟨rfl, rfl, rfl⟩) rfl rfl rfl
  have hw : Dk.Wo (fun j => j = x) w _ := ((((((Dk.Wo.refl (fun j => j = x) w).below hb (Nat.le_refl _)).setCell x 3 (.bool true) (.inl rfl)).setCell x 4 (.int .i64 n) (.inl rfl)).setCell x 5 (.int .i64 k2) (.inl rfl)).setCell x 6 (.int .i64 t2) (.inl rfl))
  have e0 : W.cell? ⟨w.heap.size, 0, none⟩ = some (.int .i64 k2) := cell_of_row W _ 0 _ _ _ hbox
  have e1 : W.cell? ⟨w.heap.size, 1, none⟩ = some (.int .i64 t2) := cell_of_row W _ 1 _ _ _ hbox
  have f4 := frozen_of_row _ x 4 _ _ hM.hx
  have f5 := frozen_of_row _ x 5 _ _ hM.hx
  have f6 := frozen_of_row _ x 6 _ _ hM.hx
  have HW : Hid (W = w.alloc (.cells #[.int .i64 k2, .int .i64 t2] 56)) := hW
  have hne : x ≠ w.heap.size := by omega
  have H4 : Hid (Try.Rfm _ x Lv Wv n k2 t2 { s with fset := true, fl := n, fk := k2, ft := t2 }) := h4
  have Hw : Hid (Dk.Wo (fun j => j = x) w _) := hw
  clear h hM h1 h2 h3 h4 hw hb hbox hxl hd hW
  go_enter Try.func39, Try.ntmps39
  go_upto_region 1 with fail
  rw [← HW.out]
  clear HW
  go_wp2
  go_ret
  exact ⟨rfl, H4.out, Hw.out⟩
/-- Reading. -/
theorem Try.rRead_dead {w : World} {x : Nat} {Lv Wv : Value} {left k t : Int} {s : DS} (h : Try.Rfm w x Lv Wv left k t s) (hd : s.dead = true) (i : Int) :
    Calls Try.prog 33 #[.pointer (some ⟨x, 0, none⟩), .int .i64 i] w fun e w' => e = .returned (.tuple #[.string ⟨#[]⟩, .int .i64 41]) ∧ w' = w := by
  obtain ⟨-, -, c2, -⟩ := h.c
  rw [hd] at c2
  clear h
  go_enter Try.func33, Try.ntmps33
  go_wp2
  go_ret2
  exact ⟨rfl, rfl⟩
theorem Try.rRead_no {w : World} {x : Nat} {Lv Wv : Value} {left k t : Int} {s : DS} (h : Try.Rfm w x Lv Wv left k t s) (hd : s.dead = false) (i : Int) (hi : ¬ (0 ≤ i ∧ i < s.n)) :
    Calls Try.prog 33 #[.pointer (some ⟨x, 0, none⟩), .int .i64 i] w fun e w' => e = .returned (.tuple #[.string ⟨#[]⟩, .int .i64 40]) ∧ w' = w := by
  obtain ⟨c0, -, c2, -⟩ := h.c
  obtain ⟨ad, cap, rfl, -⟩ := Dk.rowForm h.lr
  rw [hd] at c2
  clear h
  by_cases h0 : i < 0
  · go_enter Try.func33, Try.ntmps33
    go_wp2
    go_ret2
    exact ⟨rfl, rfl⟩
  · have h1 : (s.n : Int) ≤ i := by omega
    go_enter Try.func33, Try.ntmps33
    go_wp2
    go_ret2
    exact ⟨rfl, rfl⟩
theorem Dk.pcell {w : World} {B : Nat} {T : TypeId} {V : Value} {W : List Wr} (h : w.ownsRow B T 2 V W.length (Dk.prs W)) {k : Nat} {p : Wr} (hk : W[k]? = some p) : ∃ g cap, V = .slice (some ⟨g, 0, none⟩) W.length cap ∧ w.cell? ⟨g, k * 2, none⟩ = some (.int .i64 (p.1 : Nat)) ∧ w.cell? ⟨g, k * 2 + 1, none⟩ = some (.string ⟨p.2.toArray⟩) := by
  have hkl := (List.getElem?_eq_some_iff.1 hk).1
  rcases h.2 with ⟨-, e0⟩ | ⟨g, cap, cur, e, -⟩
  · omega
  · obtain ⟨c1, c2⟩ := Dk.prs_at W k p hk
    subst e
    have d1 := h.cells (g := g) rfl _ _ c1
    have d2 := h.cells (g := g) rfl _ _ c2
    rw [Addr.add_mid, Nat.zero_add] at d1 d2
    exact ⟨g, cap, rfl, d1, d2⟩
theorem Dk.scell {w : World} {B n : Nat} {T : TypeId} {V : Value} {L : List UInt8} (h : w.ownsRow B T 1 V n (Dk.strs n L)) {i : Nat} (hi : i < n) : ∃ g cap, V = .slice (some ⟨g, 0, none⟩) n cap ∧ w.cell? ⟨g, i, none⟩ = some (.string ⟨(blk L i).toArray⟩) ∧ w.frozen? ⟨g, i, none⟩ = false := by
  rcases h.2 with ⟨-, e0⟩ | ⟨g, cap, cur, e, -, hh, -⟩
  · omega
  · subst e
    have d1 := h.cells (g := g) rfl _ _ (Dk.strs_at L hi)
    rw [Addr.add_mid, Nat.zero_add] at d1
    exact ⟨g, cap, rfl, d1, frozen_of_row _ _ _ _ _ hh⟩
/-- From behind. -/
theorem Dk.lat_step {W : List Wr} {k i : Nat} {p : Wr} (hk : W[k]? = some p) (h : lat W i ≤ k + 1) : (p.1 = i → lat W i = k + 1) ∧ (p.1 ≠ i → lat W i ≤ k) := by
  have hkl := (List.getElem?_eq_some_iff.1 hk).1
  have e : W = W.take (k + 1) ++ W.drop (k + 1) := (List.take_append_drop _ _).symm
  have hz : ∀ (V U : List Wr), lat (V ++ U) i = if lat U i = 0 then lat V i else V.length + lat U i := fun V U => by
    induction V with
    | nil => simp only [List.nil_append, lat, List.length_nil]; split <;> omega
    | cons q V ih =>
      simp only [List.cons_append, lat, ih, List.length_cons]
      by_cases hu : lat U i = 0
      · simp only [hu, if_true]
      · simp only [hu, if_false]
        rw [if_neg (by omega)]; omega
  have hd : lat (W.drop (k + 1)) i = 0 := by
    by_cases q : lat (W.drop (k + 1)) i = 0
    · exact q
    · exfalso
      have h2 := hz (W.take (k + 1)) (W.drop (k + 1))
      rw [← e, if_neg q, List.length_take, Nat.min_eq_left (by omega)] at h2
      omega
  have h3 := hz (W.take (k + 1)) (W.drop (k + 1))
  rw [← e, if_pos hd, List.take_add_one, hk] at h3
  simp only [Option.toList_some] at h3
  rw [lat_one, List.length_take, Nat.min_eq_left (by omega)] at h3
  constructor
  · intro hp; rw [if_pos hp] at h3; exact h3
  · intro hp; rw [if_neg hp] at h3
    have := lat_le (W.take k) i
    rw [List.length_take] at this
    omega
set_option maxHeartbeats 1000000 in
theorem Try.rRead_ok {w : World} {x : Nat} {Lv Wv : Value} {left kk t : Int} {s : DS} (h : Try.Rfm w x Lv Wv left kk t s) (hd : s.dead = false) (i : Nat) (hi : i < s.n) :
    Calls Try.prog 33 #[.pointer (some ⟨x, 0, none⟩), .int .i64 i] w fun e w' => e = .returned (.tuple #[.string ⟨(blk s.view i).toArray⟩, .int .i64 0]) ∧ w' = w := by
  obtain ⟨c0, c1, c2, -⟩ := h.c
  obtain ⟨g, cap, rfl, cL, -⟩ := Dk.scell h.lr hi
  obtain ⟨wa, wc, hWv, -⟩ := Dk.rowForm h.wr
  rw [hd] at c2
  have q0 : ¬ (i : Int) < 0 := by omega
  have q1 : (i : Int) < (s.n : Int) := by omega
  have q2 : ¬ (s.n : Int) ≤ (i : Int) := by omega
  have hv := Dk.blk_view s rfl h.lL h.good hi
  have Hv : Hid (blk s.view i = if lat s.W i = 0 then blk s.L i else (s.W.getD (lat s.W i - 1) (0, [])).2) := hv
  have Hw : Hid (w.ownsRow 0 72 2 Wv s.W.length (Dk.prs s.W)) := h.wr
  have hwl : s.W.length ≤ 1000000 := h.w1
  have Hl0 : Hid (lat s.W i ≤ s.W.length) := lat_le _ _
  rw [hWv] at c1 Hw
  clear h hv hWv
  go_enter Try.func33, Try.ntmps33
  go_upto_region 6 with fail
  go_loopw [6] (fun j wr => ∃ k : Nat, k ≤ s.W.length ∧ j = .int .i64 ((k : Int) - 1) ∧ wr = w ∧ lat s.W i ≤ k) (fun j _ => (intOf j + 1).toNat)
  case atStart => exact ⟨s.W.length, Nat.le_refl _, rfl, rfl, Hl0.out⟩
  case round =>
    obtain ⟨k, hk, rfl, rfl, hlat⟩ := hrel
    by_cases hk0 : k = 0
    · subst hk0
      have Hlat : Hid (lat s.W i = 0) := by show _ = _; omega
      clear hlat Hl0
      go_wp2
      go_ret2
      rw [Hv.out, if_pos Hlat.out]
      exact ⟨rfl, rfl⟩
    · obtain ⟨m, rfl⟩ : ∃ m, k = m + 1 := ⟨k - 1, by omega⟩
      obtain ⟨p, hp⟩ : ∃ p, s.W[m]? = some p := ⟨_, List.getElem?_eq_getElem (by omega)⟩
      obtain ⟨wg, wc', e, d1, d2⟩ := Dk.pcell Hw.out hp
      cases e
      have hst := Dk.lat_step hp hlat
      have e1 : (((m + 1 : Nat) : Int) - 1) = (m : Int) := by omega
      rw [e1]
      have Hg : Hid (s.W.getD m (0, []) = p) := by show _ = _; rw [List.getD_eq_getElem?_getD, hp]; rfl
      have Hp : Hid (s.W[m]? = some p) := hp
      clear hp hlat e1 hk0
      by_cases hpi : p.1 = i
      · have Hlat : Hid (lat s.W i = m + 1) := hst.1 hpi
        have q3 : ((p.1 : Int) == (i : Int)) = true := by simp [hpi]
        clear hst
        go_wp2
        go_ret2
        rw [Hv.out, if_neg (by rw [Hlat.out]; omega), Hlat.out, Nat.add_sub_cancel, Hg.out]
        exact ⟨rfl, rfl⟩
      · have Hlat : Hid (lat s.W i ≤ m) := hst.2 hpi
        have q3 : ((p.1 : Int) == (i : Int)) = false := by simp; omega
        have q4 : ¬ (p.1 : Int) = (i : Int) := by omega
        clear hst
        go_wp2
        go_roundw
        case rel => exact ⟨m, by omega, rfl, trivial, Hlat.out⟩
        case measure => simp [intOf]
end Go.Proofs
