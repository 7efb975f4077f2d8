/-
  THE DOCUMENT's QUEUE: Failed, Set, Put, All.
-/
import Derived.Test.YtmbhadloedjfeaaRb
namespace Go.Proofs
open Go.RowKit Go.Wi Go.Qu
set_option maxHeartbeats 1000000 in
theorem Try.rfailedNo {w : World} {own : Nat → Prop} {b m : Nat} {s : Qs ByteArray} (h : Try.Rq w own b s m) (hm : m ≤ 100000) (hl : s.l = []) (now : Int) :
    Calls Try.prog 17 #[.pointer (some ⟨b, 0, none⟩), .int .i64 now] w fun e w' => e = .returned (.int .i64 2) ∧ Below w.heap.size w w' := by
  have hwt := Try.rwaits h hm
  rw [hl] at hwt
  clear h
  go_enter Try.func17, Try.ntmps17
  go_wp2_with (first
    | (go_at_call 26; refine hwt.mono ?_; clear hwt; rintro z w1 ⟨rfl, n1, rfl⟩)
    | fail)
  go_ret
  exact ⟨rfl, belowN (Below.refl _ w) _⟩
set_option maxHeartbeats 1000000 in
theorem Try.rfailedBad {w : World} {own : Nat → Prop} {b m : Nat} {s : Qs ByteArray} (h : Try.Rq w own b s m) (hm : m ≤ 100000) {x : ByteArray} {r : List ByteArray} (hl : s.l = x :: r) (now : Int) (h0 : ¬ (0 ≤ now ∧ now ≤ 1000000000)) :
    Calls Try.prog 17 #[.pointer (some ⟨b, 0, none⟩), .int .i64 now] w fun e w' => e = .returned (.int .i64 1) ∧ Below w.heap.size w w' := by
  have hwt := Try.rwaits h hm
  rw [hl, List.length_cons] at hwt
  have q0 : ((r.length : Int) + 1 == 0) = false := by simp; omega
  clear h hl
  by_cases hn : now < 0
  · clear h0
    go_enter Try.func17, Try.ntmps17
    go_wp2_with (first
      | (go_at_call 26; refine hwt.mono ?_; clear hwt; rintro z w1 ⟨rfl, n1, rfl⟩)
      | fail)
    go_ret
    exact ⟨rfl, belowN (Below.refl _ w) _⟩
  · have hn2 : 1000000000 < now := by omega
    clear h0
    go_enter Try.func17, Try.ntmps17
    go_wp2_with (first
      | (go_at_call 26; refine hwt.mono ?_; clear hwt; rintro z w1 ⟨rfl, n1, rfl⟩)
      | fail)
    go_ret
    exact ⟨rfl, belowN (Below.refl _ w) _⟩
set_option maxHeartbeats 1000000 in
theorem Try.rfailedYes {w : World} {own : Nat → Prop} {b m : Nat} {s : Qs ByteArray} (h : Try.Rq w own b s m) (hm : m ≤ 100000) {x : ByteArray} {r : List ByteArray} (hl : s.l = x :: r) (now : Int) (h0 : 0 ≤ now) (h1 : now ≤ 1000000000) :
    Calls Try.prog 17 #[.pointer (some ⟨b, 0, none⟩), .int .i64 now] w fun e w' => e = .returned (.int .i64 0) ∧ Try.RC own w w' b (s.failed now) m := by
  have hwt := Try.rwaits h hm
  rw [hl, List.length_cons] at hwt
  have q0 : ((r.length : Int) + 1 == 0) = false := by simp; omega
  have hin := h.inn.failed h0 h1
  have hone := one_in h.inn.f1 h.inn.f2
  have hmo := fun W => Try.rmore s.f h.inn.f1 h.inn.f2 W
  obtain ⟨v, g, L, gone, hb, hr, hg, ho, hd, hgl, hL⟩ := h.ex
  obtain ⟨q, hq1, hq2⟩ : ∃ q : Nat, one s.f = ((q + 1 : Nat) : Int) ∧ q < 1000000000 := ⟨(one s.f).toNat - 1, by omega, by omega⟩
  have hs1 : ∀ n, Try.RC own w ((w.drewN n).setCell ⟨b, 5, none⟩ (.int .i64 (one s.f))) b { s with f := one s.f } m := fun n =>
    Try.RC.trans ((Wo.refl own w).drewN n) (fun _ e => .inl e) (Try.Rq.set (h.keep (w' := w.drewN n) (fun _ _ => rfl) (Nat.le_refl _)) (hr.keep fun _ _ => rfl) hg ho { s with f := one s.f } hd hgl hL ⟨h.inn.s1, h.inn.s2, h.inn.b1, h.inn.b2, h.inn.m2, h.inn.ln, hin.f1, hin.f2, h.inn.u1, h.inn.u2, h.inn.d1, h.inn.d2⟩ (heap_setCell_same _ b 5 _ _ _ hb) (fun j hj => Below.heap_setCell _ ⟨b, 5, none⟩ _ j hj) (by simp) ((Wo.refl _ _).setCell b 5 _ (.inl h.ox)))
  have hde : ∀ n, Calls Try.prog 28 #[.pointer (some ⟨b, 0, none⟩), .int .i64 (one s.f)] ((w.drewN n).setCell ⟨b, 5, none⟩ (.int .i64 (one s.f))) fun e w' => e = .returned (.int .i64 (dl s.base s.most q)) ∧ w' = ((w.drewN n).setCell ⟨b, 5, none⟩ (.int .i64 (one s.f))) := fun n => by
    obtain ⟨own1, hQ1, _⟩ := (hs1 n).ex
    rw [hq1] at hQ1 ⊢
    exact Try.rdelay hQ1 q hq2
  have dle := dl_le h.inn.b2 q
  have dge := dl_ge h.inn.b1 h.inn.b2 q
  have hm9 := h.inn.m2
  have hs' : s.failed now = { s with f := one s.f, u := now + dl s.base s.most q } := by unfold Qs.failed; congr 3; omega
  have HK : Hid (∀ n, Try.RC own w (((w.drewN n).setCell ⟨b, 5, none⟩ (.int .i64 (one s.f))).setCell ⟨b, 6, none⟩ (.int .i64 (now + dl s.base s.most q))) b (s.failed now) m) := fun n => by
    rw [hs'] at hin ⊢
    exact Try.RC.trans ((Wo.refl own w).drewN n) (fun _ e => .inl e) (Try.Rq.set (h.keep (w' := w.drewN n) (fun _ _ => rfl) (Nat.le_refl _)) (hr.keep fun _ _ => rfl) hg ho { s with f := one s.f, u := now + dl s.base s.most q } hd hgl hL hin (heap_setCell_same _ b 6 _ _ _ (heap_setCell_same _ b 5 _ _ _ hb)) (fun j hj => (Below.heap_setCell _ ⟨b, 6, none⟩ _ j hj).trans (Below.heap_setCell _ ⟨b, 5, none⟩ _ j hj)) (by simp) (((Wo.refl _ _).setCell b 5 _ (.inl h.ox)).setCell b 6 _ (.inl h.ox)))
  have c5 := cell_of_row w b 5 _ _ _ hb
  have c6 := cell_of_row w b 6 _ _ _ hb
  have f5 := frozen_of_row w b 5 _ _ hb
  have f6 := frozen_of_row w b 6 _ _ hb
  clear hb hr hg ho hs1 hs' hin h hl hd hgl hL hq1
  generalize one s.f = F at *
  generalize dl s.base s.most q = D at *
  have q1 : now + D ≤ 2000000000 := by omega
  go_enter Try.func17, Try.ntmps17
  go_wp2_with (first
    | (go_at_call 26; refine hwt.mono ?_; clear hwt; rintro z w1 ⟨rfl, n1, rfl⟩)
    | (go_at_call 27; refine (hmo _).mono ?_; clear hmo; rintro z w1 ⟨rfl, hw1⟩; rw [hw1]; clear hw1)
    | (go_at_call 28; refine (hde _).mono ?_; clear hde; rintro z w1 ⟨rfl, hw1⟩; rw [hw1]; clear hw1)
    | fail)
  go_ret
  exact ⟨rfl, HK.out _⟩
set_option maxHeartbeats 1000000 in
theorem Try.rsetYes {w : World} {own : Nat → Prop} {b m : Nat} {s : Qs ByteArray} (h : Try.Rq w own b s m) (f u d : Int) (h1 : 0 ≤ f) (h2 : f ≤ 1000000000) (h3 : 0 ≤ u) (h4 : u ≤ 2000000000) (h5 : 0 ≤ d) (h6 : d ≤ 1000000000) :
    Calls Try.prog 21 #[.pointer (some ⟨b, 0, none⟩), .int .i64 f, .int .i64 u, .int .i64 d] w fun e w' => e = .returned (.int .i64 0) ∧ Try.RC own w w' b { s with f := f, u := u, d := d } m := by
  obtain ⟨v, g, L, gone, hb, hr, hg, ho, hd, hgl, hL⟩ := h.ex
  have f5 := frozen_of_row w b 5 _ _ hb
  have f6 := frozen_of_row w b 6 _ _ hb
  have f7 := frozen_of_row w b 7 _ _ hb
  have c5 := cell_of_row w b 5 _ _ _ hb
  have c6 := cell_of_row w b 6 _ _ _ hb
  have c7 := cell_of_row w b 7 _ _ _ hb
  have HK : Hid (Try.RC own w (((w.setCell ⟨b, 5, none⟩ (.int .i64 f)).setCell ⟨b, 6, none⟩ (.int .i64 u)).setCell ⟨b, 7, none⟩ (.int .i64 d)) b { s with f := f, u := u, d := d } m) :=
    Try.Rq.set h hr hg ho { s with f := f, u := u, d := d } hd hgl hL ⟨h.inn.s1, h.inn.s2, h.inn.b1, h.inn.b2, h.inn.m2, h.inn.ln, h1, h2, h3, h4, h5, h6⟩ (heap_setCell_same _ b 7 _ _ _ (heap_setCell_same _ b 6 _ _ _ (heap_setCell_same w b 5 _ _ _ hb))) (fun j hj => (Below.heap_setCell _ ⟨b, 7, none⟩ _ j hj).trans ((Below.heap_setCell _ ⟨b, 6, none⟩ _ j hj).trans (Below.heap_setCell w ⟨b, 5, none⟩ _ j hj))) (by simp) ((((Wo.refl _ w).setCell b 5 _ (.inl h.ox)).setCell b 6 _ (.inl h.ox)).setCell b 7 _ (.inl h.ox))
  clear hb hr hg ho h hd hgl hL
  go_enter Try.func21, Try.ntmps21
  go_wp2
  go_ret
  exact ⟨rfl, HK.out⟩
set_option maxHeartbeats 1000000 in
theorem Try.rsetNo (w : World) (b : Nat) (f u d : Int) (h : ¬ (0 ≤ f ∧ f ≤ 1000000000 ∧ 0 ≤ u ∧ u ≤ 2000000000 ∧ 0 ≤ d ∧ d ≤ 1000000000)) :
    Calls Try.prog 21 #[.pointer (some ⟨b, 0, none⟩), .int .i64 f, .int .i64 u, .int .i64 d] w fun e w' => e = .returned (.int .i64 1) ∧ w' = w := by
  have hq : f < 0 ∨ (¬ f < 0 ∧ u < 0) ∨ (¬ f < 0 ∧ ¬ u < 0 ∧ d < 0) ∨ (¬ f < 0 ∧ ¬ u < 0 ∧ ¬ d < 0 ∧ 1000000000 < f) ∨ (¬ f < 0 ∧ ¬ u < 0 ∧ ¬ d < 0 ∧ ¬ 1000000000 < f ∧ 1000000000 < d) ∨ (¬ f < 0 ∧ ¬ u < 0 ∧ ¬ d < 0 ∧ ¬ 1000000000 < f ∧ ¬ 1000000000 < d ∧ 2000000000 < u) := by omega
  clear h
  rcases hq with a1 | ⟨a1, a2⟩ | ⟨a1, a2, a3⟩ | ⟨a1, a2, a3, a4⟩ | ⟨a1, a2, a3, a4, a5⟩ | ⟨a1, a2, a3, a4, a5, a6⟩
  all_goals
    go_enter Try.func21, Try.ntmps21
    go_wp2
    go_ret
    exact ⟨rfl, rfl⟩
end Go.Proofs
