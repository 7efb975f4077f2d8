/-
  THE DOCUMENT's QUEUE: New, Head, Done, Delay, Failed, Set.
-/
import Derived.Test.YtmbhadloedjfeaaRa
namespace Go.Proofs
open Go.RowKit Go.Wi Go.Qu
theorem Try.RC.drewN {own : Nat → Prop} {w w' : World} {b m : Nat} {s : Qs ByteArray} (h : Try.RC own w w' b s m) (n : Nat) : Try.RC own w (w'.drewN n) b s m := by
  obtain ⟨own', h1, h2⟩ := h.ex
  exact ⟨⟨own', h1.keep (fun _ _ => rfl) (Nat.le_refl _), h2⟩, h.wo.drewN n⟩
theorem Try.RC.ofBelow {own : Nat → Prop} {w w' : World} {b m : Nat} {s : Qs ByteArray} (h : Try.Rq w own b s m) (g : Below w.heap.size w w') : Try.RC own w w' b s m := ⟨⟨own, h.below g, fun _ e => .inl e⟩, Wo.ofBelow g⟩
set_option maxHeartbeats 1000000 in
theorem Try.rnew (size base most : Int) (h1 : 1 ≤ size) (h2 : size ≤ 1000) (h3 : 1 ≤ base) (h4 : base ≤ most) (h5 : most ≤ 1000000000) (w : World) :
    Calls Try.prog 12 #[.int .i64 size, .int .i64 base, .int .i64 most] w fun e w' => ∃ b, e = .returned (.tuple #[.pointer (some ⟨b, 0, none⟩), .int .i64 0]) ∧ Try.Rq w' (fun k => w.heap.size ≤ k ∧ k < w'.heap.size) b ⟨size, base, most, [], 0, 0, 0⟩ 0 ∧ Below w.heap.size w w' := by
  have h6 : base ≤ 1000000000 := by omega
  go_enter Try.func12, Try.ntmps12
  go_wp2
  go_ret2
  refine ⟨_, rfl, ⟨⟨.slice none 0 0, none, [], 0, heap_alloc_new _ _, Row.nil _ _, (fun e => by cases e), (fun k e => by cases e), rfl, Nat.le_refl _, Nat.le_refl _⟩, ⟨Nat.le_refl _, by simp⟩, fun k e => e.2, ⟨h1, h2, h3, h4, h5, by simp; omega, by simp, by simp, by simp, by simp, by simp, by simp⟩⟩, (Below.refl _ _).alloc (Nat.le_refl _) _⟩
set_option maxHeartbeats 1000000 in
theorem Try.rnewNo (size base most : Int) (h : ¬ (1 ≤ size ∧ size ≤ 1000 ∧ 1 ≤ base ∧ base ≤ 1000000000 ∧ base ≤ most ∧ most ≤ 1000000000)) (w : World) :
    Calls Try.prog 12 #[.int .i64 size, .int .i64 base, .int .i64 most] w fun e w' => e = .returned (.tuple #[.pointer none, .int .i64 1]) ∧ w' = w := by
  have hq : size < 1 ∨ (¬ size < 1 ∧ 1000 < size) ∨ (¬ size < 1 ∧ ¬ 1000 < size ∧ base < 1) ∨ (¬ size < 1 ∧ ¬ 1000 < size ∧ ¬ base < 1 ∧ 1000000000 < base) ∨ (¬ size < 1 ∧ ¬ 1000 < size ∧ ¬ base < 1 ∧ ¬ 1000000000 < base ∧ most < base) ∨ (¬ size < 1 ∧ ¬ 1000 < size ∧ ¬ base < 1 ∧ ¬ 1000000000 < base ∧ ¬ most < base ∧ 1000000000 < most) := by omega
  clear h
  rcases hq with a1 | ⟨a1, a2⟩ | ⟨a1, a2, a3⟩ | ⟨a1, a2, a3, a4⟩ | ⟨a1, a2, a3, a4, a5⟩ | ⟨a1, a2, a3, a4, a5, a6⟩
  all_goals
    go_enter Try.func12, Try.ntmps12
    go_wp2
    go_ret2
    exact ⟨rfl, rfl⟩
set_option maxHeartbeats 1000000 in
theorem Try.newNoS (size base most : Int) (h : ¬ (1 ≤ size ∧ size ≤ 1000 ∧ 1 ≤ base ∧ base ≤ 1000000000 ∧ base ≤ most ∧ most ≤ 1000000000)) (w : World) :
    Calls Try.prog 7 #[.int .i64 size, .int .i64 base, .int .i64 most] w fun e w' => e = .returned (.tuple #[.pointer none, .int .i64 1]) ∧ w' = w := by
  by_cases h1 : 1 ≤ size ∧ size ≤ 1000
  · have a1 := Try.within_yes h1.1 h1.2 w
    by_cases h2 : 1 ≤ base ∧ base ≤ 1000000000
    · have a2 := Try.within_yes h2.1 h2.2 w
      have a3 := Try.within_no (n := most) (a := base) (c := 1000000000) (fun h3 => h ⟨h1.1, h1.2, h2.1, h2.2, h3.1, h3.2⟩) w
      clear h h1 h2
      go_enter Try.func7, Try.ntmps7
      go_wp2_with (first
        | (go_at_call 22; refine a1.mono ?_; clear a1; rintro z w1 ⟨rfl, hw1⟩; rw [hw1]; clear hw1)
        | (go_at_call 22; refine a2.mono ?_; clear a2; rintro z w1 ⟨rfl, hw1⟩; rw [hw1]; clear hw1)
        | (go_at_call 22; refine a3.mono ?_; clear a3; rintro z w1 ⟨rfl, hw1⟩; rw [hw1]; clear hw1)
        | fail)
      go_ret2
      exact ⟨rfl, rfl⟩
    · have a2 := Try.within_no h2 w
      clear h h1 h2
      go_enter Try.func7, Try.ntmps7
      go_wp2_with (first
        | (go_at_call 22; refine a1.mono ?_; clear a1; rintro z w1 ⟨rfl, hw1⟩; rw [hw1]; clear hw1)
        | (go_at_call 22; refine a2.mono ?_; clear a2; rintro z w1 ⟨rfl, hw1⟩; rw [hw1]; clear hw1)
        | fail)
      go_ret2
      exact ⟨rfl, rfl⟩
  · have a1 := Try.within_no h1 w
    clear h h1
    go_enter Try.func7, Try.ntmps7
    go_wp2_with (first
      | (go_at_call 22; refine a1.mono ?_; clear a1; rintro z w1 ⟨rfl, hw1⟩; rw [hw1]; clear hw1)
      | fail)
    go_ret2
    exact ⟨rfl, rfl⟩
/-- The oldest, where it lies. -/
theorem Try.Rq.head {w : World} {own : Nat → Prop} {b m : Nat} {s : Qs ByteArray} (h : Try.Rq w own b s m) {x : ByteArray} {r : List ByteArray} (hl : s.l = x :: r) :
    ∃ k o cap gone n, w.cell? ⟨b, 3, none⟩ = some (.slice (some ⟨k, o, none⟩) n cap) ∧ w.cell? ⟨b, 4, none⟩ = some (.int .i64 (gone : Nat)) ∧ w.cell? ⟨b, 6, none⟩ = some (.int .i64 s.u) ∧ w.cell? ⟨k, o + gone, none⟩ = some (.string x) ∧ gone < n ∧ n ≤ m := by
  obtain ⟨v, g, L, gone, hb, hr, hg, ho, hd, hgl, hL⟩ := h.ex
  have hx : L[gone]? = some x := by
    have := congrArg (·[0]?) hd
    simp only [List.getElem?_drop, Nat.add_zero] at this
    rw [this, hl]; rfl
  have hlt := (List.getElem?_eq_some_iff.1 hx).1
  rcases hr.ex with ⟨a1, e1, e2, _⟩ | ⟨k, o, c, cur, e1, e2, h3, h4, h5, h6, h7⟩
  · rw [List.map_eq_nil_iff] at e2; rw [e2] at hlt; simp at hlt
  · rw [List.length_map] at e1
    subst e1
    refine ⟨k, o, c, gone, L.length, cell_of_row w b 3 _ _ _ hb, cell_of_row w b 4 _ _ _ hb, cell_of_row w b 6 _ _ _ hb, ?_, hlt, hL⟩
    rw [cell_of_row _ _ _ _ _ _ h3]
    exact h7 gone _ (by simp [hx])
set_option maxHeartbeats 1000000 in
theorem Try.rheadYes {w : World} {own : Nat → Prop} {b m : Nat} {s : Qs ByteArray} (h : Try.Rq w own b s m) (hm : m ≤ 100000) {x : ByteArray} {r : List ByteArray} (hl : s.l = x :: r) (now : Int) (hn : s.u ≤ now) :
    Calls Try.prog 14 #[.pointer (some ⟨b, 0, none⟩), .int .i64 now] w fun e w' => e = .returned (.tuple #[.string x, .bool true]) ∧ Below w.heap.size w w' := by
  have hwt := Try.rwaits h hm
  rw [hl, List.length_cons] at hwt
  obtain ⟨k, o, cap, gone, n, c3, c4, c6, ck, hgn, hnm⟩ := h.head hl
  have q1 : ¬ now < s.u := by omega
  have q2 : (gone : Int) < (n : Int) := by omega
  have q3 : (n : Int) ≤ 100000 := by omega
  have q0 : ((r.length : Int) + 1 == 0) = false := by simp; omega
  clear h hl hgn hnm hm hn
  go_enter Try.func14, Try.ntmps14
  go_wp2_with (first
    | (go_at_call 26; refine hwt.mono ?_; clear hwt; rintro z w1 ⟨rfl, n1, rfl⟩)
    | fail)
  go_quiet (fail)
  go_wp2
  go_ret2
  exact ⟨rfl, belowN (belowN (Below.refl _ w) _) _⟩
set_option maxHeartbeats 1000000 in
theorem Try.rheadNo {w : World} {own : Nat → Prop} {b m : Nat} {s : Qs ByteArray} (h : Try.Rq w own b s m) (hm : m ≤ 100000) (now : Int) (hn : s.l = [] ∨ now < s.u) :
    Calls Try.prog 14 #[.pointer (some ⟨b, 0, none⟩), .int .i64 now] w fun e w' => e = .returned (.tuple #[.string ⟨#[]⟩, .bool false]) ∧ Below w.heap.size w w' := by
  have hwt := Try.rwaits h hm
  obtain ⟨v, g, L, gone, hb, hr, hg, ho, hd, hgl, hL⟩ := h.ex
  have c6 := cell_of_row w b 6 _ _ _ hb
  clear hb hr hg ho h hd hgl hL
  by_cases h0 : s.l.length = 0
  · rw [h0] at hwt
    clear hn
    go_enter Try.func14, Try.ntmps14
    go_wp2_with (first
      | (go_at_call 26; refine hwt.mono ?_; clear hwt; rintro z w1 ⟨rfl, n1, rfl⟩)
      | fail)
    go_ret2
    exact ⟨rfl, belowN (Below.refl _ w) _⟩
  · have q2 : now < s.u := by rcases hn with hn | hn; exact absurd (by rw [hn]; rfl) h0; exact hn
    obtain ⟨n, hnn⟩ : ∃ n, s.l.length = n + 1 := ⟨s.l.length - 1, by omega⟩
    rw [hnn] at hwt
    clear hn h0 hnn
    go_enter Try.func14, Try.ntmps14
    go_wp2_with (first
      | (go_at_call 26; refine hwt.mono ?_; clear hwt; rintro z w1 ⟨rfl, n1, rfl⟩)
      | fail)
    go_ret2
    exact ⟨rfl, belowN (Below.refl _ w) _⟩
set_option maxHeartbeats 1000000 in
theorem Try.rdoneNo {w : World} {own : Nat → Prop} {b m : Nat} {s : Qs ByteArray} (h : Try.Rq w own b s m) (hm : m ≤ 100000) (hl : s.l = []) :
    Calls Try.prog 16 #[.pointer (some ⟨b, 0, none⟩)] w fun e w' => e = .returned (.int .i64 2) ∧ Below w.heap.size w w' := by
  have hwt := Try.rwaits h hm
  rw [hl] at hwt
  clear h
  go_enter Try.func16, Try.ntmps16
  go_wp2_with (first
    | (go_at_call 26; refine hwt.mono ?_; clear hwt; rintro z w1 ⟨rfl, n1, rfl⟩)
    | fail)
  go_ret
  exact ⟨rfl, belowN (Below.refl _ w) _⟩
set_option maxHeartbeats 1000000 in
theorem Try.rdoneYes {w : World} {own : Nat → Prop} {b m : Nat} {s : Qs ByteArray} (h : Try.Rq w own b s m) (hm : m ≤ 100000) {x : ByteArray} {r : List ByteArray} (hl : s.l = x :: r) :
    Calls Try.prog 16 #[.pointer (some ⟨b, 0, none⟩)] w fun e w' => e = .returned (.int .i64 0) ∧ Try.RC own w w' b { s with l := r, f := 0, u := 0 } m := by
  have hwt := Try.rwaits h hm
  rw [hl, List.length_cons] at hwt
  obtain ⟨v, g, L, gone, hb, hr, hg, ho, hd, hgl, hL⟩ := h.ex
  have hd1 : L.drop (gone + 1) = r := by rw [← List.tail_drop, hd, hl]; rfl
  have hg1 : gone + 1 ≤ L.length := by
    have := congrArg List.length hd
    rw [hl, List.length_drop, List.length_cons] at this
    omega
  have hin : ({ s with l := r, f := 0, u := 0 } : Qs ByteArray).In := by have := h.inn.done; unfold Qs.done at this; rw [hl] at this; exact this
  have HK : Hid (∀ n, Try.RC own w ((((w.drewN n).setCell ⟨b, 4, none⟩ (.int .i64 ((gone : Int) + 1))).setCell ⟨b, 5, none⟩ (.int .i64 0)).setCell ⟨b, 6, none⟩ (.int .i64 0)) b { s with l := r, f := 0, u := 0 } m) := fun n => by
    have e : ((gone : Int) + 1) = ((gone + 1 : Nat) : Int) := by omega
    rw [e]
    exact Try.RC.trans ((Wo.refl own w).drewN n) (fun _ e => .inl e) (Try.Rq.set (h.keep (w' := w.drewN n) (fun _ _ => rfl) (Nat.le_refl _)) (hr.keep fun _ _ => rfl) hg ho { s with l := r, f := 0, u := 0 } hd1 hg1 hL hin (heap_setCell_same _ b 6 _ _ _ (heap_setCell_same _ b 5 _ _ _ (heap_setCell_same _ b 4 _ _ _ hb)))
      (fun j hj => (Below.heap_setCell _ ⟨b, 6, none⟩ _ j hj).trans ((Below.heap_setCell _ ⟨b, 5, none⟩ _ j hj).trans (Below.heap_setCell _ ⟨b, 4, none⟩ _ j hj))) (by simp) ((((Wo.refl _ _).setCell b 4 _ (.inl h.ox)).setCell b 5 _ (.inl h.ox)).setCell b 6 _ (.inl h.ox)))
  have c4 := cell_of_row w b 4 _ _ _ hb
  have c5 := cell_of_row w b 5 _ _ _ hb
  have c6 := cell_of_row w b 6 _ _ _ hb
  have f4 := frozen_of_row w b 4 _ _ hb
  have f5 := frozen_of_row w b 5 _ _ hb
  have f6 := frozen_of_row w b 6 _ _ hb
  have q1 : (gone : Int) ≤ 100000 := by omega
  clear hb hr hg ho h hd hgl hL hl hd1 hg1 hin
  go_enter Try.func16, Try.ntmps16
  go_wp2_with (first
    | (go_at_call 26; refine hwt.mono ?_; clear hwt; rintro z w1 ⟨rfl, n1, rfl⟩)
    | fail)
  go_ret
  exact ⟨rfl, HK.out _⟩
set_option maxHeartbeats 1000000 in
theorem Try.rdelay {w : World} {own : Nat → Prop} {b m : Nat} {s : Qs ByteArray} (h : Try.Rq w own b s m) (n : Nat) (hn : n < 1000000000) :
    Calls Try.prog 28 #[.pointer (some ⟨b, 0, none⟩), .int .i64 (n + 1 : Nat)] w fun e w' => e = .returned (.int .i64 (dl s.base s.most n)) ∧ w' = w := by
  obtain ⟨v, g, L, gone, hb, hr, hg, ho, hd, hgl, hL⟩ := h.ex
  have c1 := cell_of_row w b 1 _ _ _ hb
  have c2 := cell_of_row w b 2 _ _ _ hb
  have hi := h.inn
  have h1 := hi.b1
  have h2 := hi.b2
  have h3 := hi.m2
  clear hb hr hg ho h hi hd hgl hL
  generalize s.base = base at *
  generalize s.most = most at *
  go_enter Try.func28, Try.ntmps28
  go_wp2
  go_loopw [5, 6] (fun dv iv wr => ∃ (i : Nat) (D : Int), i ≤ n ∧ iv = .int .i64 (i + 1 : Nat) ∧ dv = .int .i64 D ∧ min D most = dl base most i ∧ 1 ≤ D ∧ D ≤ 2 * most ∧ wr = w) (fun _ iv _ => n + 1 - (intOf iv).toNat)
  case atStart => exact ⟨0, base, by omega, rfl, rfl, by simp only [dl]; omega, by omega, by omega, rfl⟩
  case round =>
    obtain ⟨i, D, hin, rfl, rfl, hmin, hD1, hD2, rfl⟩ := hrel
    have dtop := fun hi => dl_top h1 h2 (i := i) hi (n - (i + 1))
    have dsuc : dl base most (i + 1) = min (2 * dl base most i) most := rfl
    have HS : Hid _ := dsuc
    have HT : Hid _ := dtop
    have HM : Hid _ := hmin
    clear dsuc dtop hmin
    by_cases hlt : i < n
    · have q1 : (i : Int) < (n : Int) := by omega
      by_cases ht : D < most
      · have q3 : 2 * D ≤ 2000000000 := by omega
        go_wp2
        go_roundw
        case rel =>
          have e1 := HM.out
          have e2 := HS.out
          exact ⟨i + 1, 2 * D, by omega, by go_num, rfl, by omega, by omega, by omega, by simp⟩
        case measure => simp [intOf]; omega
      · have hr : dl base most n = most := by
          have e1 := HM.out
          have := HT.out (by omega)
          rw [show i + 1 + (n - (i + 1)) = n by omega] at this
          exact this
        have HR : Hid _ := hr
        clear hr
        by_cases ht2 : most < D
        · go_wp2
          go_ret
          exact ⟨by rw [HR.out]; rfl, rfl⟩
        · obtain rfl : D = most := by omega
          go_wp2
          go_ret
          exact ⟨by rw [HR.out]; rfl, rfl⟩
    · obtain rfl : i = n := by omega
      have q1 : ¬ (i : Int) < (i : Int) := by omega
      by_cases ht2 : most < D
      · go_wp2
        go_ret
        exact ⟨by rw [← HM.out, show min D most = most by omega]; rfl, rfl⟩
      · go_wp2
        go_ret
        exact ⟨by rw [← HM.out, show min D most = D by omega]; rfl, rfl⟩
end Go.Proofs
