/-
  THE DOCUMENT's QUEUE: Put, All.
-/
import Derived.Test.YtmbhadloedjfeaaRc
namespace Go.Proofs
open Go.RowKit Go.Wi Go.Qu
set_option maxHeartbeats 1000000 in
theorem Try.rwaits0 {w : World} {b n gone cap : Nat} {a : Option Addr} (c3 : w.cell? ⟨b, 3, none⟩ = some (.slice a n cap)) (c4 : w.cell? ⟨b, 4, none⟩ = some (.int .i64 (gone : Nat))) (h1 : gone ≤ n) (h2 : n ≤ 200000) :
    Calls Try.prog 26 #[.pointer (some ⟨b, 0, none⟩)] w fun e w' => e = .returned (.int .i64 ((n : Int) - gone)) ∧ ∃ n, w' = w.drewN n := by
  have q1 : (gone : Int) ≤ (n : Int) := by omega
  have q2 : (n : Int) ≤ 200000 := by omega
  clear h1 h2
  go_enter Try.func26, Try.ntmps26
  go_wp2
  go_region
  go_wp2
  go_ret
  exact ⟨rfl, _, rfl⟩
/-- Behind an append. -/
structure Try.Rw (w w2 : World) (own : Nat → Prop) (b : Nat) (s : Qs ByteArray) (v : Value) (L : List ByteArray) (gone : Nat) : Prop where
  ex : ∃ (own2 : Nat → Prop) (g : Option Nat), (w2.heap[b]? = some (.cells #[.int .i64 s.size, .int .i64 s.base, .int .i64 s.most, v, .int .i64 (gone : Nat), .int .i64 s.f, .int .i64 s.u, .int .i64 s.d] 58 (0, 0)) ∧ Row 9 w2 v g (L.map Value.string) ∧ g ≠ some b ∧ ∀ k, g = some k → own2 k) ∧ own2 b ∧ (∀ k, own2 k → k < w2.heap.size) ∧ ∀ k, own2 k → own k ∨ w.heap.size ≤ k
  wo : Wo own w w2
theorem Try.Rq.app {w w1 : World} {own : Nat → Prop} {b m : Nat} {s : Qs ByteArray} {v v' : Value} {g : Option Nat} {L : List ByteArray} {gone : Nat} (h : Try.Rq w own b s m) (hb : w.heap[b]? = some (.cells #[.int .i64 s.size, .int .i64 s.base, .int .i64 s.most, v, .int .i64 (gone : Nat), .int .i64 s.f, .int .i64 s.u, .int .i64 s.d] 58 (0, 0))) (hg : g ≠ some b) (ho : ∀ k, g = some k → own k)
    (x : ByteArray) (ha : App 9 w w1 v' g (L.map Value.string ++ [.string x])) : w1.heap[b]? = w.heap[b]? ∧ Try.Rw w (w1.setCell ⟨b, 3, none⟩ v') own b s v' (L ++ [x]) gone := by
  obtain ⟨g', hr, hg'⟩ := ha.ex
  have hbl := h.lt b h.ox
  have hb0 := ha.wo.block b hbl hg
  have hb1 := hb0.trans hb
  have hgb : g' ≠ some b := fun e => by
    rcases hg' with e1 | ⟨k, e1, e2⟩
    · exact hg (e1 ▸ e)
    · rw [e1] at e; injection e with e; omega
  have hsz := ha.wo.size
  refine ⟨hb0, ⟨⟨fun k => own k ∨ (w.heap.size ≤ k ∧ k < w1.heap.size), g', ⟨heap_setCell_same w1 b 3 _ _ _ hb1, ?_, hgb, fun k e => ?_⟩, .inl h.ox, fun k e => ?_, fun k e => e.imp id (·.1)⟩, (ha.wo.mono ho).setCell b 3 _ (.inl h.ox)⟩⟩
  · rw [List.map_append]
    exact hr.keep fun k e => Below.heap_setCell w1 ⟨b, 3, none⟩ v' k fun e1 => hgb (by rw [e]; exact congrArg some e1)
  · rcases hg' with e1 | ⟨k', e1, e2⟩
    · exact .inl (ho k (by rw [← e1]; exact e))
    · rw [e1] at e; cases e; exact .inr ⟨e2, hr.lt e1⟩
  · rcases e with e | e
    · have := h.lt k e; simp; omega
    · simpa using e.2
/-- What is set behind it. -/
theorem Try.Rw.fin {w w2 w3 : World} {own : Nat → Prop} {b m : Nat} {s s' : Qs ByteArray} {v : Value} {L : List ByteArray} {gone gone' : Nat} (h : Try.Rw w w2 own b s v L gone) (hb : w2.heap[b]? = some (.cells #[.int .i64 s.size, .int .i64 s.base, .int .i64 s.most, v, .int .i64 (gone : Nat), .int .i64 s.f, .int .i64 s.u, .int .i64 s.d] 58 (0, 0)) → w3.heap[b]? = some (.cells #[.int .i64 s'.size, .int .i64 s'.base, .int .i64 s'.most, v, .int .i64 (gone' : Nat), .int .i64 s'.f, .int .i64 s'.u, .int .i64 s'.d] 58 (0, 0)))
    (hk : ∀ k, k ≠ b → w3.heap[k]? = w2.heap[k]?) (hz : w3.heap.size = w2.heap.size) (h1 : w3.os = w2.os) (h2 : w3.tape = w2.tape) (h3 : w3.output = w2.output) (hd : L.drop gone' = s'.l) (hgl : gone' ≤ L.length) (hL : L.length ≤ m) (hin : s'.In) : Try.RC own w w3 b s' m := by
  obtain ⟨own2, g, ⟨a1, a2, a3, a4⟩, a5, a6, a7⟩ := h.ex
  refine ⟨⟨own2, ⟨⟨v, g, L, gone', hb a1, a2.keep fun k e => hk k (fun e1 => a3 (by rw [e, e1])), a3, a4, hd, hgl, hL⟩, a5, fun k e => by rw [hz]; exact a6 k e, hin⟩, a7⟩, ⟨h1.trans h.wo.os, h2.trans h.wo.tape, h3.trans h.wo.output, by rw [hz]; exact h.wo.size, fun k hk1 hk2 => ?_⟩⟩
  rw [hk k (fun e => ?_)]
  · exact h.wo.block k hk1 hk2
  · subst e
    rcases a7 _ a5 with e | e
    · exact hk2 e
    · omega
/-- A cell of the row. -/
theorem Try.Rw.at {w w2 : World} {own : Nat → Prop} {b : Nat} {s : Qs ByteArray} {a : Option Addr} {n cap : Nat} {L : List ByteArray} {gone : Nat} (h : Try.Rw w w2 own b s (.slice a n cap) L gone) {i : Nat} {x : ByteArray} (hx : L[i]? = some x) :
    n = L.length ∧ ∃ k o, a = some ⟨k, o, none⟩ ∧ k ≠ b ∧ w2.cell? ⟨k, o + i, none⟩ = some (.string x) := by
  obtain ⟨own2, g, ⟨a1, hr, a3, a4⟩, a5, a6, a7⟩ := h.ex
  have hlt := (List.getElem?_eq_some_iff.1 hx).1
  rcases hr.ex with ⟨a1, e1, e2, _⟩ | ⟨k, o, c, cur, e1, e2, h3, h4, h5, h6, h7⟩
  · rw [List.map_eq_nil_iff] at e2; rw [e2] at hlt; simp at hlt
  · rw [List.length_map] at e1
    injection e1 with e3 e4 e5
    refine ⟨e4, k, o, e3, fun e => a3 (by rw [e2, e]), ?_⟩
    rw [cell_of_row _ _ _ _ _ _ h3]
    exact h7 i _ (by simp [hx])
theorem Try.Rw.len {w w2 : World} {own : Nat → Prop} {b : Nat} {s : Qs ByteArray} {a : Option Addr} {n cap : Nat} {L : List ByteArray} {gone : Nat} (h : Try.Rw w w2 own b s (.slice a n cap) L gone) : n = L.length := by
  obtain ⟨own2, g, ⟨a1, hr, a3, a4⟩, a5, a6, a7⟩ := h.ex
  obtain ⟨a', cap', e⟩ := hr.form
  injection e with _ e _
  rw [e, List.length_map]
set_option maxHeartbeats 2000000 in
theorem Try.rputRoom {w : World} {own : Nat → Prop} {b m : Nat} {s : Qs ByteArray} (h : Try.Rq w own b s m) (hm : m ≤ 100000) (x : ByteArray) (hx : (s.l.length : Int) < s.size) :
    Calls Try.prog 13 #[.pointer (some ⟨b, 0, none⟩), .string x] w fun e w' => e = .returned (.tuple #[.string ⟨#[]⟩, .bool false]) ∧ Try.RC own w w' b { s with l := s.l ++ [x] } (m + 1) := by
  obtain ⟨v, g, L, gone, hb, hr, hg, ho, hd, hgl, hL⟩ := h.ex
  obtain ⟨a, cap, rfl⟩ := hr.form
  rw [List.length_map] at hb hr
  obtain ⟨i0, hi0, hz0, hz1, hz2⟩ := info_parts Try.infoS
  have hll : (s.l.length : Int) = (L.length : Int) - gone := by rw [← hd, List.length_drop]; omega
  have hin : ({ s with l := s.l ++ [x] } : Qs ByteArray).In := ⟨h.inn.s1, h.inn.s2, h.inn.b1, h.inn.b2, h.inn.m2, by simp; omega, h.inn.f1, h.inn.f2, h.inn.u1, h.inn.u2, h.inn.d1, h.inn.d2⟩
  have key : ∀ w1 ad n1 cap1, App 9 w w1 (.slice ad n1 cap1) g (L.map Value.string ++ [.string x]) → w1.cell? ⟨b, 3, none⟩ = some (.slice a L.length cap) ∧ w1.frozen? ⟨b, 3, none⟩ = false ∧ w1.cell? ⟨b, 0, none⟩ = some (.int .i64 s.size) ∧ Calls Try.prog 26 #[.pointer (some ⟨b, 0, none⟩)] (w1.setCell ⟨b, 3, none⟩ (.slice ad n1 cap1)) (fun e w' => e = .returned (.int .i64 ((s.l.length : Int) + 1)) ∧ ∃ n, w' = (w1.setCell ⟨b, 3, none⟩ (.slice ad n1 cap1)).drewN n) ∧ ∀ n, Try.RC own w ((w1.setCell ⟨b, 3, none⟩ (.slice ad n1 cap1)).drewN n) b { s with l := s.l ++ [x] } (m + 1) := fun w1 ad n1 cap1 ha => by
    obtain ⟨a1, a2⟩ := Try.Rq.app h hb hg ho x ha
    have hb1 := a1.trans hb
    have hn1 := a2.len
    refine ⟨cell_of_row _ _ _ _ _ _ hb1, frozen_of_row _ _ _ _ _ hb1, cell_of_row _ _ _ _ _ _ hb1, ?_, fun n => ?_⟩
    · obtain ⟨own2, g2, ⟨b1, _⟩, _⟩ := a2.ex
      have := Try.rwaits0 (cell_of_row _ _ 3 _ _ _ b1) (cell_of_row _ _ 4 _ _ _ b1) (by rw [hn1, List.length_append]; omega) (by rw [hn1, List.length_append]; simp; omega)
      rw [show ((n1 : Nat) : Int) - gone = (s.l.length : Int) + 1 by rw [hn1, List.length_append]; simp; omega] at this
      exact this
    · refine Try.Rw.fin (gone' := gone) a2 (fun e => e) (fun _ _ => rfl) rfl rfl rfl rfl ?_ (by rw [List.length_append]; omega) (by rw [List.length_append]; simp; omega) hin
      rw [List.drop_append_of_le_length hgl, hd]
  have HR : Hid _ := hr
  have HK : Hid _ := key
  have c3 := cell_of_row w b 3 _ _ _ hb
  have hlen : (L.map Value.string).length ≤ 1000000 := by simp; omega
  have HL : Hid _ := hlen
  have hbl := h.lt b h.ox
  have q1 : (s.l.length : Int) + 1 ≤ s.size := by omega
  clear hb hr hg ho h hd hgl hL key hlen hin hll hm
  generalize s.l.length = sl at *
  generalize L.length = ll at *
  go_enter Try.func13, Try.ntmps13
  go_wp2_with (first
    | (at_builtin; refine app_one rfl _ _ rfl Try.underlying52 hi0 hz0 hz1 hz2 rfl (by omega) HR.out HL.out rfl rfl rfl ?_; intro ad1 n1 cap1 w1 ha; obtain ⟨d3, e3, d0, hwt, hk⟩ := HK.out _ _ _ _ ha; have HF : Hid _ := hk; clear ha hk HK HR)
    | (go_at_call 26; refine hwt.mono ?_; clear hwt; rintro z w2 ⟨rfl, n2, rfl⟩)
    | fail)
  go_ret2
  exact ⟨rfl, HF.out _⟩
set_option maxHeartbeats 2000000 in
theorem Try.rputFull {w : World} {own : Nat → Prop} {b m : Nat} {s : Qs ByteArray} (h : Try.Rq w own b s m) (hm : m ≤ 100000) (x : ByteArray) {y : ByteArray} {r : List ByteArray} (hl : s.l = y :: r) (hx : (s.l.length : Int) = s.size) :
    Calls Try.prog 13 #[.pointer (some ⟨b, 0, none⟩), .string x] w fun e w' => e = .returned (.tuple #[.string y, .bool true]) ∧ Try.RC own w w' b { s with l := r ++ [x], d := one s.d } (m + 1) := by
  obtain ⟨v, g, L, gone, hb, hr, hg, ho, hd, hgl, hL⟩ := h.ex
  obtain ⟨a, cap, rfl⟩ := hr.form
  rw [List.length_map] at hb hr
  obtain ⟨i0, hi0, hz0, hz1, hz2⟩ := info_parts Try.infoS
  have hll : (s.l.length : Int) = (L.length : Int) - gone := by rw [← hd, List.length_drop]; omega
  have hs1 := h.inn.s1
  have hin : ({ s with l := r ++ [x], d := one s.d } : Qs ByteArray).In := by
    have := h.inn.put x
    unfold Qs.put at this
    rw [if_pos hx, hl] at this
    exact this
  have hLy : (L ++ [x])[gone]? = some y := by
    have := congrArg (·[0]?) hd
    simp only [List.getElem?_drop, Nat.add_zero] at this
    rw [List.getElem?_append_left (by omega), this, hl]; rfl
  have hdr : (L ++ [x]).drop (gone + 1) = r ++ [x] := by
    rw [List.drop_append_of_le_length (by omega), ← List.tail_drop, hd, hl]; rfl
  have key : ∀ w1 ad n1 cap1, App 9 w w1 (.slice ad n1 cap1) g (L.map Value.string ++ [.string x]) → w1.cell? ⟨b, 3, none⟩ = some (.slice a L.length cap) ∧ w1.frozen? ⟨b, 3, none⟩ = false ∧ w1.cell? ⟨b, 0, none⟩ = some (.int .i64 s.size) ∧ w1.cell? ⟨b, 4, none⟩ = some (.int .i64 (gone : Nat)) ∧ w1.frozen? ⟨b, 4, none⟩ = false ∧ w1.cell? ⟨b, 7, none⟩ = some (.int .i64 s.d) ∧ w1.frozen? ⟨b, 7, none⟩ = false ∧ Calls Try.prog 26 #[.pointer (some ⟨b, 0, none⟩)] (w1.setCell ⟨b, 3, none⟩ (.slice ad n1 cap1)) (fun e w' => e = .returned (.int .i64 ((s.l.length : Int) + 1)) ∧ ∃ n, w' = (w1.setCell ⟨b, 3, none⟩ (.slice ad n1 cap1)).drewN n) ∧ (∃ k o, ad = some ⟨k, o, none⟩ ∧ k ≠ b ∧ w1.cell? ⟨k, o + gone, none⟩ = some (.string y)) ∧ (gone : Int) < (n1 : Int) ∧ ∀ n nq, Try.RC own w (((((w1.setCell ⟨b, 3, none⟩ (.slice ad n1 cap1)).drewN n).setCell ⟨b, 4, none⟩ (.int .i64 ((gone : Int) + 1))).setCell ⟨b, 7, none⟩ (.int .i64 (one s.d))).drewN nq) b { s with l := r ++ [x], d := one s.d } (m + 1) := fun w1 ad n1 cap1 ha => by
    obtain ⟨a1, a2⟩ := Try.Rq.app h hb hg ho x ha
    have hb1 := a1.trans hb
    have hn1 := a2.len
    refine ⟨cell_of_row _ _ _ _ _ _ hb1, frozen_of_row _ _ _ _ _ hb1, cell_of_row _ _ _ _ _ _ hb1, cell_of_row _ _ _ _ _ _ hb1, frozen_of_row _ _ _ _ _ hb1, cell_of_row _ _ _ _ _ _ hb1, frozen_of_row _ _ _ _ _ hb1, ?_, ?_, ?_, fun n nq => ?_⟩
    · obtain ⟨own2, g2, ⟨b1, _⟩, _⟩ := a2.ex
      have := Try.rwaits0 (cell_of_row _ _ 3 _ _ _ b1) (cell_of_row _ _ 4 _ _ _ b1) (by rw [hn1, List.length_append]; omega) (by rw [hn1, List.length_append]; simp; omega)
      rw [show ((n1 : Nat) : Int) - gone = (s.l.length : Int) + 1 by rw [hn1, List.length_append]; simp; omega] at this
      exact this
    · obtain ⟨_, k, o, e1, e2, e3⟩ := a2.at hLy
      refine ⟨k, o, e1, e2, ?_⟩
      rw [← e3]
      exact (World.cell?_of_block (a := ⟨k, o + gone, none⟩) (Below.heap_setCell w1 ⟨b, 3, none⟩ _ k e2)).symm
    · rw [hn1, List.length_append]; simp; omega
    · refine Try.Rw.fin (gone' := gone + 1) a2 (fun e => ?_) (fun j hj => ?_) (by simp) rfl rfl rfl hdr (by rw [List.length_append]; simp; omega) (by rw [List.length_append]; simp; omega) hin
      · have e1 : ((gone : Int) + 1) = ((gone + 1 : Nat) : Int) := by omega
        rw [e1]
        exact heap_setCell_same _ b 7 _ _ _ (heap_setCell_same _ b 4 _ _ _ e)
      · exact (Below.heap_setCell _ ⟨b, 7, none⟩ _ j hj).trans (Below.heap_setCell _ ⟨b, 4, none⟩ _ j hj)
  have HR : Hid _ := hr
  have HK : Hid _ := key
  have c3 := cell_of_row w b 3 _ _ _ hb
  have hlen : (L.map Value.string).length ≤ 1000000 := by simp; omega
  have HL : Hid _ := hlen
  have hbl := h.lt b h.ox
  have hmo := fun W => Try.rmore s.d h.inn.d1 h.inn.d2 W
  have q1 : ¬ (s.l.length : Int) + 1 ≤ s.size := by omega
  have q2 : (gone : Int) ≤ 100000 := by omega
  clear hb hr hg ho h hd hgl hL key hlen hin hll hm hLy hdr hs1 hl hx
  generalize s.l.length = sl at *
  generalize L.length = ll at *
  go_enter Try.func13, Try.ntmps13
  go_wp2_with (first
    | (at_builtin; refine app_one rfl _ _ rfl Try.underlying52 hi0 hz0 hz1 hz2 rfl (by omega) HR.out HL.out rfl rfl rfl ?_; intro ad1 n1 cap1 w1 ha; obtain ⟨d3, e3, d0, d4, e4, d7, e7, hwt, ⟨k1, o1, rfl, hkb, hcy⟩, hgn, hk⟩ := HK.out _ _ _ _ ha; have HF : Hid _ := hk; clear ha hk HK HR)
    | (go_at_call 26; refine hwt.mono ?_; clear hwt; rintro z w2 ⟨rfl, n2, rfl⟩)
    | (go_at_call 27; refine (hmo _).mono ?_; clear hmo; rintro z w3 ⟨rfl, hw3⟩; rw [hw3]; clear hw3)
    | fail)
  go_quiet (fail)
  go_wp2
  go_ret2
  exact ⟨rfl, HF.out _ _⟩
end Go.Proofs
