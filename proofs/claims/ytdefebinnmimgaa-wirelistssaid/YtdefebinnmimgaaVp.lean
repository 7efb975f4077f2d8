/-
  beyond; a list of numbers is read: things, wider, ReadList (where nothing is wrong).
-/
import Derived.Test.YtdefebinnmimgaaVo
namespace Go.Proofs
open Go.RowKit Go.Wi
theorem Wi.w64 (n : Int) (h1 : -9223372036854775808 ≤ n) (h2 : n ≤ 9223372036854775807) : wrap64 n = n := by unfold wrap64; omega
set_option maxRecDepth 4000 in
set_option maxHeartbeats 2000000 in
theorem Try.beyond_any {w : World} {u : Value} {q : List Wi.Th} {f : Wi.Th → List Int} (hP : Wi.Things w u q) (hF : Full w f q) (most : Nat) (hm : most ≤ 4294967296) :
    Calls Try.prog 38 #[u, .int .i64 most] w fun e w' => (∃ b : Nat, e = .returned (.bool (decide (b = 1))) ∧ (b ≠ 1 → wts f q ≤ most)) ∧ ∃ n, w' = w.drewN n := by
  obtain ⟨ua, ucap, rfl, hucap, hum, hcs⟩ := hP.ex
  have hum' : q.length ≤ 9223372036854775807 := Nat.le_trans hucap hum
  have HF : Hid (Full w f q) := hF
  have Hm : Hid (most ≤ 4294967296) := hm
  clear hP hum hm hF
  go_enter Try.func38, Try.ntmps38
  go_wp2
  go_loopw [5, 6] (fun s i wr => ∃ k N m : Nat, k ≤ q.length ∧ i = .int .i64 k ∧ s = .int .i64 N ∧ N = wts f (q.take k) ∧ N ≤ most ∧ wr = w.drewN m) (fun _ i _ => q.length - (intOf i).toNat)
  case atStart => exact ⟨0, 0, 0, Nat.zero_le _, rfl, rfl, by simp [wts], Nat.zero_le _, rfl⟩
  case round =>
    obtain ⟨k, N, m, hk, rfl, rfl, hN, hNm, rfl⟩ := hrel
    by_cases hkq : k < q.length
    · have q0 : (k : Int) < (q.length : Int) := by omega
      obtain ⟨p, hp⟩ : ∃ p, q[k]? = some p := ⟨_, List.getElem?_eq_getElem hkq⟩
      have hpm := List.mem_of_getElem? hp
      rcases hcs with hcs | ⟨pb, po, rfl, hpb, hcs⟩
      · rw [hcs] at hkq; exact absurd hkq (by simp)
      · obtain ⟨-, -, -, c3, c4⟩ := hcs k p hp
        obtain ⟨ad, cap, e, -⟩ := (HF.out.is p hpm).ex
        rw [e] at c4
        have hs := HF.out.ss p hpm
        have hl := HF.out.ls p hpm
        have Hs : Hid (p.s.size ≤ 140737488351232) := hs
        have Hl : Hid ((f p).length ≤ 140737488351232) := hl
        have HN : Hid (N = wts f (q.take k) ∧ wts f (q.take (k + 1)) = N + wt p (f p)) := ⟨hN, by
          have h1 : q.take (k + 1) = q.take k ++ [p] := by rw [List.take_add_one, hp]; rfl
          rw [h1, wts_snoc, ← hN]⟩
        have hE : wrap64 (wrap64 (wrap64 ((N : Int) + 10) + (p.s.size : Int)) + wrap64 (10 * ((f p).length : Int))) = ((N + wt p (f p) : Nat) : Int) := by
          have h1 := Hm.out
          rw [Wi.w64 ((N : Int) + 10) (by omega) (by omega), Wi.w64 ((N : Int) + 10 + p.s.size) (by omega) (by omega), Wi.w64 (10 * ((f p).length : Int)) (by omega) (by omega), Wi.w64 _ (by omega) (by omega)]
          unfold wt; omega
        clear hcs e hs hl hN
        generalize N + wt p (f p) = M at hE HN
        by_cases hM : M ≤ most
        · have q1 : ¬ (most : Int) < (M : Int) := by omega
          go_wp2
          go_quiet (fail)
          go_wp2
          go_roundw
          case rel => exact ⟨k + 1, M, _, by omega, by go_num, by rw [hE], HN.out.2.symm, hM, rfl⟩
          case measure => simp [intOf]; omega
        · have q1 : (most : Int) < (M : Int) := by omega
          go_wp2
          go_quiet (fail)
          go_wp2
          go_ret
          exact ⟨⟨1, rfl, fun h => absurd rfl h⟩, _, rfl⟩
    · have q0 : ¬ (k : Int) < (q.length : Int) := by omega
      have hkk : k = q.length := by omega
      have Hfin : Hid (wts f q ≤ most) := (by rw [hkk, List.take_length] at hN; show _ ≤ _; omega)
      clear hN hkk
      go_wp2
      go_ret
      exact ⟨⟨0, rfl, fun _ => Hfin.out⟩, _, rfl⟩
/-- The count of a list, at most so many. -/
def Wi.thing (s : Rs) (most : Int) : Nat × Rs := if most < 0 ∨ most < (s.cnt.1 : Int) then (0, s.cnt.2.fail s.p) else (s.cnt.1, s.cnt.2)
set_option maxHeartbeats 2000000 in
theorem Try.things_any {w : World} {own : Nat → Prop} {x : Nat} {s : Rs} (h : Try.Rd w own x s) (most : Int) (hmo : In64 most) :
    Calls Try.prog 53 #[.pointer (some ⟨x, 0, none⟩), .int .i64 most] w fun e w' => e = .returned (.int .i64 (Wi.thing s most).1) ∧ Try.RChg own w w' x (Wi.thing s most).2 := by
  have h1 := Try.rCount_any h
  obtain ⟨hin, ht, hlt⟩ := s.cnt_in h.inn
  have Ht : Hid (Wi.thing s most = if most < 0 ∨ most < (s.cnt.1 : Int) then (0, s.cnt.2.fail s.p) else (s.cnt.1, s.cnt.2)) := rfl
  have hpl : s.p ≤ 140737488355328 := Nat.le_trans h.inn h.len
  have Hpl : Hid (s.p ≤ 140737488355328) := hpl
  have Hmo : Hid (In64 most) := hmo
  obtain ⟨V, fv, hx, -⟩ := h.ex
  have c1 := cell_of_row w x 1 _ _ _ hx
  have hfl : ∀ {own1 : Nat → Prop} {w2 : World} {s2 : Rs}, Try.Rd w2 own1 x s2 → Calls Try.prog 49 #[.pointer (some ⟨x, 0, none⟩), .int .i64 s.p] w2 fun e w' => (∃ v, e = .returned v) ∧ Try.RChg own1 w2 w' x (s2.fail s.p) := fun hR => Try.fail_any hR s.p (by have := Hpl.out; omega)
  generalize s.cnt = c at *
  obtain ⟨n, s'⟩ := c
  simp only at h1 hlt Ht
  have Hlt : Hid (n < 18446744073709551616) := hlt
  clear hx hpl hmo hlt hin ht h
  go_enter Try.func53, Try.ntmps53
  by_cases hm0 : most < 0
  · have Ht2 : Hid (Wi.thing s most = (0, s'.fail s.p)) := (by show _ = _; rw [Ht.out, if_pos (.inl hm0)])
    clear Ht
    go_wp2_with (first
      | (go_at_call 46; refine h1.mono ?_; clear h1; rintro e w2 ⟨rfl, h2⟩; obtain ⟨own1, hR, ho⟩ := h2.ex)
      | (go_at_call 49; refine (hfl hR).mono ?_; clear hfl; rintro e w4 ⟨⟨v, rfl⟩, h4⟩)
      | fail)
    go_ret
    rw [Ht2.out]
    exact ⟨rfl, Try.RChg.trans h2.wo ho h4⟩
  · have hwm : IntKind.u64.wrap most = most := by have := Hmo.out.2; rw [IntKind.wrap_u64]; omega
    by_cases hc : most < (n : Int)
    · have Ht2 : Hid (Wi.thing s most = (0, s'.fail s.p)) := (by show _ = _; rw [Ht.out, if_pos (.inr hc)])
      clear Ht
      go_wp2_with (first
        | (go_at_call 46; refine h1.mono ?_; clear h1; rintro e w2 ⟨rfl, h2⟩; obtain ⟨own1, hR, ho⟩ := h2.ex)
        | (go_at_call 49; refine (hfl hR).mono ?_; clear hfl; rintro e w4 ⟨⟨v, rfl⟩, h4⟩)
        | fail)
      go_ret
      rw [Ht2.out]
      exact ⟨rfl, Try.RChg.trans h2.wo ho h4⟩
    · have Ht2 : Hid (Wi.thing s most = (n, s')) := (by show _ = _; rw [Ht.out, if_neg (by rintro (e | e); exact hm0 e; exact hc e)])
      have hwn : IntKind.i64.wrap (n : Int) = n := by have := Hmo.out.2; rw [IntKind.wrap_i64]; omega
      clear Ht
      go_wp2_with (first
        | (go_at_call 46; refine h1.mono ?_; clear h1; rintro e w2 ⟨rfl, h2⟩)
        | fail)
      go_ret
      rw [Ht2.out]
      exact ⟨rfl, h2⟩
def Wi.ics (li : List Int) : List Value := li.map fun n => .int .i64 n
theorem Wi.ics_len (li : List Int) : (Wi.ics li).length = li.length := by simp [Wi.ics]
theorem Wi.ics_one (li : List Int) : ∀ u ∈ Wi.ics li, u.oneCell' = true := by
  intro u hu
  simp only [Wi.ics, List.mem_map] at hu
  obtain ⟨b, _, rfl⟩ := hu
  rfl
theorem Try.info_i64 : (Try.prog.info? 2).map (fun i => (i.zero, i.size, i.bytes)) = some (some (.int .i64 0), 1, 8) := by kernel_rfl
/-- 'append' of numbers to a row that is empty. -/
theorem Try.appInts {ops : Array Oper} {rest : List Oper} {o : Oper} {a : Act} {Q : Exit → Act → World → Prop} (hgd : o.guard = none) (s y : Operand)
    (ho : o.op = .call { callee := .builtin .append, args := #[s, y], argTypes := #[32, 32] })
    {w : World} {B B2 : Nat} {v0 : Value} {ad : Option Addr} {cap : Nat} {li : List Int} (h0 : w.ownsRow B 2 1 v0 0 []) (h : w.ownsRow B2 2 1 (.slice ad li.length cap) li.length (Wi.ics li)) (hnil : ad = none → cap = 0 ∧ li = [])
    (hs : a.eval s = v0) (hy : a.eval y = .slice ad li.length cap) (hlen : li.length * 8 ≤ 140737488355328) (hB : B ≤ w.heap.size)
    (hK : ∀ ad' cap' w1, w1.ownsRow B 2 1 (.slice ad' li.length cap') li.length (Wi.ics li) → Below B w w1 → wpList Try.prog ops Q rest (a.put o.dst (.slice ad' li.length cap')) w1) : wpList Try.prog ops Q (o :: rest) a w := by
  obtain ⟨i0, hi0, hz0, hz1, hz2⟩ := info_parts Try.info_i64
  cases ad with
  | none =>
    obtain ⟨rfl, rfl⟩ := hnil rfl
    refine wpList_append_own_none hgd s y 32 ho B 2 i0 1 Try.underlying32 hi0 _ 0 [] hs h0 hy ?_
    rcases h0.2 with ⟨e, _⟩ | ⟨g, c, cur, e, _⟩
    · subst e
      exact hK none 0 w h0 (Below.refl _ _)
    · subst e
      exact hK _ c w h0 (Below.refl _ _)
  | some d =>
    refine wpList_append_own w hgd s y 32 ho B 2 i0 _ 1 8 Try.underlying32 hi0 hz0 hz1 hz2 rfl (by omega) v0 0 [] hs h0 d li.length cap (Wi.ics li) hy (by rw [Wi.ics_len]; omega) ?_ (Wi.ics_one li) (by unfold maxLen; omega) (by omega) hB ?_
    · rcases h.2 with ⟨e, _⟩ | ⟨g, c, cur, e, _⟩
      · cases e
      · cases e
        exact h.cells (g := g) rfl
    · intro v' w' hown hg _
      rw [Nat.zero_add, List.nil_append] at hown
      have hb : Below B w w' := (Below.refl _ w).grown hg hB fun k e => (h0.lt k e).1
      rcases hown.2 with ⟨rfl, e0⟩ | ⟨g, cap', cur, rfl, _⟩
      · have := hK none 0 w'
        rw [e0] at this hown
        exact this hown hb
      · exact hK _ _ w' hown hb
set_option maxHeartbeats 1000000 in
theorem Try.wider_any {w : World} {B : Nat} {v : Value} {li : List Int} (h : w.ownsRow B 2 1 v li.length (Wi.ics li)) (room : Nat) (hr : room ≤ 1000000000000) (hl : li.length ≤ 1000000000000) :
    Calls Try.prog 62 #[v, .int .i64 room] w fun e w' => ∃ ad cap, e = .returned (.slice ad li.length cap) ∧ w'.ownsRow w.heap.size 2 1 (.slice ad li.length cap) li.length (Wi.ics li) ∧ Below w.heap.size w w' := by
  have hv : ∃ ad cap, v = .slice ad li.length cap ∧ (ad = none → cap = 0 ∧ li = []) := by
    rcases h.2 with ⟨e, e2⟩ | ⟨g, cap, cur, e, _⟩
    · exact ⟨none, 0, by rw [e2]; exact e, fun _ => ⟨rfl, List.eq_nil_of_length_eq_zero e2⟩⟩
    · exact ⟨_, cap, e, fun h => by cases h⟩
  obtain ⟨ad, cap, rfl, hnil⟩ := hv
  have Hr : Hid (room ≤ 1000000000000) := hr
  have Hl : Hid (li.length ≤ 1000000000000) := hl
  have hw1 : wrap64 (2 * (li.length : Int)) = 2 * (li.length : Int) := Wi.w64 _ (by omega) (by omega)
  have hw2 : wrap64 (2 * (li.length : Int) + 8) = 2 * (li.length : Int) + 8 := Wi.w64 _ (by omega) (by omega)
  obtain ⟨i0, hi0, hz0, hz1, hz2⟩ := info_parts Try.info_i64
  clear hr hl
  go_enter Try.func62, Try.ntmps62
  by_cases hc : 2 * li.length + 8 < room
  · have q1 : 2 * (li.length : Int) + 8 < (room : Int) := by omega
    go_wp2_with (first
      | (at_make; refine wpList_make_own _ rfl _ _ 32 rfl w.heap.size 2 i0 (.int .i64 0) 1 Try.underlying32 hi0 hz0 hz1 _ _ _ (2 * li.length + 8) rfl rfl (by omega) (by rw [hz2]; have := Hr.out; have := Hl.out; omega) (by have := Hr.out; have := Hl.out; unfold maxLen; omega) (Nat.le_refl _) ?_; intro w2 hown2 hg2; have hb2 : Below w.heap.size w w2 := (Below.refl _ w).grown hg2 (Nat.le_refl _) (fun k e => by cases e); have hrow2 := Wi.row_heap h fun k e => hb2.block k (h.lt k e).2)
      | (at_builtin; refine Try.appInts rfl _ _ rfl hown2 hrow2 hnil rfl rfl (by have := Hl.out; omega) hb2.size ?_; intro ad3 cap3 w3 hown3 hb3)
      | fail)
    go_ret
    exact ⟨_, _, rfl, hown3, hb2.trans hb3⟩
  · have q1 : ¬ 2 * (li.length : Int) + 8 < (room : Int) := by omega
    go_wp2_with (first
      | (at_make; refine wpList_make_own _ rfl _ _ 32 rfl w.heap.size 2 i0 (.int .i64 0) 1 Try.underlying32 hi0 hz0 hz1 _ _ _ (room) rfl rfl (by omega) (by rw [hz2]; have := Hr.out; have := Hl.out; omega) (by have := Hr.out; have := Hl.out; unfold maxLen; omega) (Nat.le_refl _) ?_; intro w2 hown2 hg2; have hb2 : Below w.heap.size w w2 := (Below.refl _ w).grown hg2 (Nat.le_refl _) (fun k e => by cases e); have hrow2 := Wi.row_heap h fun k e => hb2.block k (h.lt k e).2)
      | (at_builtin; refine Try.appInts rfl _ _ rfl hown2 hrow2 hnil rfl rfl (by have := Hl.out; omega) hb2.size ?_; intro ad3 cap3 w3 hown3 hb3)
      | fail)
    go_ret
    exact ⟨_, _, rfl, hown3, hb2.trans hb3⟩
end Go.Proofs
