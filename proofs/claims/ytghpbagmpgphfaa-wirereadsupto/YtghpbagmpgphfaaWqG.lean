/-
  ReadList of numbers, whatever it reads: things, wider, a reader beside a row of numbers (laid out of Vp, Vq).
-/
import Derived.Test.YtghpbagmpgphfaaWqF
import Derived.Deep.DeepCutAuto
namespace Go.Proofs
open Go.RowKit Go.Wi
def In64 (n : Int) : Prop := -9223372036854775808 ≤ n ∧ n ≤ 9223372036854775807
theorem Wi.w64 (n : Int) (h1 : -9223372036854775808 ≤ n) (h2 : n ≤ 9223372036854775807) : wrap64 n = n := by unfold wrap64; omega
set_option maxHeartbeats 2000000 in
theorem Try.things_any {w : World} {own : Nat → Prop} {x : Nat} {s : Rs} (h : Try.Rd w own x s) (most : Int) (hmo : In64 most) :
    Calls Try.prog 37 #[.pointer (some ⟨x, 0, none⟩), .int .i64 most] w fun e w' => e = .returned (.int .i64 (Wi.many s most).1) ∧ Try.RChg own w w' x (Wi.many s most).2 := by
  have h1 := Try.rCount_any h
  obtain ⟨hin, ht, hlt⟩ := s.cnt_in h.inn
  have Ht : Hid (Wi.many s most = if most < 0 ∨ most < (s.cnt.1 : Int) then (0, s.cnt.2.fail s.p) else (s.cnt.1, s.cnt.2)) := rfl
  have hpl : s.p ≤ 140737488355328 := Nat.le_trans h.inn h.len
  have Hpl : Hid (s.p ≤ 140737488355328) := hpl
  have Hmo : Hid (In64 most) := hmo
  obtain ⟨V, fv, hx, -⟩ := h.ex
  have c1 := cell_of_row w x 1 _ _ _ hx
  have hfl : ∀ {own1 : Nat → Prop} {w2 : World} {s2 : Rs}, Try.Rd w2 own1 x s2 → Calls Try.prog 33 #[.pointer (some ⟨x, 0, none⟩), .int .i64 s.p] w2 fun e w' => (∃ v, e = .returned v) ∧ Try.RChg own1 w2 w' x (s2.fail s.p) := fun hR => Try.fail_any hR s.p (by have := Hpl.out; omega)
  generalize s.cnt = c at *
  obtain ⟨n, s'⟩ := c
  simp only at h1 hlt Ht
  have Hlt : Hid (n < 18446744073709551616) := hlt
  clear hx hpl hmo hlt hin ht h
  go_enter Try.func37, Try.ntmps37
  by_cases hm0 : most < 0
  · have Ht2 : Hid (Wi.many s most = (0, s'.fail s.p)) := (by show _ = _; rw [Ht.out, if_pos (.inl hm0)])
    clear Ht
    go_wp2_with (first
      | (go_at_call 31; refine h1.mono ?_; clear h1; rintro e w2 ⟨rfl, h2⟩; obtain ⟨own1, hR, ho⟩ := h2.ex)
      | (go_at_call 33; refine (hfl hR).mono ?_; clear hfl; rintro e w4 ⟨⟨v, rfl⟩, h4⟩)
      | fail)
    go_ret
    rw [Ht2.out]
    exact ⟨rfl, Try.RChg.trans h2.wo ho h4⟩
  · have hwm : IntKind.u64.wrap most = most := by have := Hmo.out.2; rw [IntKind.wrap_u64]; omega
    by_cases hc : most < (n : Int)
    · have Ht2 : Hid (Wi.many s most = (0, s'.fail s.p)) := (by show _ = _; rw [Ht.out, if_pos (.inr hc)])
      clear Ht
      go_wp2_with (first
        | (go_at_call 31; refine h1.mono ?_; clear h1; rintro e w2 ⟨rfl, h2⟩; obtain ⟨own1, hR, ho⟩ := h2.ex)
        | (go_at_call 33; refine (hfl hR).mono ?_; clear hfl; rintro e w4 ⟨⟨v, rfl⟩, h4⟩)
        | fail)
      go_ret
      rw [Ht2.out]
      exact ⟨rfl, Try.RChg.trans h2.wo ho h4⟩
    · have Ht2 : Hid (Wi.many s most = (n, s')) := (by show _ = _; rw [Ht.out, if_neg (by rintro (e | e); exact hm0 e; exact hc e)])
      have hwn : IntKind.i64.wrap (n : Int) = n := by have := Hmo.out.2; rw [IntKind.wrap_i64]; omega
      clear Ht
      go_wp2_with (first
        | (go_at_call 31; refine h1.mono ?_; clear h1; rintro e w2 ⟨rfl, h2⟩)
        | fail)
      go_ret
      rw [Ht2.out]
      exact ⟨rfl, h2⟩
def Wi.ics (li : List Int) : List Value := li.map fun n => .int .i64 n
theorem Wi.ics_len (li : List Int) : (Wi.ics li).length = li.length := by simp [Wi.ics]
theorem Wi.ics_one (li : List Int) : ∀ u ∈ Wi.ics li, u.oneCell' = true := by
  intro u hu
  simp only [Wi.ics, List.mem_map] at hu
  obtain ⟨b, _, rfl⟩ := hu
  rfl
theorem Try.info_i64 : (Try.prog.info? 2).map (fun i => (i.zero, i.size, i.bytes)) = some (some (.int .i64 0), 1, 8) := by kernel_rfl
/-- 'append' of numbers to a row that is empty. -/
theorem Try.appInts {ops : Array Oper} {rest : List Oper} {o : Oper} {a : Act} {Q : Exit → Act → World → Prop} (hgd : o.guard = none) (s y : Operand)
    (ho : o.op = .call { callee := .builtin .append, args := #[s, y], argTypes := #[31, 31] })
    {w : World} {B B2 : Nat} {v0 : Value} {ad : Option Addr} {cap : Nat} {li : List Int} (h0 : w.ownsRow B 2 1 v0 0 []) (h : w.ownsRow B2 2 1 (.slice ad li.length cap) li.length (Wi.ics li)) (hnil : ad = none → cap = 0 ∧ li = [])
    (hs : a.eval s = v0) (hy : a.eval y = .slice ad li.length cap) (hlen : li.length * 8 ≤ 140737488355328) (hB : B ≤ w.heap.size)
    (hK : ∀ ad' cap' w1, w1.ownsRow B 2 1 (.slice ad' li.length cap') li.length (Wi.ics li) → Below B w w1 → wpList Try.prog ops Q rest (a.put o.dst (.slice ad' li.length cap')) w1) : wpList Try.prog ops Q (o :: rest) a w := by
  obtain ⟨i0, hi0, hz0, hz1, hz2⟩ := info_parts Try.info_i64
  cases ad with
  | none =>
    obtain ⟨rfl, rfl⟩ := hnil rfl
    refine wpList_append_own_none hgd s y 31 ho B 2 i0 1 Try.underlying31 hi0 _ 0 [] hs h0 hy ?_
    rcases h0.2 with ⟨e, _⟩ | ⟨g, c, cur, e, _⟩
    · subst e
      exact hK none 0 w h0 (Below.refl _ _)
    · subst e
      exact hK _ c w h0 (Below.refl _ _)
  | some d =>
    refine wpList_append_own w hgd s y 31 ho B 2 i0 _ 1 8 Try.underlying31 hi0 hz0 hz1 hz2 rfl (by omega) v0 0 [] hs h0 d li.length cap (Wi.ics li) hy (by rw [Wi.ics_len]; omega) ?_ (Wi.ics_one li) (by unfold maxLen; omega) (by omega) hB ?_
    · rcases h.2 with ⟨e, _⟩ | ⟨g, c, cur, e, _⟩
      · cases e
      · cases e
        exact h.cells (g := g) rfl
    · intro v' w' hown hg _
      rw [Nat.zero_add, List.nil_append] at hown
      have hb : Below B w w' := (Below.refl _ w).grown hg hB fun k e => (h0.lt k e).1
      rcases hown.2 with ⟨rfl, e0⟩ | ⟨g, cap', cur, rfl, _⟩
      · have := hK none 0 w'
        rw [e0] at this hown
        exact this hown hb
      · exact hK _ _ w' hown hb
set_option maxHeartbeats 1000000 in
theorem Try.wider_any {w : World} {B : Nat} {v : Value} {li : List Int} (h : w.ownsRow B 2 1 v li.length (Wi.ics li)) (room : Nat) (hr : room ≤ 1000000000000) (hl : li.length ≤ 1000000000000) :
    Calls Try.prog 38 #[v, .int .i64 room] w fun e w' => ∃ ad cap, e = .returned (.slice ad li.length cap) ∧ w'.ownsRow w.heap.size 2 1 (.slice ad li.length cap) li.length (Wi.ics li) ∧ Below w.heap.size w w' := by
  have hv : ∃ ad cap, v = .slice ad li.length cap ∧ (ad = none → cap = 0 ∧ li = []) := by
    rcases h.2 with ⟨e, e2⟩ | ⟨g, cap, cur, e, _⟩
    · exact ⟨none, 0, by rw [e2]; exact e, fun _ => ⟨rfl, List.eq_nil_of_length_eq_zero e2⟩⟩
    · exact ⟨_, cap, e, fun h => by cases h⟩
  obtain ⟨ad, cap, rfl, hnil⟩ := hv
  have Hr : Hid (room ≤ 1000000000000) := hr
  have Hl : Hid (li.length ≤ 1000000000000) := hl
  have hw1 : wrap64 (2 * (li.length : Int)) = 2 * (li.length : Int) := Wi.w64 _ (by omega) (by omega)
  have hw2 : wrap64 (2 * (li.length : Int) + 8) = 2 * (li.length : Int) + 8 := Wi.w64 _ (by omega) (by omega)
  obtain ⟨i0, hi0, hz0, hz1, hz2⟩ := info_parts Try.info_i64
  clear hr hl
  go_enter Try.func38, Try.ntmps38
  by_cases hc : 2 * li.length + 8 < room
  · have q1 : 2 * (li.length : Int) + 8 < (room : Int) := by omega
    go_wp2_with (first
      | (at_make; refine wpList_make_own _ rfl _ _ 31 rfl w.heap.size 2 i0 (.int .i64 0) 1 Try.underlying31 hi0 hz0 hz1 _ _ _ (2 * li.length + 8) rfl rfl (by omega) (by rw [hz2]; have := Hr.out; have := Hl.out; omega) (by have := Hr.out; have := Hl.out; unfold maxLen; omega) (Nat.le_refl _) ?_; intro w2 hown2 hg2; have hb2 : Below w.heap.size w w2 := (Below.refl _ w).grown hg2 (Nat.le_refl _) (fun k e => by cases e); have hrow2 := Wi.row_heap h fun k e => hb2.block k (h.lt k e).2)
      | (at_builtin; refine Try.appInts rfl _ _ rfl hown2 hrow2 hnil rfl rfl (by have := Hl.out; omega) hb2.size ?_; intro ad3 cap3 w3 hown3 hb3)
      | fail)
    go_ret
    exact ⟨_, _, rfl, hown3, hb2.trans hb3⟩
  · have q1 : ¬ 2 * (li.length : Int) + 8 < (room : Int) := by omega
    go_wp2_with (first
      | (at_make; refine wpList_make_own _ rfl _ _ 31 rfl w.heap.size 2 i0 (.int .i64 0) 1 Try.underlying31 hi0 hz0 hz1 _ _ _ (room) rfl rfl (by omega) (by rw [hz2]; have := Hr.out; have := Hl.out; omega) (by have := Hr.out; have := Hl.out; unfold maxLen; omega) (Nat.le_refl _) ?_; intro w2 hown2 hg2; have hb2 : Below w.heap.size w w2 := (Below.refl _ w).grown hg2 (Nat.le_refl _) (fun k e => by cases e); have hrow2 := Wi.row_heap h fun k e => hb2.block k (h.lt k e).2)
      | (at_builtin; refine Try.appInts rfl _ _ rfl hown2 hrow2 hnil rfl rfl (by have := Hl.out; omega) hb2.size ?_; intro ad3 cap3 w3 hown3 hb3)
      | fail)
    go_ret
    exact ⟨_, _, rfl, hown3, hb2.trans hb3⟩
/-- A reader and a row of numbers made since, apart; blocks but the reader's own are as they were. -/
structure Try.RJ (own : Nat → Prop) (w0 w : World) (x : Nat) (s : Rs) (v : Value) (li : List Int) : Prop where
  ex : ∃ oR, Try.Rd w oR x s ∧ (∀ k, oR k → own k ∨ w0.heap.size ≤ k) ∧ w.ownsRow w0.heap.size 2 1 v li.length (Wi.ics li) ∧ (∀ k, v.ownBlock = some k → ¬ oR k)
  wo : Wo own w0 w
theorem Try.RJ.start {own : Nat → Prop} {w : World} {x : Nat} {s : Rs} (h : Try.Rd w own x s) : Try.RJ own w w x s (.slice .none 0 0) [] :=
  ⟨⟨own, h, fun _ e => .inl e, World.ownsRow_nil _ _ _ _, fun k e => by cases e⟩, Wo.refl _ _⟩
theorem Try.RJ.chg {own : Nat → Prop} {w0 w w' : World} {x : Nat} {s s' : Rs} {v : Value} {li : List Int} {oR : Nat → Prop} (hb : Wo own w0 w) (h1 : Try.Rd w oR x s) (h2 : ∀ k, oR k → own k ∨ w0.heap.size ≤ k) (h3 : w.ownsRow w0.heap.size 2 1 v li.length (Wi.ics li)) (h4 : ∀ k, v.ownBlock = some k → ¬ oR k) (hc : Try.RChg oR w w' x s') : Try.RJ own w0 w' x s' v li := by
  obtain ⟨oR', g1, g2⟩ := hc.ex
  have hsz := hb.size
  refine ⟨⟨oR', g1, fun k e => ?_, Wi.row_heap h3 fun k e => hc.wo.block k (h3.lt k e).2 (fun e1 => h4 k e (by rw [e1]; exact h1.ox)), fun k e e2 => ?_⟩, hb.step (fun k e => by rw [e]; exact h2 x h1.ox) hc.wo⟩
  · rcases g2 k e with e1 | e1
    · exact h2 k e1
    · exact .inr (by omega)
  · rcases g2 k e2 with e1 | e1
    · exact h4 k e e1
    · have := (h3.lt k e).2; omega
theorem Try.RJ.drewN {own : Nat → Prop} {w0 w : World} {x : Nat} {s : Rs} {v : Value} {li : List Int} (h : Try.RJ own w0 w x s v li) (n : Nat) : Try.RJ own w0 (w.drewN n) x s v li := by
  obtain ⟨oR, h1, h2, h3, h4⟩ := h.ex
  exact ⟨⟨oR, h1.keep (fun _ _ => rfl) (Nat.le_refl _), h2, Wi.row_heap h3 fun _ _ => rfl, h4⟩, h.wo.drewN n⟩
theorem Try.RJ.nofault {own : Nat → Prop} {w0 w : World} {x : Nat} {s : Rs} {v : Value} {li : List Int} (h : Try.RJ own w0 w x s v li) (hf : s.f = .none) : w.cell? ⟨x, 2, .none⟩ = some (.pointer .none) := by
  obtain ⟨oR, h1, _⟩ := h.ex
  obtain ⟨V, fv, hx, -, -, -, hfv⟩ := h1.ex
  rcases hfv with ⟨_, rfl⟩ | ⟨b, y, hf', -⟩
  · exact cell_of_row w x 2 _ _ _ hx
  · rw [hf] at hf'; cases hf'
theorem Try.RJ.rInt {own : Nat → Prop} {w0 w : World} {x : Nat} {s : Rs} {v : Value} {li : List Int} (h : Try.RJ own w0 w x s v li) :
    Calls Try.prog 15 #[.pointer (some ⟨x, 0, .none⟩)] w fun e w' => e = .returned (.int .i64 s.int.1) ∧ Try.RJ own w0 w' x s.int.2 v li := by
  obtain ⟨oR, h1, h2, h3, h4⟩ := h.ex
  exact (Try.rInt_any h1).mono fun _ _ ⟨e1, e2⟩ => ⟨e1, Try.RJ.chg h.wo h1 h2 h3 h4 e2⟩
set_option maxHeartbeats 1000000 in
theorem Try.RJ.one {own : Nat → Prop} {w0 w : World} {x : Nat} {s : Rs} {v : Value} {li : List Int} (h : Try.RJ own w0 w x s v li) :
    Calls Try.prog 25 #[.pointer (some ⟨x, 0, .none⟩)] w fun e w' => e = .returned (.int .i64 s.int.1) ∧ Try.RJ own w0 w' x s.int.2 v li := by
  have h5 := h.rInt
  clear h
  go_enter Try.func25, Try.ntmps25
  go_wp2_with (first | (go_at_call 15; refine h5.mono ?_; clear h5; rintro e w2 ⟨rfl, h2⟩) | fail)
  go_ret
  exact ⟨rfl, h2⟩
theorem Try.RJ.wider {own : Nat → Prop} {w0 w : World} {x : Nat} {s : Rs} {v : Value} {li : List Int} (h : Try.RJ own w0 w x s v li) (room : Nat) (hr : room ≤ 1000000000000) (hl : li.length ≤ 1000000000000) :
    Calls Try.prog 38 #[v, .int .i64 room] w fun e w' => ∃ ad cap, e = .returned (.slice ad li.length cap) ∧ Try.RJ own w0 w' x s (.slice ad li.length cap) li := by
  obtain ⟨oR, h1, h2, h3, h4⟩ := h.ex
  have hle := h.wo.size
  refine (Try.wider_any h3 room hr hl).mono fun _ _ ⟨ad, cap, e1, e2, e3⟩ => ⟨ad, cap, e1, ⟨oR, h1.below e3, h2, ?_, fun k e e4 => by have := (e2.lt k e).1; have := h1.lt k e4; omega⟩, h.wo.below e3 hle⟩
  exact ⟨e2.1, e2.2.elim Or.inl fun ⟨g', c, cur, q1, q2, q3⟩ => Or.inr ⟨g', c, cur, q1, by omega, q3⟩⟩
/-- 'append' of one number. -/
theorem Try.appI {ops : Array Oper} {rest : List Oper} {o : Oper} {a : Act} {Q : Exit → Act → World → Prop} (hgd : o.guard = .none) (p y : Operand)
    (ho : o.op = .call { callee := .builtin .append, args := #[p, y], argTypes := #[31, 31] })
    {own : Nat → Prop} {w0 w : World} {x : Nat} {s : Rs} {v : Value} {li : List Int} (h : Try.RJ own w0 w x s v li)
    (hs : a.eval p = v) (hy : a.eval y = .slice (some ⟨w.heap.size, 0, .none⟩) 1 1) (n : Int) (hlen : (li.length + 1) * 8 ≤ 140737488355328)
    (hK : ∀ ad cap w1, Try.RJ own w0 w1 x s (.slice ad (li.length + 1) cap) (li ++ [n]) → wpList Try.prog ops Q rest (a.put o.dst (.slice ad (li.length + 1) cap)) w1) : wpList Try.prog ops Q (o :: rest) a (w.alloc (.cells #[.int .i64 n] 2)) := by
  obtain ⟨oR, h1, h2, h3, h4⟩ := h.ex
  have hle := h.wo.size
  obtain ⟨i0, hi0, hz0, hz1, hz2⟩ := info_parts Try.info_i64
  have hnb : (w.alloc (.cells #[.int .i64 n] 2)).heap[w.heap.size]? = some (.cells #[.int .i64 n] 2 (0, 0)) := heap_alloc_new w _
  have hb : Below w.heap.size w (w.alloc (.cells #[.int .i64 n] 2)) := (Below.refl w.heap.size w).alloc (Nat.le_refl _) _
  have hrow1 := Wi.row_heap h3 fun k e => hb.block k (h3.lt k e).2
  refine wpList_append_lies _ hgd p y 31 ho w0.heap.size 2 i0 _ 1 8 Try.underlying31 hi0 hz0 hz1 hz2 rfl (by omega) v li.length (Wi.ics li) hs hrow1 ⟨w.heap.size, 0, .none⟩ 1 1 [.int .i64 n] hy rfl (World.news_of_block hnb) (by simp [Value.oneCell']) (by omega) (by unfold maxLen; omega) (by omega) (Nat.le_trans hle hb.size) _ rfl ?_
  intro g cap w' hown hg hat hlt
  have hsz : (w.alloc (.cells #[.int .i64 n] 2)).heap.size = w.heap.size + 1 := by simp
  have e : Wi.ics li ++ [Value.int .i64 n] = Wi.ics (li ++ [n]) := by simp [Wi.ics]
  rw [e] at hown
  have hl : (li ++ [n]).length = li.length + 1 := by simp
  refine hK (some ⟨g, 0, .none⟩) cap w' ⟨⟨oR, (h1.below hb).keep (fun k e1 => hg.block k (by have := h1.lt k e1; omega) (fun e2 => h4 k e2.symm e1)) hg.size, h2, by rw [hl]; exact hown, fun k e1 e2 => ?_⟩, ?_⟩
  · cases e1
    rcases hat with e3 | e3
    · exact h4 _ e3 e2
    · have := h1.lt _ e2
      have e4 : g = w.heap.size + 1 := by rw [e3, hsz]
      simp only at this
      omega
  · exact (h.wo.below hb hle).grown hg fun k e1 => .inr (h3.lt k e1).1
end Go.Proofs
