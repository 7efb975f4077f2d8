/-
  ReadList of texts that are there.
-/
import Derived.Test.YtdefebinnmimgaaWo6
namespace Go.Proofs
open Go.RowKit Go.Wi
/-- 'append' of texts to a row that is empty. -/
theorem Try.appStrsN {ops : Array Oper} {rest : List Oper} {o : Oper} {a : Act} {Q : Exit → Act → World → Prop} (hgd : o.guard = none) (s y : Operand)
    (ho : o.op = .call { callee := .builtin .append, args := #[s, y], argTypes := #[50, 50] })
    {w : World} {B B2 : Nat} {v0 : Value} {ad : Option Addr} {cap : Nat} {li : List ByteArray} (h0 : w.ownsRow B 9 1 v0 0 []) (h : w.ownsRow B2 9 1 (.slice ad li.length cap) li.length (tc li)) (hnil : ad = none → cap = 0 ∧ li = [])
    (hs : a.eval s = v0) (hy : a.eval y = .slice ad li.length cap) (hlen : li.length * 16 ≤ 140737488355328) (hB : B ≤ w.heap.size)
    (hK : ∀ ad' cap' w1, w1.ownsRow B 9 1 (.slice ad' li.length cap') li.length (tc li) → Below B w w1 → wpList Try.prog ops Q rest (a.put o.dst (.slice ad' li.length cap')) w1) : wpList Try.prog ops Q (o :: rest) a w := by
  obtain ⟨i0, hi0, hz0, hz1, hz2⟩ := info_parts Try.info_str6
  cases ad with
  | none =>
    obtain ⟨rfl, rfl⟩ := hnil rfl
    refine wpList_append_own_none hgd s y 50 ho B 9 i0 1 Try.underlying50 hi0 _ 0 [] hs h0 hy ?_
    rcases h0.2 with ⟨e, _⟩ | ⟨g, c, cur, e, _⟩
    · subst e
      exact hK none 0 w h0 (Below.refl _ _)
    · subst e
      exact hK _ c w h0 (Below.refl _ _)
  | some d =>
    refine wpList_append_own w hgd s y 50 ho B 9 i0 _ 1 16 Try.underlying50 hi0 hz0 hz1 hz2 rfl (by omega) v0 0 [] hs h0 d li.length cap (tc li) hy (by rw [tc_len]; omega) ?_ (tc_one li) (by unfold maxLen; omega) (by omega) hB ?_
    · rcases h.2 with ⟨e, _⟩ | ⟨g, c, cur, e, _⟩
      · cases e
      · cases e
        exact h.cells (g := g) rfl
    · intro v' w' hown hg _
      rw [Nat.zero_add, List.nil_append] at hown
      have hb : Below B w w' := (Below.refl _ w).grown hg hB fun k e => (h0.lt k e).1
      rcases hown.2 with ⟨rfl, e0⟩ | ⟨g, cap', cur, rfl, _⟩
      · have := hK none 0 w'
        rw [e0] at this hown
        exact this hown hb
      · exact hK _ _ w' hown hb
set_option maxHeartbeats 1000000 in
theorem Try.widerS_any {w : World} {B : Nat} {v : Value} {li : List ByteArray} (h : w.ownsRow B 9 1 v li.length (tc li)) (room : Nat) (hr : room ≤ 1000000000000) (hl : li.length ≤ 1000000000000) :
    Calls Try.prog 54 #[v, .int .i64 room] w fun e w' => ∃ ad cap, e = .returned (.slice ad li.length cap) ∧ w'.ownsRow w.heap.size 9 1 (.slice ad li.length cap) li.length (tc li) ∧ Below w.heap.size w w' := by
  have hv : ∃ ad cap, v = .slice ad li.length cap ∧ (ad = none → cap = 0 ∧ li = []) := by
    rcases h.2 with ⟨e, e2⟩ | ⟨g, cap, cur, e, _⟩
    · exact ⟨none, 0, by rw [e2]; exact e, fun _ => ⟨rfl, List.eq_nil_of_length_eq_zero e2⟩⟩
    · exact ⟨_, cap, e, fun h => by cases h⟩
  obtain ⟨ad, cap, rfl, hnil⟩ := hv
  have Hr : Hid (room ≤ 1000000000000) := hr
  have Hl : Hid (li.length ≤ 1000000000000) := hl
  have hw1 : wrap64 (2 * (li.length : Int)) = 2 * (li.length : Int) := Wi.w64 _ (by omega) (by omega)
  have hw2 : wrap64 (2 * (li.length : Int) + 8) = 2 * (li.length : Int) + 8 := Wi.w64 _ (by omega) (by omega)
  obtain ⟨i0, hi0, hz0, hz1, hz2⟩ := info_parts Try.info_str6
  clear hr hl
  go_enter Try.func54, Try.ntmps54
  by_cases hc : 2 * li.length + 8 < room
  · have q1 : 2 * (li.length : Int) + 8 < (room : Int) := by omega
    go_wp2_with (first
      | (at_make; refine wpList_make_own _ rfl _ _ 50 rfl w.heap.size 9 i0 (.string ⟨#[]⟩) 1 Try.underlying50 hi0 hz0 hz1 _ _ _ (2 * li.length + 8) rfl rfl (by omega) (by rw [hz2]; have := Hr.out; have := Hl.out; omega) (by have := Hr.out; have := Hl.out; unfold maxLen; omega) (Nat.le_refl _) ?_; intro w2 hown2 hg2; have hb2 : Below w.heap.size w w2 := (Below.refl _ w).grown hg2 (Nat.le_refl _) (fun k e => by cases e); have hrow2 := Wi.row_heap h fun k e => hb2.block k (h.lt k e).2)
      | (at_builtin; refine Try.appStrsN rfl _ _ rfl hown2 hrow2 hnil rfl rfl (by have := Hl.out; omega) hb2.size ?_; intro ad3 cap3 w3 hown3 hb3)
      | fail)
    go_ret
    exact ⟨_, _, rfl, hown3, hb2.trans hb3⟩
  · have q1 : ¬ 2 * (li.length : Int) + 8 < (room : Int) := by omega
    go_wp2_with (first
      | (at_make; refine wpList_make_own _ rfl _ _ 50 rfl w.heap.size 9 i0 (.string ⟨#[]⟩) 1 Try.underlying50 hi0 hz0 hz1 _ _ _ (room) rfl rfl (by omega) (by rw [hz2]; have := Hr.out; have := Hl.out; omega) (by have := Hr.out; have := Hl.out; unfold maxLen; omega) (Nat.le_refl _) ?_; intro w2 hown2 hg2; have hb2 : Below w.heap.size w w2 := (Below.refl _ w).grown hg2 (Nat.le_refl _) (fun k e => by cases e); have hrow2 := Wi.row_heap h fun k e => hb2.block k (h.lt k e).2)
      | (at_builtin; refine Try.appStrsN rfl _ _ rfl hown2 hrow2 hnil rfl rfl (by have := Hl.out; omega) hb2.size ?_; intro ad3 cap3 w3 hown3 hb3)
      | fail)
    go_ret
    exact ⟨_, _, rfl, hown3, hb2.trans hb3⟩
/-- A reader, a row of numbers and a block that is kept, apart, above a floor. -/
structure Try.RS (B : Nat) (w0 w : World) (x : Nat) (s : Rs) (v : Value) (li : List ByteArray) (g : Nat) (O : Obj) : Prop where
  ex : ∃ oR, Try.Rd w oR x s ∧ (∀ k, oR k → B ≤ k) ∧ w.ownsRow B 9 1 v li.length (tc li) ∧ (∀ k, v.ownBlock = some k → ¬ oR k) ∧ w.heap[g]? = some O ∧ ¬ oR g ∧ v.ownBlock ≠ some g
  bel : Below B w0 w
theorem Try.RS.le {B : Nat} {w0 w : World} {x : Nat} {s : Rs} {v : Value} {li : List ByteArray} {g : Nat} {O : Obj} (h : Try.RS B w0 w x s v li g O) : B ≤ w.heap.size := by
  obtain ⟨oR, h1, h2, _⟩ := h.ex
  exact Nat.le_of_lt (Nat.lt_of_le_of_lt (h2 x h1.ox) (h1.lt x h1.ox))
theorem Try.RS.kept {B : Nat} {w0 w : World} {x : Nat} {s : Rs} {v : Value} {li : List ByteArray} {g : Nat} {O : Obj} (h : Try.RS B w0 w x s v li g O) : w.heap[g]? = some O := by
  obtain ⟨oR, h1, h2, _, _, h5, _⟩ := h.ex
  exact h5
theorem Try.RS.rb {B : Nat} {w0 w : World} {x : Nat} {s : Rs} {v : Value} {li : List ByteArray} {g : Nat} {O : Obj} (h : Try.RS B w0 w x s v li g O) : Try.RB B w0 w x s := by
  obtain ⟨oR, h1, h2, _⟩ := h.ex
  exact ⟨⟨oR, h1, h2⟩, h.bel⟩
theorem Try.RS.row {B : Nat} {w0 w : World} {x : Nat} {s : Rs} {v : Value} {li : List ByteArray} {g : Nat} {O : Obj} (h : Try.RS B w0 w x s v li g O) : w.ownsRow B 9 1 v li.length (tc li) := by
  obtain ⟨oR, h1, h2, h3, _⟩ := h.ex
  exact h3
theorem Try.RS.new {B : Nat} {w0 w : World} {x : Nat} {s : Rs} (h : Try.RB B w0 w x s) (cs : Array Value) (T : TypeId) : Try.RS B w0 (w.alloc (.cells cs T)) x s (.slice .none 0 0) [] w.heap.size (.cells cs T (0, 0)) := by
  obtain ⟨oR, h1, h2⟩ := h.ex
  have hb : Below w.heap.size w (w.alloc (.cells cs T)) := (Below.refl w.heap.size w).alloc (Nat.le_refl _) _
  exact ⟨⟨oR, h1.below hb, h2, World.ownsRow_nil _ _ _ _, (fun k e => by cases e), heap_alloc_new w _, (fun e => by have := h1.lt _ e; omega), (fun e => by cases e)⟩, h.bel.trans (hb.mono h.le)⟩
theorem Try.RS.below {B : Nat} {w0 w w' : World} {x : Nat} {s : Rs} {v : Value} {li : List ByteArray} {g : Nat} {O : Obj} (h : Try.RS B w0 w x s v li g O) (hb : Below w.heap.size w w') : Try.RS B w0 w' x s v li g O := by
  obtain ⟨oR, h1, h2, h3, h4, h5, h6, h7⟩ := h.ex
  exact ⟨⟨oR, h1.below hb, h2, Wi.row_heap h3 fun k e => hb.block k (h3.lt k e).2, h4, (hb.block g (block_lt h5)).trans h5, h6, h7⟩, h.bel.trans (hb.mono h.le)⟩
theorem Try.RS.drewN {B : Nat} {w0 w : World} {x : Nat} {s : Rs} {v : Value} {li : List ByteArray} {g : Nat} {O : Obj} (h : Try.RS B w0 w x s v li g O) (n : Nat) : Try.RS B w0 (w.drewN n) x s v li g O := h.below (belowN (Below.refl _ _) n)
theorem Try.RS.chg {B : Nat} {w0 w w' : World} {x : Nat} {s s' : Rs} {v : Value} {li : List ByteArray} {g : Nat} {O : Obj} {oR : Nat → Prop} (hb : Below B w0 w) (h1 : Try.Rd w oR x s) (h2 : ∀ k, oR k → B ≤ k) (h3 : w.ownsRow B 9 1 v li.length (tc li)) (h4 : ∀ k, v.ownBlock = some k → ¬ oR k) (h5 : w.heap[g]? = some O) (h6 : ¬ oR g) (h7 : v.ownBlock ≠ some g) (hc : Try.RChg oR w w' x s') : Try.RS B w0 w' x s' v li g O := by
  obtain ⟨oR', g1, g2⟩ := hc.ex
  have hBx := h2 x h1.ox
  have hxl := h1.lt x h1.ox
  have hgl := block_lt h5
  refine ⟨⟨oR', g1, fun k e => ?_, Wi.row_heap h3 fun k e => hc.wo.block k (h3.lt k e).2 (fun e1 => h4 k e (by rw [e1]; exact h1.ox)), fun k e e2 => ?_, (hc.wo.block g hgl (fun e1 => h6 (by rw [e1]; exact h1.ox))).trans h5, fun e => ?_, h7⟩, Wo.toBelow hb hc.wo (fun k e => by omega) (by omega)⟩
  · rcases g2 k e with e1 | e1
    · exact h2 k e1
    · omega
  · rcases g2 k e2 with e1 | e1
    · exact h4 k e e1
    · have := (h3.lt k e).2; omega
  · rcases g2 g e with e1 | e1
    · exact h6 e1
    · omega
theorem Try.RS.nofault {B : Nat} {w0 w : World} {x : Nat} {s : Rs} {v : Value} {li : List ByteArray} {g : Nat} {O : Obj} (h : Try.RS B w0 w x s v li g O) (hf : s.f = .none) : w.cell? ⟨x, 2, .none⟩ = some (.pointer .none) := by
  obtain ⟨oR, h1, _⟩ := h.ex
  obtain ⟨V, fv, hx, -, -, -, hfv⟩ := h1.ex
  rcases hfv with ⟨_, rfl⟩ | ⟨b, y, hf', -⟩
  · exact cell_of_row w x 2 _ _ _ hx
  · rw [hf] at hf'; cases hf'
theorem Try.RS.rText {B : Nat} {w0 w : World} {x : Nat} {s : Rs} {v : Value} {li : List ByteArray} {g : Nat} {O : Obj} (h : Try.RS B w0 w x s v li g O) :
    Calls Try.prog 20 #[.pointer (some ⟨x, 0, .none⟩)] w fun e w' => e = .returned (.string ⟨s.text.1.toArray⟩) ∧ Try.RS B w0 w' x s.text.2 v li g O := by
  obtain ⟨oR, h1, h2, h3, h4, h5, h6, h7⟩ := h.ex
  exact (Try.rText_any h1).mono fun _ _ ⟨e1, e2⟩ => ⟨e1, Try.RS.chg h.bel h1 h2 h3 h4 h5 h6 h7 e2⟩
set_option maxHeartbeats 1000000 in
theorem Try.RS.one {B : Nat} {w0 w : World} {x : Nat} {s : Rs} {v : Value} {li : List ByteArray} {g : Nat} {O : Obj} (h : Try.RS B w0 w x s v li g O) :
    Calls Try.prog 33 #[.pointer (some ⟨x, 0, .none⟩)] w fun e w' => e = .returned (.string ⟨s.text.1.toArray⟩) ∧ Try.RS B w0 w' x s.text.2 v li g O := by
  have h5 := h.rText
  clear h
  go_enter Try.func33, Try.ntmps33
  go_wp2_with (first | (go_at_call 20; refine h5.mono ?_; clear h5; rintro e w2 ⟨rfl, h2⟩) | fail)
  go_ret
  exact ⟨rfl, h2⟩
theorem Try.RS.wider {B : Nat} {w0 w : World} {x : Nat} {s : Rs} {v : Value} {li : List ByteArray} {g : Nat} {O : Obj} (h : Try.RS B w0 w x s v li g O) (room : Nat) (hr : room ≤ 1000000000000) (hl : li.length ≤ 1000000000000) :
    Calls Try.prog 54 #[v, .int .i64 room] w fun e w' => ∃ ad cap, e = .returned (.slice ad li.length cap) ∧ Try.RS B w0 w' x s (.slice ad li.length cap) li g O := by
  obtain ⟨oR, h1, h2, h3, h4, h5, h6, h7⟩ := h.ex
  have hgl := block_lt h5
  have hle := h.le
  refine (Try.widerS_any h3 room hr hl).mono fun _ _ ⟨ad, cap, e1, e2, e3⟩ => ⟨ad, cap, e1, ⟨oR, h1.below e3, h2, ?_, fun k e e4 => by have := (e2.lt k e).1; have := h1.lt k e4; omega, (e3.block g hgl).trans h5, h6, fun e => by have := (e2.lt g e).1; omega⟩, h.bel.trans (e3.mono hle)⟩
  exact ⟨e2.1, e2.2.elim Or.inl fun ⟨g', c, cur, q1, q2, q3⟩ => Or.inr ⟨g', c, cur, q1, by omega, q3⟩⟩
/-- 'append' of one number. -/
theorem Try.appTS {ops : Array Oper} {rest : List Oper} {o : Oper} {a : Act} {Q : Exit → Act → World → Prop} (hgd : o.guard = .none) (p y : Operand)
    (ho : o.op = .call { callee := .builtin .append, args := #[p, y], argTypes := #[50, 50] })
    {B : Nat} {w0 w : World} {x : Nat} {s : Rs} {v : Value} {li : List ByteArray} {gk : Nat} {O : Obj} (h : Try.RS B w0 w x s v li gk O)
    (hs : a.eval p = v) (hy : a.eval y = .slice (some ⟨w.heap.size, 0, .none⟩) 1 1) (n : ByteArray) (hlen : (li.length + 1) * 16 ≤ 140737488355328)
    (hK : ∀ ad cap w1, Try.RS B w0 w1 x s (.slice ad (li.length + 1) cap) (li ++ [n]) gk O → wpList Try.prog ops Q rest (a.put o.dst (.slice ad (li.length + 1) cap)) w1) : wpList Try.prog ops Q (o :: rest) a (w.alloc (.cells #[.string n] 9)) := by
  obtain ⟨oR, h1, h2, h3, h4, h5, h6, h7⟩ := h.ex
  have hgl := block_lt h5
  have hle := h.le
  obtain ⟨i0, hi0, hz0, hz1, hz2⟩ := info_parts Try.info_str6
  have hnb : (w.alloc (.cells #[.string n] 9)).heap[w.heap.size]? = some (.cells #[.string n] 9 (0, 0)) := heap_alloc_new w _
  have hb : Below w.heap.size w (w.alloc (.cells #[.string n] 9)) := (Below.refl w.heap.size w).alloc (Nat.le_refl _) _
  have hrow1 := Wi.row_heap h3 fun k e => hb.block k (h3.lt k e).2
  refine wpList_append_lies _ hgd p y 50 ho B 9 i0 _ 1 16 Try.underlying50 hi0 hz0 hz1 hz2 rfl (by omega) v li.length (tc li) hs hrow1 ⟨w.heap.size, 0, .none⟩ 1 1 [.string n] hy rfl (World.news_of_block hnb) (by simp [Value.oneCell']) (by omega) (by unfold maxLen; omega) (by omega) (Nat.le_trans hle hb.size) _ rfl ?_
  intro g cap w' hown hg hat hlt
  have hsz : (w.alloc (.cells #[.string n] 9)).heap.size = w.heap.size + 1 := by simp
  have e : tc li ++ [Value.string n] = tc (li ++ [n]) := by simp [tc]
  rw [e] at hown
  have hl : (li ++ [n]).length = li.length + 1 := by simp
  refine hK (some ⟨g, 0, .none⟩) cap w' ⟨⟨oR, (h1.below hb).keep (fun k e1 => hg.block k (by have := h1.lt k e1; omega) (fun e2 => h4 k e2.symm e1)) hg.size, h2, by rw [hl]; exact hown, fun k e1 e2 => ?_, (hg.block gk (by omega) (fun e => h7 e.symm)).trans ((hb.block gk hgl).trans h5), h6, fun e1 => ?_⟩, ?_⟩
  · cases e1
    rcases hat with e3 | e3
    · exact h4 _ e3 e2
    · have := h1.lt _ e2
      have e4 : g = w.heap.size + 1 := by rw [e3, hsz]
      simp only at this
      omega
  · cases e1
    rcases hat with e3 | e3
    · exact h7 e3
    · have e4 : g = w.heap.size + 1 := by rw [← hsz]; exact e3
      simp only at hgl
      omega
  · exact (h.bel.trans (hb.mono hle)).grown hg (Nat.le_trans hle hb.size) fun k e1 => (h3.lt k e1).1
set_option maxRecDepth 4000 in
set_option maxHeartbeats 4000000 in
theorem Try.readTexts_ok {B : Nat} {w0 w : World} {x : Nat} (a r : List UInt8) (li : List ByteArray) (t : List UInt8) (ht : t = a ++ (cnt li.length ++ (xs li ++ r))) {g : Nat} {O : Obj} (h : Try.RS B w0 w x ⟨t, a.length, .none⟩ (.slice .none 0 0) [] g O) (hok : ∀ s ∈ li, s.size < 18446744073709551616) (hl : li.length ≤ 1000000000000) (p2 : Nat) (hp2 : p2 = a.length + (cnt li.length).length + (xs li).length) :
    Calls Try.prog 31 #[.pointer (some ⟨x, 0, .none⟩), .int .i64 li.length, .func (.func 33) #[] #[]] w fun e w' => ∃ ad cap, e = .returned (.slice ad li.length cap) ∧ Try.RS B w0 w' x ⟨t, p2, .none⟩ (.slice ad li.length cap) li g O := by
  have hfn := Try.funcNil2 56 (.inr rfl) 33
  have hcr := cnt_read a (xs li ++ r) li.length (by omega)
  rw [← ht] at hcr
  have hth : Wi.thing ⟨t, a.length, .none⟩ (li.length : Int) = (li.length, ⟨t, a.length + (cnt li.length).length, .none⟩) := by
    unfold Wi.thing
    rw [hcr, if_neg (by simp only; omega)]
  have h1 : Calls Try.prog 53 #[.pointer (some ⟨x, 0, .none⟩), .int .i64 li.length] w fun e w' => e = .returned (.int .i64 li.length) ∧ Try.RS B w0 w' x ⟨t, a.length + (cnt li.length).length, .none⟩ (.slice .none 0 0) [] g O := by
    obtain ⟨own, g1, g2, g3, g4, g5, g6, g7⟩ := h.ex
    have := Try.things_any g1 (li.length : Int) (by unfold In64; omega)
    rw [hth] at this
    exact this.mono fun _ _ ⟨e1, e2⟩ => ⟨e1, Try.RS.chg h.bel g1 g2 g3 g4 g5 g6 g7 e2⟩
  obtain ⟨p1, hp1⟩ : ∃ p1, p1 = a.length + (cnt li.length).length := ⟨_, rfl⟩
  rw [← hp1] at h1
  have hzl := xs_len li hok
  have htl : t.length - p1 = (xs li).length + r.length := by rw [ht, hp1]; simp only [List.length_append]; omega
  have hleft : ∀ W, Try.RS B w0 W x ⟨t, p1, .none⟩ (.slice .none 0 0) [] g O → Calls Try.prog 48 #[.pointer (some ⟨x, 0, .none⟩)] W fun e w' => e = .returned (.int .i64 ((xs li).length + r.length : Nat)) ∧ Try.RS B w0 w' x ⟨t, p1, .none⟩ (.slice .none 0 0) [] g O := fun W hW => by
    obtain ⟨own, g1, -⟩ := hW.ex
    have := Try.left_any g1
    simp only [htl] at this
    exact this.mono fun _ _ ⟨e1, n, e2⟩ => ⟨e1, by rw [e2]; exact hW.drewN n⟩
  have q1 : ¬ (((xs li).length + r.length : Nat) : Int) < (li.length : Int) := by omega
  have hmin : min (li.length : Int) (((xs li).length + r.length : Nat) : Int) = (li.length : Int) := by omega
  generalize (xs li).length + r.length = lf at hleft q1 hmin
  have Hok : Hid (∀ s ∈ li, s.size < 18446744073709551616) := hok
  have Ht : Hid (t = a ++ (cnt li.length ++ (xs li ++ r))) := ht
  have Hp1 : Hid (p1 = a.length + (cnt li.length).length) := hp1
  have Hp2 : Hid (p2 = a.length + (cnt li.length).length + (xs li).length) := hp2
  have Hl : Hid (li.length ≤ 1000000000000) := hl
  clear hth hcr hzl htl hp1 hp2 ht hok h
  go_enter Try.func31, Try.ntmps31
  go_wp2_with (first
    | (go_at_call 53; refine h1.mono ?_; clear h1; rintro e w2 ⟨rfl, hR2⟩; have h2 := hleft w2 hR2)
    | (go_at_call 48; refine h2.mono ?_; clear h2 hleft; rintro e w3 ⟨rfl, hR3⟩)
    | fail)
  have HR3 : Hid (Try.RS B w0 w3 x ⟨t, p1, .none⟩ (.slice .none 0 0) [] g O) := hR3
  clear hR2 hR3 q1
  go_loopw [9, 10, 21] (fun l _ i wr => ∃ (k : Nat) (ad : Option Addr) (cap p : Nat), k ≤ li.length ∧ i = .int .i64 k ∧ l = .slice ad k cap ∧ p = p1 + (xs (li.take k)).length ∧ Try.RS B w0 wr x ⟨t, p, .none⟩ (.slice ad k cap) (li.take k) g O) (fun _ _ i _ => li.length - (intOf i).toNat)
  case atStart => exact ⟨0, .none, 0, p1, Nat.zero_le _, rfl, rfl, by simp [xs], HR3.out⟩
  case round =>
    obtain ⟨k, ad, cap, p, hk, rfl, rfl, hp, hR⟩ := hrel
    by_cases hkq : k < li.length
    · have q0 : (k : Int) < (li.length : Int) := by omega
      have hin : (Rs.mk t p .none).text = (li[k].data.toList, ⟨t, p + (xb li[k]).length, .none⟩) := by
        have hn := Hok.out _ (List.getElem_mem hkq)
        have e1 : xs li = xs (li.take k) ++ (xb li[k] ++ xs (li.drop (k + 1))) := by
          have e2 : li = li.take k ++ (li[k] :: li.drop (k + 1)) := by rw [← List.drop_eq_getElem_cons hkq, List.take_append_drop]
          conv => lhs; rw [e2, xs_app]
          rfl
        have hd : li[k].size = li[k].data.toList.length := rfl
        have e3 : t = (a ++ cnt li.length ++ xs (li.take k)) ++ (cnt li[k].data.toList.length ++ (li[k].data.toList ++ (xs (li.drop (k + 1)) ++ r))) := by
          rw [Ht.out, e1]; unfold xb; rw [hd]; simp only [List.append_assoc]
        have e4 : p = (a ++ cnt li.length ++ xs (li.take k)).length := by rw [hp, Hp1.out]; simp only [List.length_append]
        have := text_read (a ++ cnt li.length ++ xs (li.take k)) (xs (li.drop (k + 1)) ++ r) li[k].data.toList hn
        rw [← e3, ← e4] at this
        rw [this]
        unfold xb
        rw [hd, List.length_append, Nat.add_assoc]
      have h4 := hR.one
      rw [hin] at h4
      have Htk : Hid (li.take k ++ [li[k]] = li.take (k + 1)) := (by show _ = _; exact List.take_append_getElem hkq)
      have Hpn : Hid (p + (xb li[k]).length = p1 + (xs (li.take (k + 1))).length) := (by
        show _ = _
        rw [← List.take_append_getElem hkq, xs_app, List.length_append, hp]
        simp [xs, Nat.add_assoc])
      have hlk : (li.take k).length = k := by rw [List.length_take]; omega
      have Hlk : Hid ((li.take k).length = k) := hlk
      obtain ⟨n, hn⟩ : ∃ n, n = li[k] := ⟨_, rfl⟩
      rw [← hn] at Htk Hpn
      simp only [← hn] at h4
      obtain ⟨pn, hpn⟩ : ∃ pn, pn = p + (xb n).length := ⟨_, rfl⟩
      rw [← hpn] at Hpn
      simp only [← hpn] at h4
      clear hin hp hlk hpn hn
      by_cases hcap : k = cap
      · have q2 : ((k : Int) == (cap : Int)) = true := by simp [hcap]
        have Hc : Hid (k = cap) := hcap
        clear hcap
        go_wp2_with (first
          | (go_at_call 33; refine h4.mono ?_; clear h4; rintro e w5 ⟨rfl, hR5⟩; have c2 := hR5.nofault rfl; have h5 := hR5.wider li.length Hl.out (by rw [Hlk.out]; have := Hl.out; omega); rw [Hlk.out] at h5)
          | (go_at_call 54; refine h5.mono ?_; clear h5; rintro e w6 ⟨ad6, cap6, rfl, hR6⟩)
          | (at_builtin; refine Try.appTS rfl _ _ rfl hR6 rfl rfl n (by rw [Hlk.out]; have := Hl.out; omega) ?_; intro ad7 cap7 w7 hR7; rw [Hlk.out] at hR7 ⊢)
          | fail)
        go_roundw
        case rel => exact ⟨k + 1, ad7, cap7, pn, by omega, by go_num, rfl, Hpn.out, by rw [← Htk.out]; exact hR7⟩
        case measure => simp [intOf]; omega
      · have q2 : ((k : Int) == (cap : Int)) = false := by simp; omega
        clear hcap
        go_wp2_with (first
          | (go_at_call 33; refine h4.mono ?_; clear h4; rintro e w5 ⟨rfl, hR5⟩; have c2 := hR5.nofault rfl)
          | (at_builtin; refine Try.appTS rfl _ _ rfl hR5 rfl rfl n (by rw [Hlk.out]; have := Hl.out; omega) ?_; intro ad7 cap7 w7 hR7; rw [Hlk.out] at hR7 ⊢)
          | fail)
        go_roundw
        case rel => exact ⟨k + 1, ad7, cap7, pn, by omega, by go_num, rfl, Hpn.out, by rw [← Htk.out]; exact hR7⟩
        case measure => simp [intOf]; omega
    · have q0 : ¬ (k : Int) < (li.length : Int) := by omega
      have hkk : k = li.length := by omega
      subst hkk
      rw [List.take_length] at hp hR
      have Hpp : Hid (p = p2) := (by show _ = _; rw [hp, Hp1.out, Hp2.out])
      clear hp
      go_wp2
      go_ret
      rw [Hpp.out] at hR
      exact ⟨_, _, rfl, hR⟩
end Go.Proofs
