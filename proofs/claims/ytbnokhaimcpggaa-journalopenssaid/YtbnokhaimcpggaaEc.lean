/-
  A disk in blocks of its own; what a call on it leaves; wrote, synced, powered, and an area's small calls.
-/
import Derived.Test.YtbnokhaimcpggaaEb
namespace Go.Proofs
open Go.RowKit Go.Dk
/-- A disk, all of it in blocks of its own. -/
structure Try.Dsk (w : World) (own : Nat → Prop) (x : Nat) (s : DS) : Prop where
  ex : ∃ l t V, Try.Mem w x l t V s (Dk.lats s.n s.W) ∧ ∀ k, Dk.foot x l t V k → own k
  lt : ∀ k, own k → k < w.heap.size
theorem Try.Dsk.keep {w w' : World} {own : Nat → Prop} {x : Nat} {s : DS} (h : Try.Dsk w own x s) (hk : ∀ k, own k → w'.heap[k]? = w.heap[k]?) (hs : w.heap.size ≤ w'.heap.size) : Try.Dsk w' own x s := by
  obtain ⟨l, t, V, hm, hf⟩ := h.ex
  exact ⟨⟨l, t, V, hm.keep fun k e => hk k (hf k e), hf⟩, fun k e => Nat.lt_of_lt_of_le (h.lt k e) hs⟩
theorem Try.Dsk.below {w w' : World} {own : Nat → Prop} {x : Nat} {s : DS} (h : Try.Dsk w own x s) (g : Below w.heap.size w w') : Try.Dsk w' own x s :=
  h.keep (fun k e => g.block k (h.lt k e)) g.size
theorem Try.Dsk.len {w : World} {own : Nat → Prop} {x : Nat} {s : DS} (h : Try.Dsk w own x s) : s.view.length = 64 * s.n ∧ 0 < s.n ∧ s.n ≤ 4096 := by
  obtain ⟨l, t, V, hm, hf⟩ := h.ex
  exact ⟨sink_length s.W s.L hm.lL hm.good, hm.n0, hm.n1⟩
theorem Try.Dsk.xlt {w : World} {own : Nat → Prop} {x : Nat} {s : DS} (h : Try.Dsk w own x s) : x < w.heap.size := by
  obtain ⟨l, t, V, hm, hf⟩ := h.ex
  exact Dk.block_lt hm.hx
/-- What a call that turns a disk leaves. -/
structure Try.Chg (own : Nat → Prop) (w w' : World) (x : Nat) (s : DS) : Prop where
  ex : ∃ own', Try.Dsk w' own' x s ∧ ∀ k, own' k → own k ∨ w.heap.size ≤ k
  wo : Dk.Wo own w w'
theorem Try.Chg.refl {own : Nat → Prop} {w : World} {x : Nat} {s : DS} (h : Try.Dsk w own x s) : Try.Chg own w w x s := ⟨⟨own, h, fun _ e => .inl e⟩, Dk.Wo.refl _ _⟩
theorem Try.Chg.below {own : Nat → Prop} {w w1 w2 : World} {x : Nat} {s : DS} (h : Try.Chg own w w1 x s) (g : Below w1.heap.size w1 w2) : Try.Chg own w w2 x s := by
  obtain ⟨own', h1, h2⟩ := h.ex
  exact ⟨⟨own', h1.below g, h2⟩, h.wo.below g h.wo.size⟩
theorem Try.Chg.trans {own own1 : Nat → Prop} {w w1 w2 : World} {x : Nat} {s2 : DS} (hw : Dk.Wo own w w1) (ho : ∀ k, own1 k → own k ∨ w.heap.size ≤ k) (g : Try.Chg own1 w1 w2 x s2) : Try.Chg own w w2 x s2 := by
  obtain ⟨own2, h1, h2⟩ := g.ex
  have hs := hw.size
  refine ⟨⟨own2, h1, fun k e => ?_⟩, g.wo.os.trans hw.os, g.wo.tape.trans hw.tape, g.wo.output.trans hw.output, Nat.le_trans hs g.wo.size, fun k hk hn => ?_⟩
  · rcases h2 k e with e1 | e1
    · exact ho k e1
    · exact .inr (by omega)
  · rw [g.wo.block k (by omega) (fun e1 => by rcases ho k e1 with e2 | e2; exact hn e2; omega), hw.block k hk hn]
theorem Try.Chg.trans' {own : Nat → Prop} {w w1 w2 : World} {x : Nat} {s1 s2 : DS} (h : Try.Chg own w w1 x s1) (g : ∀ own1, Try.Dsk w1 own1 x s1 → Try.Chg own1 w1 w2 x s2) : Try.Chg own w w2 x s2 := by
  obtain ⟨own1, h1, h2⟩ := h.ex
  exact Try.Chg.trans h.wo h2 (g own1 h1)
theorem Try.Chg.pre {own : Nat → Prop} {w w1 w2 : World} {x : Nat} {s2 : DS} (hb : Below w.heap.size w w1) (g : Try.Chg own w1 w2 x s2) : Try.Chg own w w2 x s2 :=
  Try.Chg.trans (own1 := own) ((Dk.Wo.refl own w).below hb (Nat.le_refl _)) (fun _k e => .inl e) g
theorem Try.Chg.dsk {own : Nat → Prop} {w w' : World} {x : Nat} {s : DS} (h : Try.Chg own w w' x s) : ∃ own', Try.Dsk w' own' x s ∧ ∀ k, own' k → own k ∨ w.heap.size ≤ k := h.ex
theorem Try.Chg.of_left {own : Nat → Prop} {w w' : World} {x l t : Nat} {V V' : Value} {s' : DS} (hlt : ∀ k, own k → k < w.heap.size) (hf : ∀ k, Dk.foot x l t V k → own k)
    (hm : Try.Mem w' x l t V' s' (Dk.lats s'.n s'.W)) (hw : Dk.Wo (Dk.foot x l t V) w w') (hv : ∀ k, V'.ownBlock = some k → V.ownBlock = some k ∨ w.heap.size ≤ k) : Try.Chg own w w' x s' := by
  refine ⟨⟨fun k => own k ∨ (w.heap.size ≤ k ∧ k < w'.heap.size), ⟨⟨l, t, V', hm, ?_⟩, ?_⟩, fun k e => e.imp id (·.1)⟩, hw.mono hf⟩
  · rintro k (e | e | e | e)
    · exact .inl (hf k (.inl e))
    · exact .inl (hf k (.inr (.inl e)))
    · exact .inl (hf k (.inr (.inr (.inl e))))
    · rcases hv k e with e' | e'
      · exact .inl (hf k (.inr (.inr (.inr e'))))
      · exact .inr ⟨e', (hm.hv.lt k e).2⟩
  · rintro k (e | e)
    · exact Nat.lt_of_lt_of_le (hlt k e) hw.size
    · exact e.2
theorem Dk.foot3 {x l t : Nat} {V : Value} : ∀ k, (k = x ∨ k = l ∨ k = t) → Dk.foot x l t V k := fun k e => by
  rcases e with e | e | e
  · exact .inl e
  · exact .inr (.inl e)
  · exact .inr (.inr (.inl e))
theorem Try.write_op {w : World} {own : Nat → Prop} {x : Nat} {s : DS} (h : Try.Dsk w own x s) {m : Nat} (hc : s.Can (m + 1)) (i : Nat) (hi : i < s.n) (b : List UInt8) (hb : b.length ≤ 64) (v : Value) (hv : Dk.Src w v b) :
    Calls Try.prog 9 #[.pointer (some ⟨x, 0, none⟩), .int .i64 i, v] w fun e w' => e = .returned (.int .i64 (if (s.op (.wr i b)).2 then 0 else 41)) ∧ Try.Chg own w w' x (s.op (.wr i b)).1 := by
  obtain ⟨l, t, V, hm, hf⟩ := h.ex
  have hW := hc.W
  have hwr := hc.wrote
  cases hbl : s.blow
  · simp only [DS.op, hbl, Bool.false_eq_true, if_false, if_true]
    refine (Try.write_ok hm rfl hc.dead (by omega) (DS.blow_no hbl) (by omega) (by have := hc.fl; omega) hc.fl0 i hi b hb v hv).mono fun e w' ⟨h1, V', h2, h3, h4⟩ => ⟨h1, Try.Chg.of_left h.lt hf h2 h3 h4⟩
  · simp only [DS.op, hbl, Bool.false_eq_true, if_false, if_true]
    obtain ⟨hs, hl⟩ := DS.blow_yes hbl
    refine (Try.write_blow hm rfl hc.dead (by omega) hs hl hc.falls i hi b hb v hv).mono fun e w' ⟨h1, h2, h3⟩ => ⟨h1, Try.Chg.of_left h.lt hf h2 h3 fun k e => by cases e⟩
theorem Try.sync_op {w : World} {own : Nat → Prop} {x : Nat} {s : DS} (h : Try.Dsk w own x s) {m : Nat} (hc : s.Can (m + 1)) :
    Calls Try.prog 76 #[.pointer (some ⟨x, 0, none⟩)] w fun e w' => e = .returned (.int .i64 (if (s.op .sy).2 then 0 else 41)) ∧ Try.Chg own w w' x (s.op .sy).1 := by
  obtain ⟨l, t, V, hm, hf⟩ := h.ex
  have hy := hc.synced
  cases hbl : s.blow
  · simp only [DS.op, hbl, Bool.false_eq_true, if_false, if_true]
    refine (Try.sync_ok hm rfl hc.dead (DS.blow_no hbl) (by omega)).mono fun e w' ⟨h1, h2, h3⟩ => ⟨h1, Try.Chg.of_left (V := V) h.lt hf h2 (h3.mono Dk.foot3) fun k e => by cases e⟩
  · simp only [DS.op, hbl, Bool.false_eq_true, if_false, if_true]
    obtain ⟨hs, hl⟩ := DS.blow_yes hbl
    refine (Try.sync_blow hm rfl hc.falls hc.dead hs hl).mono fun e w' ⟨h1, h2, h3⟩ => ⟨h1, Try.Chg.of_left (V := V) h.lt hf h2 (h3.mono Dk.foot3) fun k e => by cases e⟩
set_option maxHeartbeats 1000000 in
theorem Try.wrote_any {w : World} {own : Nat → Prop} {x : Nat} {s : DS} (h : Try.Dsk w own x s) {m : Nat} (hc : s.Can (m + 1)) (i : Nat) (hi : i < s.n) (b : List UInt8) (hb : b.length ≤ 64) (v : Value) (hv : Dk.Src w v b) :
    Calls Try.prog 49 #[.pointer (some ⟨x, 0, none⟩), .int .i64 i, v] w fun e w' => e = .returned (.bool (s.op (.wr i b)).2) ∧ Try.Chg own w w' x (s.op (.wr i b)).1 := by
  have h1 := Try.write_op h hc i hi b hb v hv
  obtain ⟨ad, cap, rfl, _⟩ := hv
  go_enter Try.func49, Try.ntmps49
  cases hr : (s.op (.wr i b)).2
  · rw [hr] at h1
    go_wp2_with (go_at_call 9; refine h1.mono ?_; clear h1; rintro e w2 ⟨rfl, h2⟩)
    go_ret
    exact ⟨rfl, h2⟩
  · rw [hr] at h1
    go_wp2_with (go_at_call 9; refine h1.mono ?_; clear h1; rintro e w2 ⟨rfl, h2⟩)
    go_ret
    exact ⟨rfl, h2⟩
set_option maxHeartbeats 1000000 in
theorem Try.synced_any {w : World} {own : Nat → Prop} {x : Nat} {s : DS} (h : Try.Dsk w own x s) {m : Nat} (hc : s.Can (m + 1)) :
    Calls Try.prog 50 #[.pointer (some ⟨x, 0, none⟩)] w fun e w' => e = .returned (.bool (s.op .sy).2) ∧ Try.Chg own w w' x (s.op .sy).1 := by
  have h1 := Try.sync_op h hc
  go_enter Try.func50, Try.ntmps50
  cases hr : (s.op .sy).2
  · rw [hr] at h1
    go_wp2_with (go_at_call 76; refine h1.mono ?_; clear h1; rintro e w2 ⟨rfl, h2⟩)
    go_ret
    exact ⟨rfl, h2⟩
  · rw [hr] at h1
    go_wp2_with (go_at_call 76; refine h1.mono ?_; clear h1; rintro e w2 ⟨rfl, h2⟩)
    go_ret
    exact ⟨rfl, h2⟩
set_option maxHeartbeats 1000000 in
theorem Try.powered_any {w : World} {own : Nat → Prop} {x : Nat} {s : DS} (h : Try.Dsk w own x s) :
    Calls Try.prog 45 #[.pointer (some ⟨x, 0, none⟩)] w fun e w' => e = .returned (.bool (!s.dead)) ∧ w' = w := by
  obtain ⟨l, t, V, hm, hf⟩ := h.ex
  have h1 := Try.alive_any hm
  clear h hm
  go_enter Try.func45, Try.ntmps45
  go_wp2_with (go_at_call 28; refine h1.mono ?_; clear h1; rintro e w2 ⟨rfl, rfl⟩)
  go_ret
  exact ⟨rfl, rfl⟩
/-- An area as it is handed on. -/
def Dk.arV (x side : Nat) : Value := .agg #[.pointer (some ⟨x, 0, none⟩), .int .i64 side]
set_option maxHeartbeats 1000000 in
theorem Try.ablocks_any {w : World} {own : Nat → Prop} {x : Nat} {s : DS} (h : Try.Dsk w own x s) (hn : 2 ≤ s.n) (side : Nat) :
    Calls Try.prog 78 #[Dk.arV x side] w fun e w' => e = .returned (.int .i64 (half s.n)) ∧ Below w.heap.size w w' := by
  obtain ⟨l, t, V, hm, hf⟩ := h.ex
  have hn1 := hm.n1
  have h1 : ∀ o, Calls Try.prog 94 #[.pointer (some ⟨x, 0, none⟩)] (w.alloc o) _ := fun o => Try.blocks_any (hm.keep fun k e => ((Below.refl w.heap.size w).alloc (Nat.le_refl _) o).block k (hm.foot_lt k e))
  have hq : ((s.n : Int) - 2) / 2 = ((half s.n : Nat) : Int) := by unfold half; omega
  have hq2 : ((s.n : Int) - 2).tdiv 2 = ((half s.n : Nat) : Int) := by rw [← hq, Int.tdiv_eq_ediv_of_nonneg (by omega)]
  clear h hm
  unfold Dk.arV
  go_enter Try.func78, Try.ntmps78
  go_wp2_with (go_at_call 94; refine (h1 _).mono ?_; clear h1; rintro e w2 ⟨rfl, rfl⟩)
  go_ret
  exact ⟨rfl, (Below.refl w.heap.size w).alloc (Nat.le_refl _) _⟩
end Go.Proofs
