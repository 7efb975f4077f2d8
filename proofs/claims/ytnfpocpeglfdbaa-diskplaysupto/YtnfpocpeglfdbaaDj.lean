/-
  One disk, two disks; pick, bytes.
-/
import Derived.Test.YtnfpocpeglfdbaaDi
import Derived.Laws.IdiomStrings
namespace Go.Proofs
open Go.RowKit Go.Dk
/-- A disk, all of it in blocks of its own. -/
structure Try.Dsk (w : World) (own : Nat → Prop) (x : Nat) (s : DS) : Prop where
  ex : ∃ l t V, Try.Mem w x l t V s (Dk.lats s.n s.W) ∧ ∀ k, Dk.foot x l t V k → own k
  lt : ∀ k, own k → k < w.heap.size
/-- One disk; below B nothing has turned since w0. -/
structure Try.One (B : Nat) (w0 w : World) (a : Nat) (sa : DS) : Prop where
  ex : ∃ oa : Nat → Prop, Try.Dsk w oa a sa ∧ ∀ k, oa k → B ≤ k
  bel : Below B w0 w
  le : B ≤ w.heap.size
/-- Two disks that have nothing to do with one another. -/
structure Try.Two (B : Nat) (w0 w : World) (a b : Nat) (sa sb : DS) : Prop where
  ex : ∃ oa ob : Nat → Prop, Try.Dsk w oa a sa ∧ Try.Dsk w ob b sb ∧ (∀ k, oa k → ob k → False) ∧ (∀ k, oa k → B ≤ k) ∧ ∀ k, ob k → B ≤ k
  bel : Below B w0 w
  le : B ≤ w.heap.size
theorem Try.Dsk.keep {w w' : World} {own : Nat → Prop} {x : Nat} {s : DS} (h : Try.Dsk w own x s) (hk : ∀ k, own k → w'.heap[k]? = w.heap[k]?) (hs : w.heap.size ≤ w'.heap.size) : Try.Dsk w' own x s := by
  obtain ⟨l, t, V, hm, hf⟩ := h.ex
  exact ⟨⟨l, t, V, hm.keep fun k e => hk k (hf k e), hf⟩, fun k e => Nat.lt_of_lt_of_le (h.lt k e) hs⟩
theorem Try.Two.symm {B : Nat} {w0 w : World} {a b : Nat} {sa sb : DS} (h : Try.Two B w0 w a b sa sb) : Try.Two B w0 w b a sb sa := by
  obtain ⟨oa, ob, h1, h2, h3, h4, h5⟩ := h.ex
  exact ⟨⟨ob, oa, h2, h1, fun k e f => h3 k f e, h5, h4⟩, h.bel, h.le⟩
theorem Try.One.below {B : Nat} {w0 w w' : World} {a : Nat} {sa : DS} (h : Try.One B w0 w a sa) (g : Below w.heap.size w w') : Try.One B w0 w' a sa := by
  obtain ⟨oa, h1, h2⟩ := h.ex
  exact ⟨⟨oa, h1.keep (fun k e => g.block k (h1.lt k e)) g.size, h2⟩, h.bel.trans (g.mono h.le), Nat.le_trans h.le g.size⟩
theorem Try.Two.below {B : Nat} {w0 w w' : World} {a b : Nat} {sa sb : DS} (h : Try.Two B w0 w a b sa sb) (g : Below w.heap.size w w') : Try.Two B w0 w' a b sa sb := by
  obtain ⟨oa, ob, h1, h2, h3, h4, h5⟩ := h.ex
  exact ⟨⟨oa, ob, h1.keep (fun k e => g.block k (h1.lt k e)) g.size, h2.keep (fun k e => g.block k (h2.lt k e)) g.size, h3, h4, h5⟩, h.bel.trans (g.mono h.le), Nat.le_trans h.le g.size⟩
/-- What a call on a disk leaves. -/
def Try.Left (w w' : World) (x l t : Nat) (V : Value) (s' : DS) : Prop :=
  ∃ V', Try.Mem w' x l t V' s' (Dk.lats s'.n s'.W) ∧ Dk.Wo (Dk.foot x l t V) w w' ∧ ∀ k, V'.ownBlock = some k → V.ownBlock = some k ∨ w.heap.size ≤ k
theorem Try.Dsk.step {w w' : World} {own : Nat → Prop} {x l t : Nat} {V : Value} {s' : DS} (hlt : ∀ k, own k → k < w.heap.size) (hf : ∀ k, Dk.foot x l t V k → own k) (h : Try.Left w w' x l t V s') :
    Try.Dsk w' (fun k => own k ∨ (w.heap.size ≤ k ∧ k < w'.heap.size)) x s' ∧ Dk.Wo own w w' := by
  obtain ⟨V', hm, hw, hv⟩ := h
  refine ⟨⟨⟨l, t, V', hm, ?_⟩, ?_⟩, hw.mono hf⟩
  · rintro k (e | e | e | e)
    · exact .inl (hf k (.inl e))
    · exact .inl (hf k (.inr (.inl e)))
    · exact .inl (hf k (.inr (.inr (.inl e))))
    · rcases hv k e with e' | e'
      · exact .inl (hf k (.inr (.inr (.inr e'))))
      · exact .inr ⟨e', (hm.hv.lt k e).2⟩
  · rintro k (e | e)
    · exact Nat.lt_of_lt_of_le (hlt k e) hw.size
    · exact e.2
theorem Try.One.step {B : Nat} {w0 w : World} {a : Nat} {sa sa' : DS} (h : Try.One B w0 w a sa) {f : FuncId} {args : Array Value} {R : Ending → Prop}
    (hc : ∀ l t V, Try.Mem w a l t V sa (Dk.lats sa.n sa.W) → Calls Try.prog f args w fun e w' => R e ∧ Try.Left w w' a l t V sa') : Calls Try.prog f args w fun e w' => R e ∧ Try.One B w0 w' a sa' := by
  obtain ⟨oa, h1, h2⟩ := h.ex
  obtain ⟨l, t, V, hm, hf⟩ := h1.ex
  refine (hc l t V hm).mono fun e w' ⟨r1, r2⟩ => ⟨r1, ?_⟩
  obtain ⟨hd, hw⟩ := Try.Dsk.step h1.lt hf r2
  have hle := h.le
  refine ⟨⟨_, hd, fun k e => ?_⟩, h.bel.trans ⟨hw.os, hw.tape, hw.output, hw.size, fun k hk => hw.block k (by omega) (fun e => by have := h2 k e; omega)⟩, Nat.le_trans h.le hw.size⟩
  rcases e with e | e
  · exact h2 k e
  · omega
theorem Try.Two.step {B : Nat} {w0 w : World} {a b : Nat} {sa sa' sb : DS} (h : Try.Two B w0 w a b sa sb) {f : FuncId} {args : Array Value} {R : Ending → Prop}
    (hc : ∀ l t V, Try.Mem w a l t V sa (Dk.lats sa.n sa.W) → Calls Try.prog f args w fun e w' => R e ∧ Try.Left w w' a l t V sa') : Calls Try.prog f args w fun e w' => R e ∧ Try.Two B w0 w' a b sa' sb := by
  obtain ⟨oa, ob, h1, h2, h3, h4, h5⟩ := h.ex
  obtain ⟨l, t, V, hm, hf⟩ := h1.ex
  refine (hc l t V hm).mono fun e w' ⟨r1, r2⟩ => ⟨r1, ?_⟩
  obtain ⟨hd, hw⟩ := Try.Dsk.step h1.lt hf r2
  have hle := h.le
  refine ⟨⟨_, ob, hd, h2.keep (fun k e => hw.block k (h2.lt k e) (fun e' => h3 k e' e)) hw.size, fun k e f => ?_, fun k e => ?_, h5⟩, h.bel.trans ⟨hw.os, hw.tape, hw.output, hw.size, fun k hk => hw.block k (by omega) (fun e => by have := h4 k e; omega)⟩, Nat.le_trans h.le hw.size⟩
  · rcases e with e | e
    · exact h3 k e f
    · have := h2.lt k f; omega
  · rcases e with e | e
    · exact h4 k e
    · omega
/-- A call that only reads. -/
theorem Try.Two.reads {B : Nat} {w0 w : World} {a b : Nat} {sa sb : DS} (h : Try.Two B w0 w a b sa sb) {f : FuncId} {args : Array Value} {R : Ending → World → Prop}
    (hc : ∀ l t V, Try.Mem w a l t V sa (Dk.lats sa.n sa.W) → Calls Try.prog f args w R) : Calls Try.prog f args w R := by
  obtain ⟨oa, ob, h1, h2, h3, h4, h5⟩ := h.ex
  obtain ⟨l, t, V, hm, hf⟩ := h1.ex
  exact hc l t V hm
theorem Try.One.reads {B : Nat} {w0 w : World} {a : Nat} {sa : DS} (h : Try.One B w0 w a sa) {f : FuncId} {args : Array Value} {R : Ending → World → Prop}
    (hc : ∀ l t V, Try.Mem w a l t V sa (Dk.lats sa.n sa.W) → Calls Try.prog f args w R) : Calls Try.prog f args w R := by
  obtain ⟨oa, h1, h2⟩ := h.ex
  obtain ⟨l, t, V, hm, hf⟩ := h1.ex
  exact hc l t V hm
theorem Try.left_nil {w w' : World} {x l t : Nat} {V : Value} {s' : DS} (hW : s'.W = []) (hm : Try.Mem w' x l t (.slice none 0 0) s' (Dk.lats s'.n [])) (hw : Dk.Wo (fun k => k = x ∨ k = l ∨ k = t) w w') : Try.Left w w' x l t V s' :=
  ⟨_, by rw [hW]; exact hm, hw.mono fun k e => by
    rcases e with e | e | e
    · exact .inl e
    · exact .inr (.inl e)
    · exact .inr (.inr (.inl e)), fun k e => by cases e⟩
/-- The raw number c, of n things. -/
def Dk.pickN (c : Int) (n : Nat) : Nat := (if c < 0 then -(c + 1) else c).toNat % n
theorem Dk.pickN_lt (c : Int) {n : Nat} (h : 0 < n) : Dk.pickN c n < n := Nat.mod_lt _ h
theorem Dk.pick_neg {c : Int} {n : Nat} (hc : c < 0) : -(c + 1).tmod (n : Int) = ((Dk.pickN c n : Nat) : Int) := by
  obtain ⟨m, hm⟩ : ∃ m : Nat, -(c + 1) = (m : Int) := ⟨(-(c + 1)).toNat, by omega⟩
  have h1 : c + 1 = -(m : Int) := by omega
  rw [Dk.pickN, if_pos hc, hm, h1, Int.neg_tmod, Int.neg_neg, ← Int.ofNat_tmod]; rfl
theorem Dk.pick_pos {c : Int} {n : Nat} (hc : 0 ≤ c) : c % (n : Int) = ((Dk.pickN c n : Nat) : Int) := by
  obtain ⟨m, rfl⟩ : ∃ m : Nat, c = (m : Int) := ⟨c.toNat, by omega⟩
  rw [Dk.pickN, if_neg (by omega)]; rfl
set_option maxHeartbeats 1000000 in
theorem Try.pick_any (c : Int) (n : Nat) (hn : 0 < n) (hn2 : n < 1000000) (h1 : -9223372036854775808 ≤ c) (h2 : c ≤ 9223372036854775807) (w : World) :
    Calls Try.prog 9 #[.int .i64 c, .int .i64 n] w fun e w' => e = .returned (.int .i64 (Dk.pickN c n)) ∧ w' = w := by
  by_cases hc : c < 0
  · have e := Dk.pick_neg (n := n) hc
    have HE : Hid _ := e
    clear e
    go_enter Try.func9, Try.ntmps9
    go_wp2
    go_ret
    exact ⟨by rw [← HE.out]; rfl, rfl⟩
  · have e := Dk.pick_pos (c := c) (n := n) (by omega)
    have HE : Hid _ := e
    clear e
    go_enter Try.func9, Try.ntmps9
    go_wp2
    go_ret
    exact ⟨by rw [← HE.out]; rfl, rfl⟩
/-- A number of 64 bits. -/
def Dk.I64 (c : Int) : Prop := -9223372036854775808 ≤ c ∧ c ≤ 9223372036854775807
/-- What a Put writes. -/
def Dk.bytesOf (N C : Int) : List UInt8 := List.replicate (Dk.pickN N 65) (UInt8.ofNat (97 + Dk.pickN C 26))
theorem Dk.bytesOf_len (N C : Int) : (Dk.bytesOf N C).length ≤ 64 := by simp only [Dk.bytesOf, List.length_replicate]; have := Dk.pickN_lt N (n := 65) (by omega); omega
end Go.Proofs
