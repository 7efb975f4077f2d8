/-
  step, by its kinds.
-/
import Derived.Test.YtmbhadloedjfeaaRf
import Derived.Deep.DeepCutAuto
namespace Go.Proofs
open Go.RowKit Go.Wi Go.Qu
/-- A step's values. -/
abbrev Qu.opC (k h a b c : Int) (t : ByteArray) : Array Value := #[.int .i64 k, .int .i64 h, .int .i64 a, .int .i64 b, .int .i64 c, .string t]
/-- The cells of the step's box behind the first call. -/
theorem Try.Pp.box {w W w1 : World} {own o1 o2 : Nat → Prop} {p a b m : Nat} {s s' : Qs ByteArray} (h : Try.Pp w own p a b o1 o2 s m) (hW : Below w.heap.size w W) (hQ : Try.QCS o1 W w1 a s') {C : Array Value} {T : TypeId} (hb : Below (w.heap.size + 1) (w.alloc (.cells C T)) W) (j : Nat) {v : Value} (hj : C[j]? = some v) : w1.cell? ⟨w.heap.size, j, none⟩ = some v := by
  have hz : (w.alloc (.cells C T)).heap.size = w.heap.size + 1 := by simp
  have := hb.size
  rw [(h.first hW hQ).2.2.1 w.heap.size (Nat.le_refl _) (by omega) j, hb.cell (p := ⟨w.heap.size, j, none⟩) (by simp), World.cell?_alloc_new]
  exact hj
set_option maxHeartbeats 4000000 in
set_option maxRecDepth 20000 in
theorem Try.stepPut {w : World} {own : Nat → Prop} {p m : Nat} {s : Qs ByteArray} (h : Try.Pr w own p s m) (hm : m ≤ 100000) (h0 a0 b0 c0 : Int) (t : ByteArray) :
    Calls Try.prog 6 #[.pointer (some ⟨p, 0, none⟩), .agg (Qu.opC 1 h0 a0 b0 c0 t)] w fun e w' => e = .returned (.bool true) ∧ Try.PC own w w' p (m + 1) := by
  obtain ⟨a, b, o1, o2, hp⟩ := h.ex
  have hpl := block_lt hp.bl
  have p0 := cell_of_row w p 0 _ _ _ hp.bl
  have p1 := cell_of_row w p 1 _ _ _ hp.bl
  obtain ⟨y, g, hA, hB⟩ : ∃ (y : ByteArray) (g : Bool), (∃ s', (∀ W, Below w.heap.size w W → Calls Try.prog 8 #[.pointer (some ⟨a, 0, none⟩), .string t] W fun e w' => e = .returned (.tuple #[.string y, .bool g]) ∧ Try.QCS o1 W w' a s') ∧ ∀ w1, Try.Rq w1 o2 b s m → Calls Try.prog 13 #[.pointer (some ⟨b, 0, none⟩), .string t] w1 fun e w' => e = .returned (.tuple #[.string y, .bool g]) ∧ Try.RC o2 w1 w' b s' (m + 1)) ∧ True := by
    have hln := hp.qa.inn.ln
    have hs1 := hp.qa.inn.s1
    by_cases hf : (s.l.length : Int) = s.size
    · obtain ⟨y, r, hl⟩ : ∃ y r, s.l = y :: r := by
        cases hl : s.l with
        | nil => rw [hl] at hf; simp at hf; omega
        | cons y r => exact ⟨y, r, rfl⟩
      exact ⟨y, true, ⟨_, fun W hW => Try.putFullS (hp.qa.below hW) t hl hf, fun w1 hr => Try.rputFull hr hm t hl hf⟩, trivial⟩
    · exact ⟨⟨#[]⟩, false, ⟨_, fun W hW => Try.putRoomS (hp.qa.below hW) t (by omega), fun w1 hr => Try.rputRoom hr hm t (by omega)⟩, trivial⟩
  obtain ⟨s', hA, hR⟩ := hA
  have hb0 : Below w.heap.size w (w.alloc (.cells (Qu.opC 1 h0 a0 b0 c0 t) 30)).drew := ((Below.refl _ w).alloc (Nat.le_refl _) _).drew
  have hb1 : Below (w.heap.size + 1) (w.alloc (.cells (Qu.opC 1 h0 a0 b0 c0 t) 30)) (w.alloc (.cells (Qu.opC 1 h0 a0 b0 c0 t) 30)).drew := (Below.refl _ _).drew
  have KEY : Hid (∀ w1, Try.QCS o1 (w.alloc (.cells (Qu.opC 1 h0 a0 b0 c0 t) 30)).drew w1 a s' → w1.cell? ⟨p, 1, none⟩ = some (.pointer (some ⟨b, 0, none⟩)) ∧ w1.cell? ⟨w.heap.size, 5, none⟩ = some (.string t) ∧ Calls Try.prog 13 #[.pointer (some ⟨b, 0, none⟩), .string t] w1.drew fun e w' => e = .returned (.tuple #[.string y, .bool g]) ∧ Try.PC own w w' p (m + 1)) := fun w1 hQ => by
    obtain ⟨a1, a2, a3, a4⟩ := hp.first hb0 hQ
    refine ⟨a1, hp.box hb0 hQ hb1 5 rfl, ?_⟩
    exact (hR w1.drew (a2.keep (fun _ _ => rfl) (Nat.le_refl _))).mono fun e w' ⟨e1, e2⟩ => ⟨e1, hp.second hb0 hQ ((Below.refl _ w1).drew) e2⟩
  have hA0 := hA _ hb0
  clear hA hR hp h hb0 hb1 hB
  go_enter Try.func6, Try.ntmps6
  go_wp2
  go_region_with (first | (go_at_call 8; refine hA0.mono ?_; rintro z w1 ⟨rfl, hQ⟩; obtain ⟨d1, dS, hB⟩ := KEY.out _ hQ; clear hQ) | fail)
  all_goals
    clear hA0 KEY
    go_wp2
    go_region_with (first | (go_at_call 13; refine hB.mono ?_; rintro z w2 ⟨rfl, hK⟩; have HK : Hid _ := hK; clear hK) | fail)
    all_goals
      clear hB
      go_wp2
      go_ret
      exact ⟨by simp, HK.out⟩
end Go.Proofs
