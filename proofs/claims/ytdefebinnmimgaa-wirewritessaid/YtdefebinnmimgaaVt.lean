/-
  HOLDS: bytes that came out, written over with a mark: keep, looks.
-/
import Derived.Test.YtdefebinnmimgaaVs
import Derived.ArgAppend
namespace Go.Proofs
open Go.RowKit Go.Wi
structure Wi.Hd where
  v : Value
  n : Nat
  m : UInt8
def Wi.hcs (hs : List Wi.Hd) : List Value := hs.flatMap fun h => [h.v, .int .u8 (h.m.toNat : Nat)]
theorem Wi.hcs_app (a b : List Wi.Hd) : Wi.hcs (a ++ b) = Wi.hcs a ++ Wi.hcs b := by simp [Wi.hcs]
theorem Wi.hcs_len (hs : List Wi.Hd) : (Wi.hcs hs).length = hs.length * 2 := by
  induction hs with
  | nil => rfl
  | cons h r ih =>
    have e : Wi.hcs (h :: r) = [h.v, .int .u8 (h.m.toNat : Nat)] ++ Wi.hcs r := rfl
    rw [e, List.length_append, ih, List.length_cons]
    simp; omega
theorem Wi.hcs_at : ∀ (hs : List Wi.Hd) (i : Nat) (h : Wi.Hd), hs[i]? = some h → (Wi.hcs hs)[2 * i]? = some h.v ∧ (Wi.hcs hs)[2 * i + 1]? = some (.int .u8 (h.m.toNat : Nat))
  | [], i, h, e => by simp at e
  | c :: r, 0, h, e => by simp at e; subst e; exact ⟨rfl, rfl⟩
  | c :: r, i + 1, h, e => by
    have := Wi.hcs_at r i h (by simpa using e)
    have e1 : Wi.hcs (c :: r) = c.v :: .int .u8 (c.m.toNat : Nat) :: Wi.hcs r := rfl
    rw [e1, show 2 * (i + 1) = 2 * i + 1 + 1 by omega]
    exact this
/-- Holds, in blocks of their own. -/
structure Try.Hs (w : World) (own : Nat → Prop) (kv : Value) (hs : List Wi.Hd) : Prop where
  row : w.ownsRow 0 103 2 kv hs.length (Wi.hcs hs)
  ko : ∀ k, kv.ownBlock = some k → own k
  each : ∀ h ∈ hs, Bs w h.v (List.replicate h.n h.m) ∧ ∀ k, h.v.ownBlock = some k → own k ∧ kv.ownBlock ≠ some k
  lt : ∀ k, own k → k < w.heap.size
theorem Try.Hs.keep {w w' : World} {own : Nat → Prop} {kv : Value} {hs : List Wi.Hd} (h : Try.Hs w own kv hs) (hk : ∀ k, own k → w'.heap[k]? = w.heap[k]?) (hsz : w.heap.size ≤ w'.heap.size) : Try.Hs w' own kv hs :=
  ⟨Wi.row_heap h.row fun k e => hk k (h.ko k e), h.ko, fun x hx => ⟨(h.each x hx).1.keep fun k e => hk k ((h.each x hx).2 k e).1, (h.each x hx).2⟩, fun k e => Nat.lt_of_lt_of_le (h.lt k e) hsz⟩
theorem Try.Hs.none (w : World) : Try.Hs w (fun _ => False) (.slice .none 0 0) [] :=
  ⟨World.ownsRow_nil _ _ _ _, (fun k e => by cases e), (fun h hh => by cases hh), (fun k e => e.elim)⟩
set_option maxHeartbeats 2000000 in
set_option maxRecDepth 4000 in
/-- 'looks'. -/
theorem Try.looks_any {w : World} {own : Nat → Prop} {kv : Value} {hs : List Wi.Hd} (h : Try.Hs w own kv hs) (hl : hs.length ≤ 1000000) (hn : ∀ x ∈ hs, x.n ≤ 1000000000) :
    Calls Try.prog 45 #[kv] w fun e w' => e = .returned (.bool true) ∧ ∃ n, w' = w.drewN n := by
  have hv : ∃ ad cap, kv = .slice ad hs.length cap ∧ ∀ j (hj : j < hs.length), ∃ g, ad = some ⟨g, 0, .none⟩ ∧ w.cell? ⟨g, 2 * j, .none⟩ = some hs[j].v ∧ w.cell? ⟨g, 2 * j + 1, .none⟩ = some (.int .u8 (hs[j].m.toNat : Nat)) := by
    have hr := h.row
    rcases hr.2 with ⟨e, e0⟩ | ⟨g, cap, cur, e, -⟩
    · exact ⟨.none, 0, by rw [e0]; exact e, fun j hj => by omega⟩
    · refine ⟨_, cap, e, fun j hj => ⟨g, rfl, ?_⟩⟩
      subst e
      have h1 := Wi.hcs_at hs j hs[j] (by simp [hj])
      have c1 := hr.cells (g := g) rfl _ _ h1.1
      have c2 := hr.cells (g := g) rfl _ _ h1.2
      rw [Addr.add_mid] at c1 c2
      simp only [Nat.zero_add] at c1 c2
      exact ⟨c1, c2⟩
  obtain ⟨ad, cap, rfl, hcs⟩ := hv
  have Hea : Hid (∀ x ∈ hs, Bs w x.v (List.replicate x.n x.m)) := fun x hx => (h.each x hx).1
  have Hn : Hid (∀ x ∈ hs, x.n ≤ 1000000000) := hn
  clear h hn
  go_enter Try.func45, Try.ntmps45
  go_wp2
  go_loopw [3, 4] (fun i _ wr => ∃ k m : Nat, k ≤ hs.length ∧ i = .int .i64 k ∧ wr = w.drewN m) (fun i _ _ => hs.length - (intOf i).toNat)
  case atStart => exact ⟨0, 0, Nat.zero_le _, rfl, rfl⟩
  case round =>
    obtain ⟨k, m, hk, rfl, rfl⟩ := hrel
    by_cases hkq : k < hs.length
    · have q0 : (k : Int) < (hs.length : Int) := by omega
      obtain ⟨g, rfl, c1, c2⟩ := hcs k hkq
      have hB := Hea.out hs[k] (List.getElem_mem hkq)
      have hnn := Hn.out hs[k] (List.getElem_mem hkq)
      generalize hs[k] = x at *
      obtain ⟨xa, xc, hxv, hxc, -, hxs⟩ := hB.ex
      rw [List.length_replicate] at hxv
      rw [hxv] at c1
      have hcell : ∀ j, j < x.n → ∃ sb so, xa = some ⟨sb, so, .none⟩ ∧ w.cell? ⟨sb, so + j, .none⟩ = some (.int .u8 (x.m.toNat : Nat)) := fun j hj => by
        rcases hxs with e | ⟨sb, so, e, -, h2⟩
        · have := congrArg List.length e
          simp at this; omega
        · refine ⟨sb, so, e, h2 j _ ?_⟩
          rw [byteCell (by simpa using hj)]
          simp
      have c1' : ∀ q, (w.drewN q).cell? ⟨g, 2 * k, .none⟩ = some (.slice xa x.n xc) := fun q => c1
      rw [Nat.mul_comm] at c1 c2
      clear hxs hB hxv hcs c1'
      go_wp2
      go_loopw [4] (fun i wx => ∃ j q : Nat, j ≤ x.n ∧ i = .int .i64 j ∧ wx = w.drewN q) (fun i _ => x.n - (intOf i).toNat)
      case atStart => exact ⟨0, m, Nat.zero_le _, rfl, rfl⟩
      case round =>
        obtain ⟨j, q, hj, rfl, rfl⟩ := hrel
        by_cases hjn : j < x.n
        · have q1 : (j : Int) < (x.n : Int) := by omega
          obtain ⟨sb, so, rfl, s1⟩ := hcell j hjn
          clear hcell
          go_wp2
          go_quiet (fail)
          go_wp2
          go_roundw
          case rel => exact ⟨j + 1, _, by omega, by go_num, rfl⟩
          case measure => simp [intOf]; omega
        · have q1 : ¬ (j : Int) < (x.n : Int) := by omega
          clear hcell
          go_wp2
          go_roundw
          case rel => exact ⟨k + 1, _, by omega, by go_num, rfl⟩
          case measure => simp [intOf]; omega
    · have q0 : ¬ (k : Int) < (hs.length : Int) := by omega
      go_wp2
      go_ret
      exact ⟨rfl, _, rfl⟩
end Go.Proofs
