/-
  A []Do that came in; what the law has behind one thing that was done.
-/
import Derived.Test.YtkoojpaanpmgeaaKq
namespace Go.Proofs
open Go.RowKit Go.Dk
def Dk.J64 (c : Int) : Prop := -9223372036854775808 ≤ c ∧ c ≤ 9223372036854775807
/-- Things that are to be done, as they are handed in. -/
structure Dk.Dos (w : World) (v : Value) (l : List Dk.Do) : Prop where
  ex : ∃ ad cap, v = .slice ad l.length cap ∧ l.length ≤ cap ∧ (l = [] ∨ ∃ sb so, ad = some ⟨sb, so, none⟩ ∧ sb < w.heap.size ∧ ∀ (i : Nat) (o : Dk.Do), l[i]? = some o → w.cell? ⟨sb, so + i * 4, none⟩ = some (.bool o.c) ∧ w.cell? ⟨sb, so + i * 4 + 1, none⟩ = some (.bool o.a) ∧ w.cell? ⟨sb, so + i * 4 + 2, none⟩ = some (.int .i64 o.sz) ∧ w.cell? ⟨sb, so + i * 4 + 3, none⟩ = some (.int .i64 o.lk))
  ok : ∀ o ∈ l, Dk.J64 o.sz ∧ Dk.J64 o.lk
theorem Dk.Dos.at {w : World} {ad : Option Addr} {n cap : Nat} {l : List Dk.Do} (h : Dk.Dos w (.slice ad n cap) l) {i : Nat} {o : Dk.Do} (hd : l[i]? = some o) :
    ∃ sb so, ad = some ⟨sb, so, none⟩ ∧ sb < w.heap.size ∧ (w.cell? ⟨sb, so + i * 4, none⟩ = some (.bool o.c) ∧ w.cell? ⟨sb, so + i * 4 + 1, none⟩ = some (.bool o.a) ∧ w.cell? ⟨sb, so + i * 4 + 2, none⟩ = some (.int .i64 o.sz) ∧ w.cell? ⟨sb, so + i * 4 + 3, none⟩ = some (.int .i64 o.lk)) ∧ Dk.J64 o.sz ∧ Dk.J64 o.lk := by
  obtain ⟨ad', cap', e, h0, h1⟩ := h.ex
  cases e
  rcases h1 with rfl | ⟨sb, so, rfl, h2, h3⟩
  · simp at hd
  · exact ⟨sb, so, rfl, h2, h3 i o hd, h.ok o (List.mem_of_getElem? hd)⟩
section
variable {B : Nat} {w0 w w' : World} {n y x q g a f : Nat} {snap : List UInt8} {recs : List (List UInt8)} {bs : Dk.Bxs} {ss : Dk.Sts} {own : Nat → Prop} {st : Value} {ts : List UInt8} {tr : List (List UInt8)}
theorem Try.Did.lt (hbel : Below B w0 w) (hy : B ≤ y) (hyl : y < w.heap.size) (hlo : ∀ k, own k → B ≤ k) (hq : f + q ≤ 1000000)
    (h4 : ∀ b ∈ bs, Try.Bx w (fun k => ¬ own k ∧ k ≠ y ∧ B ≤ k) b.1 b.2.1 b.2.2) (hd : Try.Did own w w' y x q g a snap recs n f st ts tr) : Try.Lt B w0 w' n y x q g a snap recs bs [(st, ts, tr)] := by
  obtain ⟨own', s', h1, h2, h2f, h3, h5⟩ := hd.ex
  have hwo := hd.wo
  have key : ∀ k, k < w.heap.size → (¬ own k ∧ k ≠ y ∧ B ≤ k) → w'.heap[k]? = w.heap[k]? ∧ (¬ own' k ∧ k ≠ y ∧ B ≤ k) := fun k hk hp =>
    ⟨hwo.block k hk (fun e => by rcases e with e | e; exact hp.1 e; exact hp.2.1 e), fun e => by rcases h3 k e with e1 | e1; exact hp.1 e1; omega, hp.2⟩
  refine ⟨⟨own', s', h1, ⟨h2, by omega⟩, fun k e => ?_, fun b e => (h4 b e).mono key, fun v e => ?_⟩, hy, hbel.trans (hwo.bel (fun k e => ?_) (by omega))⟩
  · rcases h3 k e with e1 | e1
    · exact hlo k e1
    · omega
  · rw [List.mem_singleton] at e
    subst e
    exact h5.mono fun k hk hp => ⟨rfl, hp.1, hp.2.1, by omega⟩
  · rcases e with e1 | e1
    · exact hlo k e1
    · omega
theorem Try.Fmt.lu {e : Nat} (hbel : Below B w0 w) (hy : B ≤ y) (hyl : y < w.heap.size) (hny : ¬ own y) (hlo : ∀ k, own k → B ≤ k) (hq : f + q ≤ 1000000) (he : e ≤ 64 * half n)
    (h4 : ∀ b ∈ bs, Try.Bx w (fun k => ¬ own k ∧ k ≠ y ∧ B ≤ k) b.1 b.2.1 b.2.2) (hd : Try.Fmt own w w' y x q g a e f n f) : Try.Lu B w0 w' n y x q (g + 1) (1 - a) [] [] bs [] := by
  obtain ⟨own', s', h1, h2, h3, h5, h6, h7⟩ := hd.ex
  have hwo := hd.wo
  have key : ∀ k, k < w.heap.size → (¬ own k ∧ k ≠ y ∧ B ≤ k) → w'.heap[k]? = w.heap[k]? ∧ (¬ own' k ∧ k ≠ y ∧ B ≤ k) := fun k hk hp =>
    ⟨hwo.block k hk hp.1, fun e => by rcases h7 k e with e1 | e1; exact hp.1 e1; omega, hp.2⟩
  refine ⟨⟨own', s', e, f, a, g, ⟨h1, h2, h3⟩, ⟨h5, by omega⟩, ⟨hd.jn, by rw [h5]; exact he, fun e1 => ?_⟩, fun k e => ?_, fun b e => (h4 b e).mono key, fun v e => absurd e (by simp)⟩, hy, hbel.trans (hwo.bel hlo (by omega))⟩
  · rcases h7 y e1 with e2 | e2
    · exact hny e2
    · omega
  · rcases h7 k e with e1 | e1
    · exact hlo k e1
    · omega
end
end Go.Proofs
