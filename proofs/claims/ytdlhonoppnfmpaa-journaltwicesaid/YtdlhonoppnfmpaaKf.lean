/-
  A new disk; a disk that is given another one's bytes, plain; reading and asking a disk.
-/
import Derived.Test.YtdlhonoppnfmpaaKe
namespace Go.Dk
theorem new_view (n : Nat) : (Go.Proofs.Dk.new n).view = List.replicate (64 * n) 0 := rfl
theorem new_can (n : Nat) : (Go.Proofs.Dk.new n).Can 1000000 := ⟨rfl, by simp [Go.Proofs.Dk.new], by simp [Go.Proofs.Dk.new], by simp [Go.Proofs.Dk.new], by simp [Go.Proofs.Dk.new], by simp [Go.Proofs.Dk.new], by simp [Go.Proofs.Dk.new]⟩
theorem blk_take {L : List UInt8} (i : Nat) : L.take (64 * i) ++ blk L i = L.take (64 * (i + 1)) := by
  rw [show 64 * (i + 1) = 64 * i + 64 by omega, List.take_add]; rfl
/-- So much of a disk has another one's bytes. -/
structure Copied (c : DS) (v : List UInt8) (n i : Nat) : Prop where
  cn : c.n = n
  fs : c.fset = false
  len : c.view.length = 64 * n
  pre : c.view.take (64 * i) = v.take (64 * i)
theorem Copied.step {c : DS} {v : List UInt8} {n i : Nat} (h : Copied c v n i) (hv : v.length = 64 * n) (hi : i < n) : (c.op (.wr i (blk v i))).2 = true ∧ Copied (c.op (.wr i (blk v i))).1 v n (i + 1) := by
  have hb := blk_length hv hi
  refine ⟨(op_free c _ h.fs).1, (DS.op_n _ _).trans h.cn, (op_free c _ h.fs).2, ?_, ?_⟩
  · rw [op_wr_view h.fs, length_put (by rw [pad_length (by omega), h.len]; omega), h.len]
  · rw [op_wr_view h.fs, pad64 hb]
    unfold put
    rw [h.pre, List.append_assoc, ← List.append_assoc, blk_take, List.take_append_of_le_length (by rw [List.length_take, hv]; omega), List.take_take, Nat.min_self]
theorem Copied.all {c : DS} {v : List UInt8} {n : Nat} (h : Copied c v n n) (hv : v.length = 64 * n) : c.view = v := by
  have := h.pre
  rwa [List.take_of_length_le (by rw [h.len]; omega), List.take_of_length_le (by omega)] at this
/-- What a disk holds hangs on its bytes alone. -/
theorem Holds.of {s c : DS} {g a : Nat} {snap : List UInt8} {recs : List (List UInt8)} (h : Holds s g a snap recs) (hv : c.view = s.view) (hn : c.n = s.n) (fs : c.fset = false) (sy : c.W = []) : Holds c g a snap recs :=
  ⟨fs, sy, by rw [hv, hn]; exact h.len, by rw [hn]; exact h.n8, by rw [hn]; exact h.n4, h.a1, h.g1, h.g2, by rw [hv]; exact h.head, by rw [hv, hn]; exact h.other, by rw [hn]; exact h.small, h.rl, by rw [hv, hn]; exact h.bytes, by rw [hv, hn]; exact h.zero⟩
end Go.Dk
namespace Go.Proofs
open Go.RowKit Go.Dk
theorem Try.new_dsk (w : World) (n : Nat) (h0 : 8 ≤ n) (hn : n ≤ 4096) :
    Calls Try.prog 17 #[.int .i64 n] w fun e w' => ∃ x own, e = .returned (.tuple #[.pointer (some ⟨x, 0, none⟩), .int .i64 0]) ∧ Try.Dsk w' own x (Dk.new n) ∧ (∀ k, own k → w.heap.size ≤ k) ∧ Below w.heap.size w w' := by
  refine (Try.new_ok w n h0 hn).mono ?_
  rintro e w' ⟨x, l, t, rfl, hm, hb, h1, h2, h3⟩
  refine ⟨x, Dk.foot x l t (.slice none 0 0), rfl, ⟨⟨l, t, _, hm, fun k e => e⟩, hm.foot_lt⟩, ?_, hb⟩
  rintro k (rfl | rfl | rfl | e)
  · exact h1
  · exact h2
  · exact h3
  · cases e
theorem Try.Dsk.blocks {w : World} {own : Nat → Prop} {x : Nat} {s : DS} (h : Try.Dsk w own x s) :
    Calls Try.prog 48 #[.pointer (some ⟨x, 0, none⟩)] w fun e w' => e = .returned (.int .i64 s.n) ∧ w' = w := by
  obtain ⟨l, t, V, hm, -⟩ := h.ex
  exact Try.blocks_any hm
theorem Try.Dsk.read {w : World} {own : Nat → Prop} {x : Nat} {s : DS} (h : Try.Dsk w own x s) (hd : s.dead = false) (i : Nat) (hi : i < s.n) :
    Calls Try.prog 38 #[.pointer (some ⟨x, 0, none⟩), .int .i64 i] w fun e w' => ∃ g, e = .returned (.tuple #[.slice (some ⟨g, 0, none⟩) 64 64, .int .i64 0]) ∧ Dk.Src w' (.slice (some ⟨g, 0, none⟩) 64 64) (blk s.view i) ∧ Below w.heap.size w w' := by
  obtain ⟨l, t, V, hm, -⟩ := h.ex
  refine (Try.read_ok hm rfl hd i hi).mono ?_
  rintro e w' ⟨rfl, h1, h2⟩
  have hbl := blk_length h.len.1 hi
  refine ⟨_, rfl, ⟨_, 64, by rw [hbl], .inr ⟨_, 0, rfl, Dk.block_lt h1, fun j u hu => ?_⟩⟩, h2⟩
  rw [Nat.zero_add, cell_of_row _ _ _ _ _ _ h1]
  simpa using hu
end Go.Proofs
namespace Go.Dk
theorem recs_le : ∀ recs : List (List UInt8), recs.length ≤ (recs.flatMap recB).length
  | [] => Nat.le_refl _
  | d :: r => by
    have := recs_le r
    have h1 := recB_len d
    simp only [List.flatMap_cons, List.length_append, List.length_cons]
    omega
theorem Holds.few {s : DS} {g a : Nat} {snap : List UInt8} {recs : List (List UInt8)} (h : Holds s g a snap recs) : recs.length < 1000000 := by
  have h1 := recs_le recs
  have h2 := h.small
  have h3 := h.n4
  simp only [body, List.length_append] at h2
  unfold half at h2
  omega
end Go.Dk
namespace Go.Proofs
open Go.RowKit Go.Dk
/-- What was told of a disk: a journal, a state. -/
structure Try.Told (w w' : World) (own : Nat → Prop) (y x : Nat) (s : DS) (q g a : Nat) (snap : List UInt8) (recs : List (List UInt8)) (t : Value) : Prop where
  jd : Try.JD w' own y x s q g a snap recs
  y0 : w.heap.size ≤ y
  st : Try.Sta w' (fun k => w.heap.size ≤ k ∧ k ≠ y) t snap recs
  bel : Below w.heap.size w w'
theorem Try.opens_any {w : World} {own : Nat → Prop} {x : Nat} {s : DS} {q g a : Nat} {snap : List UInt8} {recs : List (List UInt8)} (h : Try.Dsk w own x s) (ho : Holds s g a snap recs) (hc : s.Can q) :
    Calls Try.prog 10 #[.pointer (some ⟨x, 0, none⟩)] w fun r w' => ∃ y t, r = .returned (.tuple #[.pointer (some ⟨y, 0, none⟩), t, .bool true]) ∧ Try.Told w w' own y x s q g a snap recs t := by
  refine (Try.opens_of (snap := snap) ho.few (fun y w1 => Try.JD w1 own y x s q g a snap recs) (fun W hb => (Try.open_at (h.below hb) ho hc).mono ?_)).mono ?_
  · rintro r w1 ⟨y, sn, rv, rfl, hG⟩
    obtain ⟨b, R, _, _, h1, h2, _, h3, h4, h5⟩ := hG.ex
    exact ⟨y, sn, rv, rfl, ⟨hG.y0, Dk.block_lt hG.jd.jn, hG.bel, b, R, _, h1, h2, h3, h4, h5⟩, hG.jd⟩
  · rintro r w' ⟨y, t, w1, rfl, hy, hst, hjd, hwo, hbel⟩
    refine ⟨y, t, rfl, ⟨hjd.dsk.keep (fun k e => hwo.block k (hjd.dsk.lt k e) (fun e1 => ?_)) hwo.size, hjd.jn.wo hwo (by omega), hjd.ny, hjd.ho, hjd.can⟩, by omega, hst, hbel⟩
    have := h.lt k e
    omega
theorem Dk.Wo.bel {own : Nat → Prop} {w w' : World} {B : Nat} (h : Dk.Wo own w w') (hf : ∀ k, own k → B ≤ k) (hB : B ≤ w.heap.size) : Below B w w' :=
  ⟨h.os, h.tape, h.output, h.size, fun k hk => h.block k (by omega) (fun e => by have := hf k e; omega)⟩
end Go.Proofs
