/-
  A journal and its disk, together; the calls on them where no fuse is set; pick.
-/
import Derived.Test.YtbnokhaimcpggaaFg
namespace Go.Proofs
open Go.RowKit Go.Dk
/-- The raw number c, of n things. -/
def Dk.pickN (c : Int) (n : Nat) : Nat := (if c < 0 then -(c + 1) else c).toNat % n
theorem Dk.pickN_lt (c : Int) {n : Nat} (h : 0 < n) : Dk.pickN c n < n := Nat.mod_lt _ h
theorem Dk.pick_neg {c : Int} {n : Nat} (hc : c < 0) : -(c + 1).tmod (n : Int) = ((Dk.pickN c n : Nat) : Int) := by
  obtain ⟨m, hm⟩ : ∃ m : Nat, -(c + 1) = (m : Int) := ⟨(-(c + 1)).toNat, by omega⟩
  have h1 : c + 1 = -(m : Int) := by omega
  rw [Dk.pickN, if_pos hc, hm, h1, Int.neg_tmod, Int.neg_neg, ← Int.ofNat_tmod]; rfl
theorem Dk.pick_pos {c : Int} {n : Nat} (hc : 0 ≤ c) : c % (n : Int) = ((Dk.pickN c n : Nat) : Int) := by
  obtain ⟨m, rfl⟩ : ∃ m : Nat, c = (m : Int) := ⟨c.toNat, by omega⟩
  rw [Dk.pickN, if_neg (by omega)]; rfl
set_option maxHeartbeats 1000000 in
theorem Try.pick_any (c : Int) (n : Nat) (hn : 0 < n) (hn2 : n < 1000000) (h1 : -9223372036854775808 ≤ c) (h2 : c ≤ 9223372036854775807) (w : World) :
    Calls Try.prog 7 #[.int .i64 c, .int .i64 n] w fun e w' => e = .returned (.int .i64 (Dk.pickN c n)) ∧ w' = w := by
  by_cases hc : c < 0
  · have e := Dk.pick_neg (n := n) hc
    have HE : Hid _ := e
    clear e
    go_enter Try.func7, Try.ntmps7
    go_wp2
    go_ret
    exact ⟨by rw [← HE.out]; rfl, rfl⟩
  · have e := Dk.pick_pos (c := c) (n := n) (by omega)
    have HE : Hid _ := e
    clear e
    go_enter Try.func7, Try.ntmps7
    go_wp2
    go_ret
    exact ⟨by rw [← HE.out]; rfl, rfl⟩
/-- An open journal on its disk. -/
structure Try.JD (w : World) (own : Nat → Prop) (y x : Nat) (s : DS) (q g a : Nat) (snap : List UInt8) (recs : List (List UInt8)) : Prop where
  dsk : Try.Dsk w own x s
  jn : Try.Jn w y x a g (body snap recs).length s.falls
  ny : ¬ own y
  ho : Holds s g a snap recs
  can : s.Can q
/-- What a call on a journal leaves. -/
structure Try.JDs (own : Nat → Prop) (w w' : World) (y x q g a : Nat) (snap : List UInt8) (recs : List (List UInt8)) (n f : Nat) : Prop where
  ex : ∃ own' s, Try.JD w' own' y x s q g a snap recs ∧ s.n = n ∧ s.falls = f ∧ ∀ k, own' k → own k ∨ w.heap.size ≤ k
  wo : Dk.Wo (fun k => own k ∨ k = y) w w'
theorem Try.JDs.of {own : Nat → Prop} {w w' : World} {y x q g a : Nat} {snap : List UInt8} {recs : List (List UInt8)} {s : DS} (h : Try.JChg own w w' y x a g (body snap recs).length s.falls s) (hy : ¬ own y) (hyl : y < w.heap.size) (ho : Holds s g a snap recs) (hc : s.Can q) (n : Nat) (hn : s.n = n) (f : Nat) (hf : s.falls = f) : Try.JDs own w w' y x q g a snap recs n f := by
  obtain ⟨own', h1, h2⟩ := h.ex
  refine ⟨⟨own', s, ⟨h1, h.jn, fun e => ?_, ho, hc⟩, hn, hf, h2⟩, h.wo⟩
  rcases h2 y e with h3 | h3
  · exact hy h3
  · omega
/-- Does a record go in? -/
def Dk.fits (n e L : Nat) : Bool := decide (0 < L ∧ L ≤ 6000 ∧ e + 7 + L ≤ 64 * half n)
theorem Try.JD.append {w : World} {own : Nat → Prop} {y x q g a : Nat} {s : DS} {snap : List UInt8} {recs : List (List UInt8)} (h : Try.JD w own y x s (q + 3000) g a snap recs) (v : Value) (d : List UInt8) (hv : Dk.Src w v d) (hf : Dk.fits s.n (body snap recs).length d.length = true) :
    Calls Try.prog 17 #[.pointer (some ⟨y, 0, none⟩), v] w fun r w' => r = .returned (.int .i64 0) ∧ Try.JDs own w w' y x q g a snap (recs ++ [d]) s.n s.falls := by
  simp only [Dk.fits, decide_eq_true_eq] at hf
  have hca := append_can (q := q) h.can h.ho.fs h.ho.n4 a (body snap recs).length d
  have hho := h.ho.append d hf.1 hf.2.1 hf.2.2
  have hbl : (body snap (recs ++ [d])).length = (body snap recs).length + 7 + d.length := by simp [body, recB_len]; omega
  refine (Try.append_ok h.dsk (q := q) h.can (by have := h.ho.n8; omega) h.ho.a1 h.jn h.ny rfl v d hv hf.1 hf.2.1 hf.2.2 h.ho.fs).mono fun r w' ⟨k1, k2⟩ => ⟨k1, ?_⟩
  obtain ⟨_, _, _, _, _, _, hn, _⟩ := append_eq h.ho.fs a (body snap recs).length d
  refine Try.JDs.of ?_ h.ny (Dk.block_lt h.jn) hho hca.1 _ hn _ hca.2
  rw [hbl, hca.2]
  exact k2
theorem Try.JD.compact {w : World} {own : Nat → Prop} {y x q g a : Nat} {s : DS} {snap : List UInt8} {recs : List (List UInt8)} (h : Try.JD w own y x s (q + 3000) g a snap recs) (v : Value) (b : List UInt8) (hv : Dk.Src w v b) (hb : b.length ≤ 64 * half s.n) (hg : g < 999999999) :
    Calls Try.prog 48 #[.pointer (some ⟨y, 0, none⟩), v] w fun r w' => r = .returned (.int .i64 0) ∧ Try.JDs own w w' y x q (g + 1) (1 - a) b [] s.n s.falls := by
  have hca := compact_can (q := q) h.can h.ho.fs h.ho.n4 (Dk.nextH a g b) b
  have hho := h.ho.compact b hg hb
  have hbl : (body b []).length = b.length := by simp [body]
  refine (Try.compact_ok h.dsk (q := q) h.can h.ho.n8 h.ho.a1 hg h.jn h.ny rfl v b hv hb h.ho.fs).mono fun r w' ⟨k1, k2⟩ => ⟨k1, ?_⟩
  obtain ⟨_, _, _, _, _, _, hn, _⟩ := compact_eq h.ho.fs (Dk.nextH a g b) b
  refine Try.JDs.of ?_ h.ny (Dk.block_lt h.jn) hho hca.1 _ hn _ hca.2
  rw [hbl, hca.2]
  exact k2
end Go.Proofs
