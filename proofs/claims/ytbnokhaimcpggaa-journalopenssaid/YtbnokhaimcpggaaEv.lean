/-
  Format.
-/
import Derived.Test.YtbnokhaimcpggaaEu
namespace Go.Proofs
open Go.RowKit Go.Dk
/-- A journal's call, seen from a world in which it was not yet there. -/
theorem Try.JChg.chg {own own1 : Nat → Prop} {w w1 w2 : World} {y x side gen e f : Nat} {s : DS} (h : Try.JChg own1 w1 w2 y x side gen e f s) (hw : Dk.Wo own w w1) (ho : ∀ k, own1 k → own k ∨ w.heap.size ≤ k) (hy : w.heap.size ≤ y) : Try.Chg own w w2 x s := by
  obtain ⟨own2, h1, h2⟩ := h.ex
  have hs := hw.size
  refine ⟨⟨own2, h1, fun k e => ?_⟩, h.wo.os.trans hw.os, h.wo.tape.trans hw.tape, h.wo.output.trans hw.output, Nat.le_trans hs h.wo.size, fun k hk hn => ?_⟩
  · rcases h2 k e with e1 | e1
    · exact ho k e1
    · exact .inr (by omega)
  · rw [h.wo.block k (by omega) (fun e1 => ?_), hw.block k hk hn]
    rcases e1 with e1 | e1
    · rcases ho k e1 with e2 | e2
      · exact hn e2
      · omega
    · omega
/-- The disk behind Format, where there was no journal. -/
def Dk.formatN (s : DS) : DS := (((s.op (.wr 0 [])).1.op .sy).1.compact (Dk.nextH 1 0 []) []).1
set_option maxRecDepth 20000 in
set_option maxHeartbeats 1000000 in
theorem Try.format_new {w : World} {own : Nat → Prop} {x : Nat} {s : DS} (h : Try.Dsk w own x s) {q : Nat} (hc : s.Can (q + 4000)) (hn : 8 ≤ s.n) (ha : Dk.Looks s 0 none) (hb : Dk.Looks s 1 none) (hfs : s.fset = false) :
    Calls Try.prog 15 #[.pointer (some ⟨x, 0, none⟩)] w fun r w' => r = .returned (.int .i64 0) ∧ Try.Chg own w w' x (Dk.formatN s) := by
  have hpw := Try.powered_any h
  rw [hc.dead] at hpw
  have hco := Try.counting_any h hc.dead hn none none ha hb
  obtain ⟨r1, hr1⟩ : ∃ r1, r1 = s.op (.wr 0 []) := ⟨_, rfl⟩
  obtain ⟨r2, hr2⟩ : ∃ r2, r2 = r1.1.op .sy := ⟨_, rfl⟩
  have e1 : r1.2 = true ∧ r1.1.fset = false := by rw [hr1]; exact op_free _ _ hfs
  have e2 : r2.2 = true ∧ r2.1.fset = false := by rw [hr2]; exact op_free _ _ e1.2
  have k1 : r1.1.Can (q + 3999) := by have := e1.1; rw [hr1] at this ⊢; exact (hc.op _ (DS.op_ok this)).2
  have k2 : r2.1.Can (q + 3998) := by have := e2.1; rw [hr2] at this ⊢; exact (k1.op _ (DS.op_ok this)).2
  have n1 : r1.1.n = s.n := by rw [hr1, DS.op_n]
  have n2 : r2.1.n = s.n := by rw [hr2, DS.op_n, n1]
  have hR : Dk.formatN s = (r2.1.compact (Dk.nextH 1 0 []) []).1 := by unfold Dk.formatN; rw [← hr1, ← hr2]
  have hwr : ∀ W, Below w.heap.size w W → Calls Try.prog 49 #[.pointer (some ⟨x, 0, none⟩), .int .i64 0, .slice none 0 0] W fun r w' => r = .returned (.bool true) ∧ Try.Chg own w w' x r1.1 := fun W hW => by
    have := Try.wrote_any (h.below hW) (m := q + 3999) hc 0 (by omega) [] (by simp) (.slice none 0 0) ⟨none, 0, rfl, .inl rfl⟩
    rw [← hr1, e1.1] at this
    exact this.mono fun r w' ⟨k1, k2⟩ => ⟨k1, Try.Chg.pre hW k2⟩
  have hsy : ∀ W, Try.Chg own w W x r1.1 → Calls Try.prog 50 #[.pointer (some ⟨x, 0, none⟩)] W fun r w' => r = .returned (.bool true) ∧ Try.Chg own w w' x r2.1 := fun W hW => by
    obtain ⟨own1, a1, a2⟩ := hW.ex
    have := Try.synced_any a1 (m := q + 3998) k1
    rw [← hr2, e2.1] at this
    exact this.mono fun r w' ⟨k1, k2⟩ => ⟨k1, Try.Chg.trans hW.wo a2 k2⟩
  have hop : ∀ W, Try.Chg own w W x r2.1 → Calls Try.prog 47 #[.pointer (some ⟨x, 0, none⟩), .agg #[.int .i64 1, .int .u32 0, .int .u32 0, .int .u32 0]] W fun r w' => ∃ y, r = .returned (.pointer (some ⟨y, 0, none⟩)) ∧ W.heap.size ≤ y ∧ Try.Jn w' y x 1 0 0 r2.1.falls ∧ Below W.heap.size W w' := fun W hW => by
    obtain ⟨own1, a1, a2⟩ := hW.ex
    exact Try.opened_any a1 ⟨1, 0, 0, 0⟩ (by show 0 < 4294967296; omega)
  have hcp : ∀ W W', Try.Chg own w W x r2.1 → Below W.heap.size W W' → ∀ y, W.heap.size ≤ y → Try.Jn W' y x 1 0 0 r2.1.falls → Calls Try.prog 48 #[.pointer (some ⟨y, 0, none⟩), .slice none 0 0] W' fun r w' => r = .returned (.int .i64 0) ∧ Try.Chg own w w' x (r2.1.compact (Dk.nextH 1 0 []) []).1 := fun W W' hW hWW y hy hj => by
    obtain ⟨own1, a1, a2⟩ := hW.ex
    have := Try.compact_ok (a1.below hWW) (q := q + 998) k2 (by omega) (by omega) (by omega) hj (fun e => by have := a1.lt _ e; omega) rfl (.slice none 0 0) [] ⟨none, 0, rfl, .inl rfl⟩ (by simp) e2.2
    have hws := hW.wo.size
    exact this.mono fun r w' ⟨k1, k2⟩ => ⟨k1, k2.chg (hW.wo.below hWW hW.wo.size) a2 (by omega)⟩
  rw [hR]
  generalize (r2.1.compact (Dk.nextH 1 0 []) []).1 = s3 at *
  generalize r2.1 = s2 at *
  generalize r1.1 = s1 at *
  clear hr1 hr2 hR e1 e2 k1 k2 n1 n2 hc ha hb hfs h
  unfold Dk.hdV Dk.heads Dk.hdO2 at hco
  go_enter Try.func15, Try.ntmps15
  go_wp2_with (first
    | (go_at_call 45; refine hpw.mono ?_; clear hpw; rintro r w2 ⟨rfl, rfl⟩)
    | (go_at_call 46; refine hco.mono ?_; clear hco; rintro r w3 ⟨rfl, h3⟩; have h3a := fun o => h3.alloc (B := w2.heap.size) h3.size o)
    | (go_at_call 49; refine (hwr _ (h3a _)).mono ?_; clear hwr; rintro r w4 ⟨rfl, h4⟩)
    | (go_at_call 50; refine (hsy _ h4).mono ?_; clear hsy; rintro r w5 ⟨rfl, h5⟩)
    | (go_at_call 47; refine (hop _ h5).mono ?_; clear hop; rintro r w6 ⟨y, rfl, hy6, hj6, h6⟩)
    | (go_at_call 48; refine (hcp _ _ h5 h6 y hy6 hj6).mono ?_; clear hcp; rintro r w7 ⟨rfl, h7⟩)
    | fail)
  go_ret
  exact ⟨rfl, h7⟩
end Go.Proofs
