/-
  Format of a disk that holds a journal.
-/
import Derived.Test.YtbnokhaimcpggaaEw
namespace Go.Proofs
open Go.RowKit Go.Dk
set_option maxRecDepth 20000 in
set_option maxHeartbeats 1000000 in
theorem Try.format_held {w : World} {own : Nat → Prop} {x : Nat} {s : DS} (h : Try.Dsk w own x s) {q : Nat} (hc : s.Can (q + 4000)) (hn : 8 ≤ s.n) (a b : Option Hd) (ha : Dk.Looks s 0 a) (hb : Dk.Looks s 1 b) (H : Hd) (hH : Dk.heads a b = some H) (h1 : H.side ≤ 1) (h2 : H.size ≤ 64 * half s.n) (hg : H.gen < 999999999) (hfs : s.fset = false) :
    Calls Try.prog 15 #[.pointer (some ⟨x, 0, none⟩)] w fun r w' => r = .returned (.int .i64 0) ∧ Try.Chg own w w' x (s.compact (Dk.nextH H.side H.gen []) []).1 := by
  have hhl := Dk.half_le h.len.2.2
  have hpw := Try.powered_any h
  rw [hc.dead] at hpw
  have hco := Try.counting_any h hc.dead hn a b ha hb
  rw [hH] at hco
  have hop : ∀ W, Below w.heap.size w W → Calls Try.prog 47 #[.pointer (some ⟨x, 0, none⟩), Dk.hdV H] W _ := fun W hW => Try.opened_any (h.below hW) H (by omega)
  have hcp : ∀ W, Below w.heap.size w W → ∀ y, w.heap.size ≤ y → Try.Jn W y x H.side H.gen H.size s.falls → Calls Try.prog 48 #[.pointer (some ⟨y, 0, none⟩), .slice none 0 0] W fun r w' => r = .returned (.int .i64 0) ∧ Try.Chg own w w' x (s.compact (Dk.nextH H.side H.gen []) []).1 := fun W hW y hy hj => by
    have := Try.compact_ok (h.below hW) (q := q + 1000) (hc.mono (by omega)) hn h1 hg hj (fun e => by have := h.lt _ e; omega) rfl (.slice none 0 0) [] ⟨none, 0, rfl, .inl rfl⟩ (by simp) hfs
    exact this.mono fun r w' ⟨k1, k2⟩ => ⟨k1, k2.chg ((Dk.Wo.refl own w).below hW (Nat.le_refl _)) (fun k e => .inl e) hy⟩
  generalize (s.compact (Dk.nextH H.side H.gen []) []).1 = s3 at *
  clear hc ha hb hfs h hH
  unfold Dk.hdV at hop hco
  unfold Dk.hdO2 at hco
  go_enter Try.func15, Try.ntmps15
  go_wp2_with (first
    | (go_at_call 45; refine hpw.mono ?_; clear hpw; rintro r w2 ⟨rfl, rfl⟩)
    | (go_at_call 46; refine hco.mono ?_; clear hco; rintro r w3 ⟨rfl, h3⟩; have h3a := fun o => h3.alloc (B := w2.heap.size) h3.size o)
    | (go_at_call 47; refine (hop _ (h3a _)).mono ?_; clear hop; rintro r w6 ⟨y, rfl, hy6, hj6, h6⟩)
    | (go_at_call 48; refine (hcp _ ((h3a _).trans (h6.mono (h3a _).size)) y (Nat.le_trans (h3a _).size hy6) hj6).mono ?_; clear hcp; rintro r w7 ⟨rfl, h7⟩)
    | fail)
  go_ret
  exact ⟨rfl, h7⟩
end Go.Proofs
