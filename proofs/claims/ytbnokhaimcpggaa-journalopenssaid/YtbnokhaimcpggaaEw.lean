/-
  Open of a disk that holds a journal.
-/
import Derived.Test.YtbnokhaimcpggaaEv
namespace Go.Proofs
open Go.RowKit Go.Dk
/-- What Open gives. -/
structure Try.Opened (w w' : World) (x : Nat) (s : DS) (H : Hd) (y : Nat) (sn rv : Value) : Prop where
  ex : ∃ g, w.heap.size ≤ g ∧ w'.heap[g]? = some (.cells (Lib.byteCells (area s.view s.n H.side)).toArray 5 (0, 0)) ∧ sn = .slice (some ⟨g, 0, none⟩) H.size H.size ∧ w'.ownsRow w.heap.size 22 1 rv (cut (area s.view s.n H.side) H.size).1.length (Dk.recCs g H.size (cut (area s.view s.n H.side) H.size).1)
  y0 : w.heap.size ≤ y
  jn : Try.Jn w' y x H.side H.gen (cut (area s.view s.n H.side) H.size).2 s.falls
  bel : Below w.heap.size w w'
set_option maxRecDepth 20000 in
set_option maxHeartbeats 1000000 in
theorem Try.open_held {w : World} {own : Nat → Prop} {x : Nat} {s : DS} (h : Try.Dsk w own x s) (hd : s.dead = false) (hn : 8 ≤ s.n) (a b : Option Hd) (ha : Dk.Looks s 0 a) (hb : Dk.Looks s 1 b) (H : Hd) (hH : Dk.heads a b = some H) (h1 : H.side ≤ 1) (h2 : H.size ≤ 64 * half s.n) :
    Calls Try.prog 16 #[.pointer (some ⟨x, 0, none⟩)] w fun r w' => ∃ y sn rv, r = .returned (.tuple #[.pointer (some ⟨y, 0, none⟩), sn, rv, .int .i64 0]) ∧ Try.Opened w w' x s H y sn rv := by
  obtain ⟨hvl, hn0, hn1⟩ := h.len
  have hhl := Dk.half_le hn1
  have hal := Dk.area_len (side := H.side) hvl (by omega) h1
  have hpw := Try.powered_any h
  rw [hd] at hpw
  have hco := Try.counting_any h hd hn a b ha hb
  rw [hH] at hco
  have hop : ∀ W, Below w.heap.size w W → Calls Try.prog 47 #[.pointer (some ⟨x, 0, none⟩), Dk.hdV H] W _ := fun W hW => Try.opened_any (h.below hW) H (by omega)
  have hsz : ∀ W, Below w.heap.size w W → Calls Try.prog 52 #[.agg #[.pointer (some ⟨x, 0, none⟩), .int .i64 H.side]] W _ := fun W hW => Try.asize_any (h.below hW) (by omega) H.side
  have hrd : ∀ W, Below w.heap.size w W → Calls Try.prog 51 #[.agg #[.pointer (some ⟨x, 0, none⟩), .int .i64 H.side], .int .i64 (64 * half s.n : Nat)] W _ := fun W hW => Try.aread_any (h.below hW) hd (by omega) H.side h1 (64 * half s.n) (Nat.le_refl _)
  rw [List.take_of_length_le (by omega)] at hrd
  obtain ⟨R, hR⟩ : ∃ R, R = area s.view s.n H.side := ⟨_, rfl⟩
  rw [← hR] at hrd hal
  have hcu : ∀ W g, Dk.Row W g R → Calls Try.prog 53 #[.slice (some ⟨g, 0, none⟩) R.length R.length, .int .i64 H.size] W _ := fun W g hg => Try.cut_any hg (by omega) H.size (by omega)
  rw [hal] at hcu
  generalize hS : 64 * half s.n = S at *
  have HR : Hid (R = area s.view s.n H.side) := hR
  have HA : Hid (R.length = S) := hal
  clear h hH ha hb hvl hR hal
  unfold Dk.hdV at hop hco
  unfold Dk.hdO2 at hco
  have q1 : (H.size : Int) ≤ (S : Int) := by omega
  go_enter Try.func16, Try.ntmps16
  go_upto_region 7 with (first
    | (go_at_call 45; refine hpw.mono ?_; clear hpw; rintro r w2 ⟨rfl, rfl⟩)
    | (go_at_call 46; refine hco.mono ?_; clear hco; rintro r w3 ⟨rfl, h3⟩; have h3a := fun o => h3.alloc (B := w2.heap.size) h3.size o)
    | (go_at_call 47; refine (hop _ (h3a _)).mono ?_; clear hop; rintro r w4 ⟨y, rfl, hy4, hj4, h4⟩)
    | fail)
  have hb4 : Below w2.heap.size w2 w4 := (h3a _).trans (h4.mono (h3a _).size)
  have hy0 : w2.heap.size ≤ y := Nat.le_trans (h3a _).size hy4
  have hyl : y < w4.heap.size := Dk.block_lt hj4
  obtain ⟨c0, c1, c2, c3, c4⟩ := hj4.c
  clear h3 h3a h4 hy4
  go_cut [9, 10] (fun r b wx => b = .bool true ∧ ∃ g, r = .slice (some ⟨g, 0, none⟩) S S ∧ w4.heap.size ≤ g ∧ wx.heap[g]? = some (.cells (Lib.byteCells R).toArray 5 (0, 0)) ∧ Below w4.heap.size w4 wx)
  case first =>
    have h44 := Below.refl w4.heap.size w4
    go_region_held3 (fun W => W.cell? ⟨y, 0, none⟩ = some (.pointer (some ⟨x, 0, none⟩)) ∧ W.cell? ⟨y, 1, none⟩ = some (.int .i64 H.side)) (first | exact ⟨c0, c1⟩ | exact ⟨Dk.cellB hb6 hyl c0, Dk.cellB hb6 hyl c1⟩ | exact ⟨Dk.cellB hb5 hyl c0, Dk.cellB hb5 hyl c1⟩) (first
      | (go_at_call 52; refine (hsz _ hb4.drew).mono ?_; clear hsz; rintro r w5 ⟨rfl, h5⟩; have hb5 : Below w4.heap.size w4 w5 := h44.drew.trans h5)
      | (go_at_call 51; refine (hrd _ (hb4.trans (hb5.mono hb4.size))).mono ?_; clear hrd; rintro r w6 ⟨g, rfl, hg6, hr6, h6⟩; have hb6 : Below w4.heap.size w4 w6 := hb5.trans (h6.mono hb5.size)))
    all_goals
      go_wp2
      go_meet
      case rel => exact ⟨rfl, g, rfl, Nat.le_trans hb5.size hg6, hr6, hb6⟩
  case rest =>
    obtain ⟨rfl, g, rfl, hg, hrow, hb6⟩ := hcut
    clear hsz hrd c0 c1 c2 c3 c4
    have hj6 := hj4.below hb6
    have hb6w := hb4.trans (hb6.mono hb4.size)
    obtain ⟨c0, c1, c2, c3, c4⟩ := hj6.c
    have q2 : (0 : Int) ≤ (H.size : Int) := by omega
    have hR6 := Dk.row_row hrow
    go_wp2
    go_quiet (fail)
    have hcu6 := hcu (wc.drewN nq) g (hR6.below (Dk.belowN wc nq))
    have hbN : Below w4.heap.size w4 (wc.drewN nq) := hb6.trans ((Dk.belowN wc nq).mono hb6.size)
    obtain ⟨E, hE⟩ : ∃ E, E = (cut R H.size).2 := ⟨_, rfl⟩
    obtain ⟨D, hD⟩ : ∃ D, D = (cut R H.size).1 := ⟨_, rfl⟩
    rw [← hE, ← hD] at hcu6
    have HE : Hid (E = (cut R H.size).2) := hE
    have HD : Hid (D = (cut R H.size).1) := hD
    have hR7 := hR6.below (Dk.belowN wc nq)
    have HRW : Hid ((wc.drewN nq).heap[g]? = some (.cells (Lib.byteCells R).toArray 5 (0, 0))) := hrow
    generalize wc.drewN nq = W6 at *
    clear hcu hE hD c0 c1 c2 c3 c4 hrow hj6 hb6w
    have hj6 := hj4.below hbN
    obtain ⟨c0, c1, c2, c3, c4⟩ := hj6.c
    go_wp2_with (first
      | (go_at_call 53; refine hcu6.mono ?_; clear hcu6; rintro r w8 ⟨v, rfl, hv8, h8⟩; have hj8 := hj6.below h8; obtain ⟨e0, e1, e2, e3, e4⟩ := hj8.c; have ef := hj8.fr 3)
      | fail)
    have hgW : g < W6.heap.size := hR7.lt
    have hyW : y < W6.heap.size := Nat.lt_of_lt_of_le hyl hbN.size
    have hb8 : Below w4.heap.size w4 w8 := hbN.trans (h8.mono hbN.size)
    have hoth := fun k (hk : k ≠ y) => Below.heap_setCell w8 ⟨y, 3, none⟩ (.int .i64 E) k hk
    have hjF : Try.Jn (w8.setCell ⟨y, 3, none⟩ (.int .i64 E)) y x H.side H.gen E s.falls := heap_setCell_same w8 y 3 _ _ (.int .i64 E) hj8
    have hbF : Below w2.heap.size w2 (w8.setCell ⟨y, 3, none⟩ (.int .i64 E)) := (hb4.trans (hb8.mono hb4.size)).setCell hy0 _
    have hRF : (w8.setCell ⟨y, 3, none⟩ (.int .i64 E)).heap[g]? = some (.cells (Lib.byteCells R).toArray 5 (0, 0)) := (hoth g (by omega)).trans ((h8.block g hgW).trans HRW.out)
    have hvF : (w8.setCell ⟨y, 3, none⟩ (.int .i64 E)).ownsRow w2.heap.size 22 1 v D.length (Dk.recCs g H.size D) := by
      have h9 := Dk.row_heap (w' := w8.setCell ⟨y, 3, none⟩ (.int .i64 E)) hv8 fun k e => hoth k (by have := (hv8.lt k e).1; omega)
      refine ⟨h9.1, h9.2.imp id ?_⟩
      rintro ⟨g9, cap, cur, e1, e2, e3⟩
      exact ⟨g9, cap, cur, e1, Nat.le_trans (Nat.le_trans hb4.size hbN.size) e2, e3⟩
    refine bodyPost_ret (v := .tuple #[.pointer (some ⟨y, 0, none⟩), .slice (some ⟨g, 0, none⟩) H.size H.size, v, .int .i64 0]) (by simp [results, Try.results16]) rfl ?_
    refine ⟨y, _, v, rfl, ⟨g, Nat.le_trans hb4.size hg, ?_, rfl, ?_⟩, hy0, ?_, hbF⟩
    · rw [← HR.out]; exact hRF
    · rw [← HR.out, ← HD.out]; exact hvF
    · rw [← HR.out, ← HE.out]; exact hjF
end Go.Proofs
