/-
  FEED: knows, find.
-/
import Derived.Test.YtdhgpkacilcfgaaGreatDoorFdR
namespace Go.Proofs
open Go.RowKit Go.Wi Go.Fd Go.Sort
set_option maxRecDepth 20000 in
set_option maxHeartbeats 500000 in
theorem Tryz.knows_at {w : World} {own : Nat → Prop} {sb N : Nat} {S : List (List Cn)} (h : Tryz.Sf w own sb N S) (hT : Tryz.Tb w) {s : ByteArray} {n : Nat} (hn : Fd.At s n) :
    Calls Tryz.prog 21 #[.pointer (some ⟨sb, 0, none⟩), .string s] w fun e w' => e = .returned (.bool (decide (n ≤ N))) ∧ Below w.heap.size w w' := by
  have hq := Tryz.numberAt_yes hn w hT
  obtain ⟨g, cap, v, h1, hx1, hx2, hx3⟩ := h.last
  clear hx1 hx2 hx3
  have HB : Hid _ := h1
  have hsb := block_lt h1
  clear h h1 hT
  go_enter Tryz.func21, Tryz.ntmps21
  go_wp2_with (first
    | (go_at_call 42; refine hq.mono ?_; clear hq; rintro e w1 ⟨rfl, hb1⟩; have c0 : w1.cell? ⟨sb, 0, none⟩ = some (.int .i64 N) := cell_of_row w1 sb 0 _ _ _ ((hb1.block sb hsb).trans HB.out))
    | fail)
  go_ret
  exact ⟨rfl, hb1⟩
set_option maxRecDepth 20000 in
set_option maxHeartbeats 500000 in
theorem Tryz.knows_no {w : World} {sb : Nat} (hT : Tryz.Tb w) {s : ByteArray} (hn : ∀ n, ¬ Fd.At s n) (hs : s.size ≤ 281474976710656) :
    Calls Tryz.prog 21 #[.pointer (some ⟨sb, 0, none⟩), .string s] w fun e w' => e = .returned (.bool false) ∧ Below w.heap.size w w' := by
  have hq := Tryz.numberAt_no hn hs w hT
  clear hT hn hs
  go_enter Tryz.func21, Tryz.ntmps21
  go_wp2_with (first
    | (go_at_call 42; refine hq.mono ?_; clear hq; rintro e w1 ⟨rfl, hb1⟩)
    | fail)
  go_ret
  exact ⟨rfl, hb1⟩
set_option maxRecDepth 20000 in
set_option maxHeartbeats 500000 in
theorem Tryz.find_none {w : World} {sb : Nat} (hT : Tryz.Tb w) {s : ByteArray} (hn : ∀ n, ¬ Fd.At s n) (hs : s.size ≤ 281474976710656) :
    Calls Tryz.prog 22 #[.pointer (some ⟨sb, 0, none⟩), .string s] w fun e w' => e = .returned (.tuple #[.slice none 0 0, .bool false]) ∧ Below w.heap.size w w' := by
  have hq := Tryz.numberAt_no hn hs w hT
  clear hT hn hs
  go_enter Tryz.func22, Tryz.ntmps22
  go_wp2_with (first
    | (go_at_call 42; refine hq.mono ?_; clear hq; rintro e w1 ⟨rfl, hb1⟩)
    | fail)
  go_ret2
  exact ⟨rfl, hb1⟩
set_option maxRecDepth 20000 in
set_option maxHeartbeats 500000 in
theorem Tryz.find_old {w : World} {own : Nat → Prop} {sb N : Nat} {S : List (List Cn)} (h : Tryz.Sf w own sb N S) (hT : Tryz.Tb w) {s : ByteArray} {n : Nat} (hn : Fd.At s n) (ho : n < N - 50 ∨ N < n) :
    Calls Tryz.prog 22 #[.pointer (some ⟨sb, 0, none⟩), .string s] w fun e w' => e = .returned (.tuple #[.slice none 0 0, .bool false]) ∧ Below w.heap.size w w' := by
  have hq := Tryz.numberAt_yes hn w hT
  obtain ⟨g, cap, v, h1, hx1, hx2, hx3⟩ := h.last
  clear hx1 hx2 hx3
  have HB : Hid _ := h1
  have HS : Hid (Tryz.Sf w own sb N S) := h
  have hsb := block_lt h1
  clear h h1 hT
  by_cases ho1 : n < N - 50
  · have k1 : (n : Int) < ((N - 50 : Nat) : Int) := by omega
    clear ho
    generalize hM : ((N - 50 : Nat) : Int) = M at *
    go_enter Tryz.func22, Tryz.ntmps22
    go_wp2_with (first
      | (go_at_call 42; refine hq.mono ?_; clear hq; rintro e w1 ⟨rfl, hb1⟩)
      | (go_at_call 43; refine (Tryz.oldest_any (HS.out.below hb1 (Nat.le_refl _))).mono ?_; rw [hM]; rintro e w2 ⟨rfl, rfl⟩)
      | fail)
    go_ret2
    exact ⟨rfl, hb1⟩
  · have k1 : ¬ (n : Int) < ((N - 50 : Nat) : Int) := by omega
    have k2 : (N : Int) < (n : Int) := by omega
    clear ho
    generalize hM : ((N - 50 : Nat) : Int) = M at *
    go_enter Tryz.func22, Tryz.ntmps22
    go_wp2_with (first
      | (go_at_call 42; refine hq.mono ?_; clear hq; rintro e w1 ⟨rfl, hb1⟩; have c0 : w1.cell? ⟨sb, 0, none⟩ = some (.int .i64 N) := cell_of_row w1 sb 0 _ _ _ ((hb1.block sb hsb).trans HB.out))
      | (go_at_call 43; refine (Tryz.oldest_any (HS.out.below hb1 (Nat.le_refl _))).mono ?_; rw [hM]; rintro e w2 ⟨rfl, hw2⟩; subst hw2)
      | fail)
    go_ret2
    exact ⟨rfl, hb1⟩
/-- A kept sheet, where it lies. -/
theorem Tryz.Sf.at {w : World} {own : Nat → Prop} {sb N : Nat} {S : List (List Cn)} (h : Tryz.Sf w own sb N S) {j : Nat} (hj : j < S.length) : ∃ g cap v, w.heap[sb]? = some (.cells #[.int .i64 N, .slice (some ⟨g, 0, none⟩) S.length cap] 58 (0, 0)) ∧ g < w.heap.size ∧ w.cell? ⟨g, j, none⟩ = some v ∧ Cs w v S[j] ∧ ∀ k, v.ownBlock = some k → own k := by
  obtain ⟨g, cap, vs, h1, h2, h3, h4, h5, h6⟩ := h.ex
  have hvs : vs.length = S.length := by have := h2.1; simpa using this
  refine ⟨g, cap, slV (vs[j]'(by omega)), h1, (h2.lt g rfl).2, ?_, (h6 j (by omega) hj).1, fun k e => ((h6 j (by omega) hj).2 k e).1⟩
  have := h2.cells (g := g) rfl j (slV (vs[j]'(by omega))) (by rw [List.getElem?_map, List.getElem?_eq_getElem (by omega)]; rfl)
  rw [Addr.add_mid, Nat.zero_add] at this
  exact this
set_option maxRecDepth 20000 in
set_option maxHeartbeats 500000 in
theorem Tryz.find_kept {w : World} {own : Nat → Prop} {sb N : Nat} {S : List (List Cn)} (h : Tryz.Sf w own sb N S) (hT : Tryz.Tb w) {s : ByteArray} {n : Nat} (hn : Fd.At s n) (h1 : N - 50 ≤ n) (h2 : n ≤ N) (hj : n - (N - 50) < S.length) :
    Calls Tryz.prog 22 #[.pointer (some ⟨sb, 0, none⟩), .string s] w fun e w' => ∃ v, e = .returned (.tuple #[v, .bool true]) ∧ Cs w v S[n - (N - 50)] ∧ (∀ k, v.ownBlock = some k → own k) ∧ Below w.heap.size w w' := by
  have hq := Tryz.numberAt_yes hn w hT
  obtain ⟨g, cap, v, b1, b2, b3, b4, b5⟩ := h.at hj
  have HB : Hid _ := b1
  have HS : Hid (Tryz.Sf w own sb N S) := h
  have HV : Hid (Cs w v S[n - (N - 50)] ∧ ∀ k, v.ownBlock = some k → own k) := ⟨b4, b5⟩
  have HC : Hid (w.cell? ⟨g, n - (N - 50), none⟩ = some v ∧ g < w.heap.size) := ⟨b3, b2⟩
  have hsb := block_lt b1
  have hmx : Tryz.prog.follows .mixedOrders = true := by kernel_rfl
  obtain ⟨j, hje⟩ : ∃ j, n - (N - 50) = j := ⟨_, rfl⟩
  have hd : (n : Int) - ((N - 50 : Nat) : Int) = (j : Int) := by omega
  have k1 : ¬ (n : Int) < ((N - 50 : Nat) : Int) := by omega
  have k2 : ¬ (N : Int) < (n : Int) := by omega
  have hmost := h.most
  have hjl : j < S.length := by omega
  have hjz : (j : Int) < (S.length : Int) := by omega
  rw [hje] at HC
  have HJ : Hid (n - (N - 50) = j) := hje
  obtain ⟨M, hM⟩ : ∃ M : Int, ((N - 50 : Nat) : Int) = M := ⟨_, rfl⟩
  have hM0 : 0 ≤ M := by omega
  have hMn : M ≤ (n : Int) := by omega
  rw [hM] at hd k1
  have hw : IntKind.i64.wrap ((n : Int) - M) = (j : Int) := by rw [hd, IntKind.wrap_i64]; have := h.len; omega
  have HM : Hid (((N - 50 : Nat) : Int) = M) := hM
  clear h b1 b2 b3 b4 b5 hT h1 h2 hn hM hje
  go_enter Tryz.func22, Tryz.ntmps22
  go_upto_region 4 with (first
    | (go_at_call 42; refine hq.mono ?_; clear hq; rintro e w1 ⟨rfl, hb1⟩; have c0 : w1.cell? ⟨sb, 0, none⟩ = some (.int .i64 N) := cell_of_row w1 sb 0 _ _ _ ((hb1.block sb hsb).trans HB.out))
    | (go_at_call 43; refine (Tryz.oldest_any (HS.out.below hb1 (Nat.le_refl _))).mono ?_; rw [HM.out]; rintro e w2 ⟨rfl, hw2⟩; subst hw2)
    | fail)
  have hold : ∀ q, Calls Tryz.prog 43 #[.pointer (some ⟨sb, 0, none⟩)] (w2.drewN q) fun e w' => e = .returned (.int .i64 M) ∧ ∃ q', w' = (w2.drewN q).drewN q' := fun q => (Tryz.oldest_any ((HS.out.below hb1 (Nat.le_refl _)).draw q)).mono fun e w' ⟨e1, e2⟩ => ⟨by rw [e1, HM.out], 0, by rw [e2]; rfl⟩
  have cS : ∀ q, (w2.drewN q).cell? ⟨sb, 1, none⟩ = some (.slice (some ⟨g, 0, none⟩) S.length cap) := fun q => cell_of_row (w2.drewN q) sb 1 _ _ _ ((hb1.block sb hsb).trans HB.out)
  have cJ : ∀ q, (w2.drewN q).cell? ⟨g, j, none⟩ = some v := fun q => (hb1.cell (p := ⟨g, j, none⟩) HC.out.2).trans HC.out.1
  clear c0
  go_quiet (first | (go_at_call 43; exact Calls.quiet_of (hold _)))
  go_wp2
  go_ret2
  exact ⟨v, rfl, HV.out.1, HV.out.2, belowN hb1 _⟩
end Go.Proofs
