/-
  FEED: Since, of a shelf.
-/
import Derived.Test.YtdhgpkacilcfgaaGreatDoorFdS
namespace Go.Proofs
open Go.RowKit Go.Wi Go.Fd Go.Sort
set_option maxRecDepth 20000 in
set_option maxHeartbeats 500000 in
theorem Tryz.present_v {w : World} {sb N m g cap : Nat} {v : Value} (h1 : w.heap[sb]? = some (.cells #[.int .i64 N, .slice (some ⟨g, 0, none⟩) (m + 1 : Nat) cap] 58 (0, 0))) (h2 : w.cell? ⟨g, m, none⟩ = some v) (hm2 : m ≤ 50) : Calls Tryz.prog 24 #[.pointer (some ⟨sb, 0, none⟩)] w fun e w' => e = .returned v ∧ ∃ q, w' = w.drewN q := by
  have hmx : Tryz.prog.follows .mixedOrders = true := by kernel_rfl
  have c0 : ∀ q, (w.drewN q).cell? ⟨sb, 1, none⟩ = some (.slice (some ⟨g, 0, none⟩) (m + 1) cap) := fun q => cell_of_row (w.drewN q) sb 1 _ _ _ h1
  have c1 : ∀ q, (w.drewN q).cell? ⟨g, m, none⟩ = some v := fun _ => h2
  clear h1 h2
  go_enter Tryz.func24, Tryz.ntmps24
  go_wp2_with (fail)
  go_quiet (fail)
  go_wp2
  go_ret
  exact ⟨rfl, nq, rfl⟩
/-- What the calls of one region may lean on. -/
structure Tryz.Reg (w : World) (sb N : Nat) (v : Value) (l : List Cn) : Prop where
  nm : w.cell? ⟨sb, 0, none⟩ = some (.int .i64 (N : Int))
  sbl : sb < w.heap.size
  pr : ∀ W, Below w.heap.size w W → Calls Tryz.prog 24 #[.pointer (some ⟨sb, 0, none⟩)] W fun e w' => e = .returned v ∧ Below W.heap.size W w' ∧ w'.cell? ⟨sb, 0, none⟩ = some (.int .i64 (N : Int)) ∧ Below w.heap.size w w'
  vl : Cs w v l ∧ (∀ k, v.ownBlock = some k → k < w.heap.size) ∧ l.length ≤ 4398046511104
  pl : ∀ W, Below w.heap.size w W → Calls Tryz.prog 25 #[.int .i64 (N : Int)] W fun e w' => e = .returned (.string (Fd.fmt N)) ∧ Below W.heap.size W w' ∧ w'.cell? ⟨sb, 0, none⟩ = some (.int .i64 (N : Int)) ∧ Below w.heap.size w w'
theorem Tryz.Sf.reg {w : World} {own : Nat → Prop} {sb N : Nat} {S : List (List Cn)} (h : Tryz.Sf w own sb N S) (hT : Tryz.Tb w) : ∃ v, Tryz.Reg w sb N v (S.getLast h.pos) := by
  obtain ⟨g, cap, v, h1, h2, h3, h4⟩ := h.last
  obtain ⟨m, hm⟩ : ∃ m, S.length = m + 1 := ⟨S.length - 1, by have := Fd.len_pos h.pos; omega⟩
  have hm2 : m ≤ 50 := by have := h.len; omega
  rw [hm] at h1
  rw [hm, Nat.add_sub_cancel] at h2
  have c0 : w.cell? ⟨sb, 0, none⟩ = some (.int .i64 (N : Int)) := cell_of_row w sb 0 _ _ _ h1
  have hsb := block_lt h1
  have hg : g < w.heap.size := by
    obtain ⟨g', cap', vs, k1, k2, k3, k4, _⟩ := h.ex
    rw [hm] at k1
    rw [h1] at k1
    simp at k1
    rw [k1.1]
    exact h.lt g' k4
  have step : ∀ {W w' : World}, Below w.heap.size w W → Below W.heap.size W w' → Below W.heap.size W w' ∧ w'.cell? ⟨sb, 0, none⟩ = some (.int .i64 (N : Int)) ∧ Below w.heap.size w w' := fun {W w'} k1 k2 => by
    have k3 := k1.trans (k2.mono k1.size)
    exact ⟨k2, (k3.cell (p := ⟨sb, 0, none⟩) hsb).trans c0, k3⟩
  refine ⟨v, c0, hsb, fun W hW => ?_, ⟨h3, fun k e => h.lt k (h4 k e).1, h.few _ (List.getLast_mem h.pos)⟩, fun W hW => ?_⟩
  · refine (Tryz.present_v ((hW.block sb hsb).trans h1) ((hW.cell (p := ⟨g, m, none⟩) hg).trans h2) hm2).mono ?_
    rintro e w' ⟨rfl, q, rfl⟩
    exact ⟨rfl, step hW (belowN (Below.refl _ W) q)⟩
  · refine (Tryz.placeOf_any N (by have := h.most; omega) W (hT.past hW)).mono ?_
    rintro e w' ⟨rfl, hb⟩
    exact ⟨rfl, step hW hb⟩
theorem Fd.fmt_ne (n : Nat) : Fd.fmt n ≠ ⟨#[]⟩ := by
  intro e
  have h1 : (Lib.itoa (n : Int)).toArray = #[] := congrArg ByteArray.data e
  have h2 : Lib.itoa (n : Int) = [] := by simpa using h1
  unfold Lib.itoa at h2
  rw [if_neg (by omega)] at h2
  exact FdP.dec_ne _ h2
theorem Fd.at_empty (n : Nat) : ¬ Fd.At ⟨#[]⟩ n := fun h => Fd.fmt_ne n h.2.symm
set_option maxRecDepth 20000 in
set_option maxHeartbeats 500000 in
theorem Tryz.since_err {w : World} {own : ByteArray → Nat → Prop} {p : ByteArray → Nat} {hb mb n : Nat} {F : ByteArray → Option Sh} (h : Tryz.Hb w own p hb mb n F) (hT : Tryz.Tb w) (u : ByteArray) (hu : u.size ≤ maxLen) (s : ByteArray) (hs : s.size ≤ 281474976710656) (hne : s ≠ ⟨#[]⟩) (hno : ∀ k, Fd.At s k → ((F u).getD sh0).1 < k) :
    Calls Tryz.prog 8 #[.pointer (some ⟨hb, 0, none⟩), .string u, .string s] w fun e w' => e = .returned (.tuple #[.slice none 0 0, .slice none 0 0, .bool false, .string ⟨#[]⟩, .int .i64 200]) ∧ Below w.heap.size w w' := by
  have hsh := Tryz.shelf_any h u hu
  have hq : (s.toList == ([] : List UInt8)) = false := by
    rw [beq_eq_false_iff_ne]
    intro e
    exact hne (toList_inj (by rw [e, ByteArray.toList_eq]))
  have HT : Hid (Tryz.Tb w) := hT
  have hkn : ∀ {w1 : World} {own0 : Nat → Prop} {sb : Nat}, Tryz.Sf w1 own0 sb ((F u).getD sh0).1 ((F u).getD sh0).2 → Tryz.Tb w1 → Calls Tryz.prog 21 #[.pointer (some ⟨sb, 0, none⟩), .string s] w1 fun e w' => e = .returned (.bool false) ∧ Below w1.heap.size w1 w' := by
    intro w1 own0 sb hS hT1
    by_cases hk : ∃ k, Fd.At s k
    · obtain ⟨k, hk⟩ := hk
      have := Tryz.knows_at hS hT1 hk
      rwa [decide_eq_false (by have := hno k hk; omega)] at this
    · exact Tryz.knows_no hT1 (fun k e => hk ⟨k, e⟩) hs
  clear h hT hno hne hs
  go_enter Tryz.func8, Tryz.ntmps8
  go_upto_region 2 with (first
    | (go_at_call 18; refine hsh.mono ?_; clear hsh; rintro e w1 ⟨sb, own0, rfl, hS, ho1, ho2, ho3, hb1⟩)
    | fail)
  have hk := hkn hS (HT.out.past hb1)
  clear hkn hS ho1 ho2 ho3
  go_wp2_with (first
    | (go_at_call 21; refine hk.mono ?_; clear hk; rintro e w2 ⟨rfl, hb2⟩)
    | fail)
  refine bodyPost_ret (v := .tuple #[.slice none 0 0, .slice none 0 0, .bool false, .string ⟨#[]⟩, .int .i64 200]) (by simp [results, Tryz.results8, go_sem]) rfl ?_
  exact ⟨rfl, hb1.trans (hb2.mono hb1.size)⟩
end Go.Proofs
