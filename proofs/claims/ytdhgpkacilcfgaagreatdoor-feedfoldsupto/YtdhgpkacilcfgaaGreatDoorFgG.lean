/-
  FEED: slices.Sorted of texts; Fold.
-/
import Derived.Test.YtdhgpkacilcfgaaGreatDoorFgF
import Derived.Test.YtdhgpkacilcfgaaGreatDoorFfA
namespace Go.Proofs
open Go.RowKit Go.Wi Go.Fd Go.Sort Go.Maps
set_option maxRecDepth 20000 in
theorem Tryz.insT_none (ad : Option Addr) (cap : Nat) (w : World) : Calls Tryz.prog 69 #[.slice ad 0 cap, .int .i64 0, .int .i64 0] w fun e w' => e = .returned (.tuple #[]) ∧ w' = w := by
  go_enter Tryz.func69, Tryz.ntmps69
  go_wp2
  go_loopw [6] (fun iv wr => iv = .int .i64 1 ∧ wr = w) (fun _ _ => 0)
  case atStart => exact ⟨rfl, rfl⟩
  case round =>
    obtain ⟨rfl, rfl⟩ := hrel
    go_wp2
    go_end0
    exact ⟨rfl, rfl⟩
set_option maxRecDepth 20000 in
set_option maxHeartbeats 1000000 in
theorem Tryz.pdqT_none (ad : Option Addr) (cap : Nat) (c : Int) (w : World) : Calls Tryz.prog 57 #[.slice ad 0 cap, .int .i64 0, .int .i64 0, .int .i64 c] w fun e w' => e = .returned (.tuple #[]) ∧ w' = w := by
  have hi := Tryz.insT_none ad cap w
  go_enter Tryz.func57, Tryz.ntmps57
  go_wp2
  go_loopw [1, 2, 3, 8, 9, 10] (fun a b _ _ _ _ wr => a = .int .i64 0 ∧ b = .int .i64 0 ∧ wr = w) (fun _ _ _ _ _ _ _ => 0)
  case atStart => exact ⟨rfl, rfl, rfl⟩
  case round =>
    obtain ⟨rfl, rfl, rfl⟩ := hrel
    go_wp2_with (first
      | (go_at_call 69; refine hi.mono ?_; clear hi; rintro e w1 ⟨rfl, rfl⟩)
      | fail)
    refine bodyPost_ret (results_none rfl _ _ _) rfl ?_
    exact ⟨rfl, rfl⟩
set_option maxRecDepth 20000 in
theorem Tryz.sortT_none (ad : Option Addr) (cap : Nat) (w : World) : Calls Tryz.prog 48 #[.slice ad 0 cap] w fun e w' => e = .returned (.tuple #[]) ∧ w' = w := by
  have hl := Tryz.bits_Len 0 w (by decide) (by decide)
  have hp := fun c => Tryz.pdqT_none ad cap c w
  go_enter Tryz.func48, Tryz.ntmps48
  go_wp2_with (first
    | (go_at_call 58; refine hl.mono ?_; clear hl; rintro e w1 ⟨rfl, rfl⟩)
    | (go_at_call 57; refine (hp _).mono ?_; clear hp; rintro e w1 ⟨rfl, rfl⟩)
    | fail)
  go_end0
  exact ⟨rfl, rfl⟩
set_option maxRecDepth 20000 in
set_option maxHeartbeats 1000000 in
theorem Tryz.sorted_any {w : World} {V : Value} {l : List ByteArray} {Bs : Nat} (hBs : w.cell? ⟨Bs, 0, none⟩ = some V) (hBl : Bs < w.heap.size) (h : Ts w V l) (hV : ∀ k, V.ownBlock = some k → k < w.heap.size) (hl : l.length ≤ 4398046511104) :
    Calls Tryz.prog 29 #[.func (.func 49) #[] #[.pointer (some ⟨Bs, 0, none⟩)]] w fun e w' => ∃ v, e = .returned v ∧ w'.ownsRow w.heap.size 9 1 v l.length ((sortT l).map .string) ∧ Below w.heap.size w w' := by
  have hs := Tryz.collect_any hBs hBl h hV hl
  have HL : Hid (l.length ≤ 4398046511104) := hl
  clear hBs hBl h hV hl
  go_enter Tryz.func29, Tryz.ntmps29
  go_upto_region 2 with (first
    | (go_at_call 47; refine hs.mono ?_; clear hs; rintro e w1 ⟨V1, rfl, hr1, hb1⟩)
    | fail)
  rcases hr1.2 with ⟨rfl, hz⟩ | ⟨g, cap, cur, rfl, hbase, hgb, r1, r2, r3, r4⟩
  · have e : l = [] := List.eq_nil_of_length_eq_zero hz
    subst e
    have hso := Tryz.sortT_none none 0 w1
    go_wp2_with (first
      | (go_at_call 48; refine hso.mono ?_; clear hso; rintro e w2 ⟨rfl, rfl⟩)
      | fail)
    go_ret
    exact ⟨_, rfl, by simpa [sortT] using hr1, hb1⟩
  · have hlen : (l.map asL).length = l.length := List.length_map _
    have hgl := block_lt hgb
    have hH : Holds encStr w1 g 0 (l.map asL).toArray := holds_of_block hgb (by rw [hlen, ← r4, Nat.mul_one])
    have hso := Tryz.slices_Sort_string g 0 cap (l.map asL) w1 hH hgl (by rw [hlen]; have := HL.out; omega)
    rw [hlen] at hso
    clear hr1
    go_wp2_with (first
      | (go_at_call 48; refine hso.mono ?_; clear hso; rintro e w2 ⟨rfl, nn, os, rfl⟩)
      | fail)
    go_ret
    have hrow := ownsRow_sorted (n := nn) (os := os) (ss := l.map asL) (ts := (l.map asL).mergeSort fun x y => decide (x ≤ y)) (by simp) hbase hgb (by rw [hlen]; exact r1) r2 r3
    rw [hlen, sortT_map] at hrow
    exact ⟨_, rfl, hrow, hb1.grown (grownBy_sorted _) hb1.size (fun j hj => by cases hj; exact hbase)⟩
end Go.Proofs
