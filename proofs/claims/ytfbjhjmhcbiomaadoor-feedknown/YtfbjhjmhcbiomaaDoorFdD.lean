/-
  FEED: the stable sort's own insertion sort, at counts.
-/
import Derived.Test.YtfbjhjmhcbiomaaDoorFdB
import Derived.Test.YtfbjhjmhcbiomaaDoorFdC
import Derived.Shelf.SlSortCmp.InsertionK
namespace Go.Proofs
open Go.Shelf Go.RowKit Go.Wi Go.Fd Go.Sort
def Tryd.ins_ren : Go.Shelf.Ren := ⟨fun | 20 => 54 | n => n, fun | 22 => 29 | 24 => 28 | 25 => 65 | n => n, fun n => n⟩
theorem Tryd.ins : Go.Proofs.SlLaysF0.n20 Tryd.prog Tryd.ins_ren := {
  mixed := by kernel_rfl
  f20 := ⟨Tryd.f54.name, by decide, Tryd.func54.trans (congrArg some (by kernel_rfl))⟩
  t0 := Tryd.underlying0
  a0 := Tryd.isAgg0
  z0 := Tryd.sizeOf0
  v0 := Tryd.zeroValue0
  t3 := Tryd.underlying3
  a3 := Tryd.isAgg3
  z3 := Tryd.sizeOf3
  v3 := Tryd.zeroValue3
  t4 := Tryd.underlying4
  a4 := Tryd.isAgg4
  z4 := Tryd.sizeOf4
  v4 := Tryd.zeroValue4
  t22 := Tryd.underlying29
  a22 := Tryd.isAgg29
  z22 := Tryd.sizeOf29
  v22 := Tryd.zeroValue29
  t25 := Tryd.underlying65
  a25 := Tryd.isAgg65
  z25 := Tryd.sizeOf65
  v25 := Tryd.zeroValue65 }
/-- The order by rooms, as the sort asks. -/
def Fd.ltR : Cn → Cn → Bool := ltOf cnC
theorem Tryd.eByRoom : ∀ args w, (callFunc 29 args).run Tryd.prog w = .ok (.enter 29 args) w := enters_of Tryd.func29 (by kernel_rfl) rfl
theorem Tryd.insertion_any (blk cap a b : Nat) (d : Array Cn) (w : World) (hH : HoldsK cnE 3 w blk 0 d) (hblk : blk < w.heap.size) (hab : a ≤ b) (hb : b ≤ d.size) (hsz : d.size < 4611686018427387904) :
    Calls Tryd.prog 54 #[.slice (some ⟨blk, 0, none⟩) d.size cap, .int .i64 a, .int .i64 b, .func (.func 29) #[] #[]] w fun e w' => e = .returned (.tuple #[]) ∧ ∃ n os, w' = sortWorldK cnE 3 w blk 0 n (Sort.insertionSort Fd.ltR d a b) os :=
  AnyQ.insertionSortCmpFunc Tryd.ins 3 Tryd.isAgg28 Tryd.sizeOf28 cnE cnE_len (fun x => cnE_one x) cnC 29 #[] blk 0 cap a b d w Tryd.eByRoom (fun _ _ _ _ x y => Tryd.byRoom_any x y _) hH hblk hab hb hsz
/-- From a world of the sort's to a world of the sort's. -/
theorem Tryd.insertion_w (blk cap a b : Nat) (d0 d : Array Cn) (w : World) (m : Nat) (os : Array Obj) (hH : HoldsK cnE 3 w blk 0 d0) (hblk : blk < w.heap.size) (hs : d.size = d0.size) (hab : a ≤ b) (hb : b ≤ d.size) (hsz : d.size < 4611686018427387904) :
    Calls Tryd.prog 54 #[.slice (some ⟨blk, 0, none⟩) d0.size cap, .int .i64 a, .int .i64 b, .func (.func 29) #[] #[]] (sortWorldK cnE 3 w blk 0 m d os) fun e w' => e = .returned (.tuple #[]) ∧ ∃ n os, w' = sortWorldK cnE 3 w blk 0 n (Sort.insertionSort Fd.ltR d a b) os := by
  have h1 := holdsK_sortWorldK_c cnE 3 w blk 0 d0 d m os hH hblk hs
  have h2 := Tryd.insertion_any blk cap a b d (sortWorldK cnE 3 w blk 0 m d os) h1 (Nat.lt_of_lt_of_le hblk (size_sortWorldK_c cnE 3 w blk 0 m d os)) hab hb hsz
  rw [hs] at h2
  refine h2.mono ?_
  rintro e w' ⟨rfl, n, os', rfl⟩
  refine ⟨rfl, m + n, os ++ os', ?_⟩
  exact grow_step_growK cnE 3 w os os' m n blk 0 d _ hblk (ins_sz _ _ _)
set_option maxHeartbeats 1000000 in
set_option maxRecDepth 100000 in
/-- slices.SortStableFunc of less than twenty. -/
theorem Tryd.stable_few (blk cap : Nat) (d : Array Cn) (w : World) (hH : HoldsK cnE 3 w blk 0 d) (hblk : blk < w.heap.size) (hsz : d.size < 20) :
    Calls Tryd.prog 45 #[.slice (some ⟨blk, 0, none⟩) d.size cap, .int .i64 d.size, .func (.func 29) #[] #[]] w fun e w' => e = .returned (.tuple #[]) ∧ ∃ n os, w' = sortWorldK cnE 3 w blk 0 n (stabA Fd.ltR d) os := by
  have hi := Tryd.insertion_any blk cap 0 d.size d w hH hblk (Nat.zero_le _) (Nat.le_refl _) (by omega)
  rw [stabA_few _ _ hsz]
  generalize hN : d.size = N at *
  have c1 : ¬ ((20 : Int) ≤ (N : Int)) := by omega
  have c2 : ¬ ((20 : Int) < (N : Int)) := by omega
  clear hH
  go_enter Tryd.func45, Tryd.ntmps45
  go_wp2
  refine wp_loop_rounds 1 ?_
  rw [rounds_succ]
  go_wp2_with (first
    | (go_at_call 54; refine hi.mono ?_; clear hi; rintro e w1 ⟨rfl, n, os, rfl⟩)
    | fail)
  refine wp_loop_rounds 1 ?_
  rw [rounds_succ]
  go_wp2
  go_end0
  exact ⟨rfl, n, os, rfl⟩
end Go.Proofs
