/-
  FEED: the stable sort's own insertion sort, at counts.
-/
import Derived.Test.YtdhgpkacilcfgaaGreatDoorFdB
import Derived.Test.YtdhgpkacilcfgaaGreatDoorFdC
import Derived.Shelf.SlSortCmp.InsertionK
namespace Go.Proofs
open Go.Shelf Go.RowKit Go.Wi Go.Fd Go.Sort
def Tryz.ins_ren : Go.Shelf.Ren := ⟨fun | 20 => 60 | n => n, fun | 22 => 22 | 24 => 39 | 25 => 68 | n => n, fun n => n⟩
theorem Tryz.ins : Go.Proofs.SlLaysF0.n20 Tryz.prog Tryz.ins_ren := {
  mixed := by kernel_rfl
  f20 := ⟨Tryz.f60.name, by decide, Tryz.func60.trans (congrArg some (by kernel_rfl))⟩
  t0 := Tryz.underlying0
  a0 := Tryz.isAgg0
  z0 := Tryz.sizeOf0
  v0 := Tryz.zeroValue0
  t3 := Tryz.underlying3
  a3 := Tryz.isAgg3
  z3 := Tryz.sizeOf3
  v3 := Tryz.zeroValue3
  t4 := Tryz.underlying4
  a4 := Tryz.isAgg4
  z4 := Tryz.sizeOf4
  v4 := Tryz.zeroValue4
  t22 := Tryz.underlying22
  a22 := Tryz.isAgg22
  z22 := Tryz.sizeOf22
  v22 := Tryz.zeroValue22
  t25 := Tryz.underlying68
  a25 := Tryz.isAgg68
  z25 := Tryz.sizeOf68
  v25 := Tryz.zeroValue68 }
/-- The order by rooms, as the sort asks. -/
def Fd.ltR : Cn → Cn → Bool := ltOf cnC
theorem Tryz.eByRoom : ∀ args w, (callFunc 33 args).run Tryz.prog w = .ok (.enter 33 args) w := enters_of Tryz.func33 (by kernel_rfl) rfl
theorem Tryz.insertion_any (blk cap a b : Nat) (d : Array Cn) (w : World) (hH : HoldsK cnE 3 w blk 0 d) (hblk : blk < w.heap.size) (hab : a ≤ b) (hb : b ≤ d.size) (hsz : d.size < 4611686018427387904) :
    Calls Tryz.prog 60 #[.slice (some ⟨blk, 0, none⟩) d.size cap, .int .i64 a, .int .i64 b, .func (.func 33) #[] #[]] w fun e w' => e = .returned (.tuple #[]) ∧ ∃ n os, w' = sortWorldK cnE 3 w blk 0 n (Sort.insertionSort Fd.ltR d a b) os :=
  AnyQ.insertionSortCmpFunc Tryz.ins 3 Tryz.isAgg39 Tryz.sizeOf39 cnE cnE_len (fun x => cnE_one x) cnC 33 #[] blk 0 cap a b d w Tryz.eByRoom (fun _ _ _ _ x y => Tryz.byRoom_any x y _) hH hblk hab hb hsz
/-- From a world of the sort's to a world of the sort's. -/
theorem Tryz.insertion_w (blk cap a b : Nat) (d0 d : Array Cn) (w : World) (m : Nat) (os : Array Obj) (hH : HoldsK cnE 3 w blk 0 d0) (hblk : blk < w.heap.size) (hs : d.size = d0.size) (hab : a ≤ b) (hb : b ≤ d.size) (hsz : d.size < 4611686018427387904) :
    Calls Tryz.prog 60 #[.slice (some ⟨blk, 0, none⟩) d0.size cap, .int .i64 a, .int .i64 b, .func (.func 33) #[] #[]] (sortWorldK cnE 3 w blk 0 m d os) fun e w' => e = .returned (.tuple #[]) ∧ ∃ n os, w' = sortWorldK cnE 3 w blk 0 n (Sort.insertionSort Fd.ltR d a b) os := by
  have h1 := holdsK_sortWorldK_c cnE 3 w blk 0 d0 d m os hH hblk hs
  have h2 := Tryz.insertion_any blk cap a b d (sortWorldK cnE 3 w blk 0 m d os) h1 (Nat.lt_of_lt_of_le hblk (size_sortWorldK_c cnE 3 w blk 0 m d os)) hab hb hsz
  rw [hs] at h2
  refine h2.mono ?_
  rintro e w' ⟨rfl, n, os', rfl⟩
  refine ⟨rfl, m + n, os ++ os', ?_⟩
  exact grow_step_growK cnE 3 w os os' m n blk 0 d _ hblk (ins_sz _ _ _)
set_option maxHeartbeats 1000000 in
set_option maxRecDepth 100000 in
/-- slices.SortStableFunc of less than twenty. -/
theorem Tryz.stable_few (blk cap : Nat) (d : Array Cn) (w : World) (hH : HoldsK cnE 3 w blk 0 d) (hblk : blk < w.heap.size) (hsz : d.size < 20) :
    Calls Tryz.prog 51 #[.slice (some ⟨blk, 0, none⟩) d.size cap, .int .i64 d.size, .func (.func 33) #[] #[]] w fun e w' => e = .returned (.tuple #[]) ∧ ∃ n os, w' = sortWorldK cnE 3 w blk 0 n (stabA Fd.ltR d) os := by
  have hi := Tryz.insertion_any blk cap 0 d.size d w hH hblk (Nat.zero_le _) (Nat.le_refl _) (by omega)
  rw [stabA_few _ _ hsz]
  generalize hN : d.size = N at *
  have c1 : ¬ ((20 : Int) ≤ (N : Int)) := by omega
  have c2 : ¬ ((20 : Int) < (N : Int)) := by omega
  clear hH
  go_enter Tryz.func51, Tryz.ntmps51
  go_wp2
  refine wp_loop_rounds 1 ?_
  rw [rounds_succ]
  go_wp2_with (first
    | (go_at_call 60; refine hi.mono ?_; clear hi; rintro e w1 ⟨rfl, n, os, rfl⟩)
    | fail)
  refine wp_loop_rounds 1 ?_
  rw [rounds_succ]
  go_wp2
  go_end0
  exact ⟨rfl, n, os, rfl⟩
end Go.Proofs
