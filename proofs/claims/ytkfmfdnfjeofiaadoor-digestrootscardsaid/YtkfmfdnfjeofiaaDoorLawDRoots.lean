/-
  DigestRoots, walked.
-/
import Derived.Test.YtkfmfdnfjeofiaaDoorIu
import Derived.Test.YtkfmfdnfjeofiaaDoorHu
namespace Go.Proofs
open Go.RowKit Go.Wi Go.Dg
theorem Dg.rootsEnd : (⟨(hex (Dg.sum [])).toArray⟩ : ByteArray) = ⟨#[101, 51, 98, 48, 99, 52, 52, 50, 57, 56, 102, 99, 49, 99, 49, 52, 57, 97, 102, 98, 102, 52, 99, 56, 57, 57, 54, 102, 98, 57, 50, 52, 50, 55, 97, 101, 52, 49, 101, 52, 54, 52, 57, 98, 57, 51, 52, 99, 97, 52, 57, 53, 57, 57, 49, 98, 55, 56, 53, 50, 98, 56, 53, 53]⟩ := by kernel_rfl
theorem Dg.bs_nil (w : World) : Bs w (.slice none 0 0) [] := ⟨none, 0, rfl, Nat.le_refl _, fun _ => rfl, .inl rfl⟩
set_option maxRecDepth 20000 in
set_option maxHeartbeats 1000000 in
theorem Tryd.digestRootsWalk (w : World) (hT : Tryd.Tq w) :
    Calls Tryd.prog 5 #[] w fun e w' => e = .returned (.bool true) ∧ Below w.heap.size w w' := by
  have HT : Hid _ := hT
  have hsh := Tryd.shown_any w hT
  obtain ⟨M, hM⟩ : ∃ M, M = Dg.sum [] := ⟨_, rfl⟩
  have hMl : M.length = 32 := by rw [hM]; exact Dg.sum_len _
  have l32 : (Lib.byteCells M).length = 32 := by rw [byteCells_len]; exact hMl
  have HM : Hid (M = Dg.sum []) := hM
  clear hT hM
  go_enter Tryd.func5, Tryd.ntmps5
  go_upto_region 5 with (first
    | (go_at_call 9; refine hsh.mono ?_; clear hsh; rintro z w1 ⟨rfl, hb1⟩; have HB1 : Hid _ := hb1; clear hb1; have hre := Tryd.reckoned_any w1)
    | (go_at_call 15; refine hre.mono ?_; clear hre; rintro z w2 ⟨rfl, hb2⟩; have HB2 : Hid (Below w.heap.size w w2) := HB1.out.trans (hb2.mono HB1.out.size); clear hb2)
    | fail)
  have hs := Tryd.sum_any (w := w2) (HT.out.below HB2.out HT.out.sz) (Dg.bs_nil w2) (fun k e => by cases e) (by decide)
  rw [← HM.out] at hs
  go_wp2_with (fail)
  refine hs.mono ?_
  clear hs
  rintro z w3 ⟨rfl, hb3⟩
  have HB3 : Hid (Below w.heap.size w w3) := HB2.out.trans (hb3.mono HB2.out.size)
  clear hb3
  have st3 := Tryd.new32 w3 M hMl
  go_upto_region 6 with (fail)
  obtain ⟨w4, hw4⟩ : ∃ w4, w4 = w3.alloc (.cells (Lib.byteCells M).toArray 32) := ⟨_, rfl⟩
  have H4 : Hid (Dg.Br 32 w4 w3.heap.size M ∧ Below w.heap.size w w4) := by
    rw [hw4]
    exact ⟨heap_alloc_new w3 _, HB3.out.alloc HB3.out.size _⟩
  rw [← hw4]
  clear hw4 st3 HB3 HB2 HB1
  have hx1 : Calls Tryd.prog 12 #[.slice (some ⟨w3.heap.size, 0, none⟩) 32 32] w4 fun e w' => e = .returned (.string ⟨#[101, 51, 98, 48, 99, 52, 52, 50, 57, 56, 102, 99, 49, 99, 49, 52, 57, 97, 102, 98, 102, 52, 99, 56, 57, 57, 54, 102, 98, 57, 50, 52, 50, 55, 97, 101, 52, 49, 101, 52, 54, 52, 57, 98, 57, 51, 52, 99, 97, 52, 57, 53, 57, 57, 49, 98, 55, 56, 53, 50, 98, 56, 53, 53]⟩) ∧ Below w4.heap.size w4 w' := by
    have h1 := H4.out.1.bs 32 32 (by omega) (Nat.le_refl _)
    rw [List.take_of_length_le (by omega)] at h1
    have h2 := Tryd.hex_any (w := w4) h1 (fun k e => by cases e; exact H4.out.1.lt) (by omega)
    rw [HM.out, Dg.rootsEnd] at h2
    exact h2
  go_wp2_with (fail)
  refine hx1.mono ?_
  clear hx1
  rintro z w5 ⟨rfl, hb5⟩
  have HB5 : Hid (Below w.heap.size w w5) := H4.out.2.trans (hb5.mono H4.out.2.size)
  clear hb5
  go_wp2_with (fail)
  go_ret
  exact ⟨rfl, HB5.out⟩
end Go.Proofs
