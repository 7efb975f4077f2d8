/-
  The laws' shown.
-/
import Derived.Test.YtkfmfdnfjeofiaaDoorIt
import Derived.Lib.SlBytesConst
namespace Go.Proofs
open Go.RowKit Go.Wi Go.Dg
theorem Dg.shown1 : (⟨(hex (Dg.sum [97, 98, 99])).toArray⟩ : ByteArray) = ⟨#[98, 97, 55, 56, 49, 54, 98, 102, 56, 102, 48, 49, 99, 102, 101, 97, 52, 49, 52, 49, 52, 48, 100, 101, 53, 100, 97, 101, 50, 50, 50, 51, 98, 48, 48, 51, 54, 49, 97, 51, 57, 54, 49, 55, 55, 97, 57, 99, 98, 52, 49, 48, 102, 102, 54, 49, 102, 50, 48, 48, 49, 53, 97, 100]⟩ := by kernel_rfl
def Dg.jefe : List UInt8 := [74, 101, 102, 101]
def Dg.want : List UInt8 := [119, 104, 97, 116, 32, 100, 111, 32, 121, 97, 32, 119, 97, 110, 116, 32, 102, 111, 114, 32, 110, 111, 116, 104, 105, 110, 103, 63]
theorem Dg.shown2 : (⟨(hex ((Dg.mac Dg.jefe Dg.want).take 4)).toArray⟩ : ByteArray) = ⟨#[53, 98, 100, 99, 99, 49, 52, 54]⟩ := by kernel_rfl
theorem Dg.shown3 : (⟨(enc [251, 255]).toArray⟩ : ByteArray) = ⟨#[45, 95, 56]⟩ := by kernel_rfl
theorem Dg.shown4 : dec (⟨#[89, 81]⟩ : ByteArray).toList = (some [97], 0) := by kernel_rfl
theorem Dg.mac_len (k b : List UInt8) : (Dg.mac k b).length = 32 := Dg.sum_len _
theorem Tryd.Tq.drewN {w : World} (h : Tryd.Tq w) (n : Nat) : Tryd.Tq (w.drewN n) := ⟨h.sz, h.sq, h.cu⟩
theorem Tryd.conv_lit (w : World) (C : Array Value) (n c g : Nat) (hg : g = w.heap.size) : (convert 24 24 (.slice (some ⟨g, 0, none⟩) n c)).run Tryd.prog (w.alloc (.cells C 5)) = .ok (.slice (some ⟨g, 0, none⟩) n c) (w.alloc (.cells C 5 (C.size, C.size + 1))) := by
  subst hg
  exact Lib.run_convert_bytes_const w 24 5 C n c Tryd.underlying24 Tryd.underlying5
/-- Bytes of a row that was built. -/
theorem Dg.row_bs {w : World} {g : Nat} {T : TypeId} {cs : Array Value} {fz : Nat × Nat} (l : List UInt8) (h : w.heap[g]? = some (.cells cs T fz)) (hc : cs = (Lib.byteCells l).toArray) (n : Nat) (hn : n = l.length) : Bs w (.slice (some ⟨g, 0, none⟩) n n) l := by
  subst hc hn
  refine ⟨some ⟨g, 0, none⟩, l.length, rfl, Nat.le_refl _, (fun e => by cases e), .inr ⟨g, 0, rfl, block_lt h, fun j u hu => ?_⟩⟩
  rw [Nat.zero_add, cell_of_row _ _ _ _ _ _ h]
  simpa using hu
theorem Dg.shown5 {w w' : World} {e : Ending} (h : Tryd.DecOk w (⟨#[89, 81]⟩ : ByteArray).toList e w') : ∃ C, e = .returned (.tuple #[.slice (some ⟨w.heap.size, 0, none⟩) 1 C, .nilIface]) ∧ Ob w' w.heap.size (.slice (some ⟨w.heap.size, 0, none⟩) 1 C) [97] ∧ Below w.heap.size w w' := by
  rcases h.r with ⟨o, C, h1, h2, h3⟩ | ⟨g, h1, _⟩
  · rw [Dg.shown4] at h1
    injection h1 with h1
    subst h1
    exact ⟨C, h2, h3, h.b⟩
  · rw [Dg.shown4] at h1
    cases h1
set_option maxRecDepth 20000 in
set_option maxHeartbeats 1000000 in
theorem Tryd.shown_any (w : World) (hT : Tryd.Tq w) :
    Calls Tryd.prog 9 #[] w fun e w' => e = .returned (.bool true) ∧ Below w.heap.size w w' := by
  have HT : Hid _ := hT
  have hnew := Tryd.new_any w hT
  clear hT
  go_enter Tryd.func9, Tryd.ntmps9
  go_upto_region 4 with (first | (go_at_call 21; refine hnew.mono ?_; clear hnew; rintro z w1 ⟨rfl, hh, hbb⟩; have HB1 : Hid (Below w.heap.size w w1) := hbb; clear hh hbb) | fail)
  have HT1 : Hid (Tryd.Tq w1) := HT.out.below HB1.out HT.out.sz
  have hcv := Tryd.conv_lit
  obtain ⟨M, hM⟩ : ∃ M, M = Dg.sum [97, 98, 99] := ⟨_, rfl⟩
  have hMl : M.length = 32 := by rw [hM]; exact Dg.sum_len _
  have l32 : (Lib.byteCells M).length = 32 := by rw [byteCells_len]; exact hMl
  have HM : Hid (M = Dg.sum [97, 98, 99]) := hM
  clear hM
  go_wp2_with (fail)
  have HB2 : Hid (Below w.heap.size w (w1.alloc (.cells #[.int .u8 97, .int .u8 98, .int .u8 99] 5 (3, 4)))) := HB1.out.alloc HB1.out.size _
  have hs := Tryd.sum_any (w := w1.alloc (.cells #[.int .u8 97, .int .u8 98, .int .u8 99] 5 (3, 4))) (HT.out.below HB2.out HT.out.sz) (Dg.row_bs [97, 98, 99] (heap_alloc_new w1 _) rfl 3 rfl) (fun k e => by cases e; simp) (by simp)
  rw [← HM.out] at hs
  refine hs.mono ?_
  clear hs
  rintro z w3 ⟨rfl, hb3⟩
  have HB3 : Hid (Below w.heap.size w w3) := HB2.out.trans (hb3.mono HB2.out.size)
  clear hb3 HB2
  have st3 := Tryd.new32 w3 M hMl
  go_upto_region 5 with (fail)
  obtain ⟨w4, hw4⟩ : ∃ w4, w4 = w3.alloc (.cells (Lib.byteCells M).toArray 32) := ⟨_, rfl⟩
  have H4 : Hid (Dg.Br 32 w4 w3.heap.size M ∧ Below w.heap.size w w4 ∧ w.heap.size ≤ w3.heap.size) := by
    rw [hw4]
    exact ⟨heap_alloc_new w3 _, HB3.out.alloc HB3.out.size _, HB3.out.size⟩
  rw [← hw4]
  clear hw4 st3 HB3 HB1 HT1
  generalize w3.heap.size = g3 at *
  obtain ⟨N, hN⟩ : ∃ N, N = Dg.mac Dg.jefe Dg.want := ⟨_, rfl⟩
  have hNl : N.length = 32 := by rw [hN]; exact Dg.mac_len _ _
  have l32' : (Lib.byteCells N).length = 32 := by rw [byteCells_len]; exact hNl
  have HN : Hid (N = Dg.mac Dg.jefe Dg.want) := hN
  clear hN
  go_wp2_with (fail)
  generalize hw5 : (World.alloc (World.alloc w4 _) _) = w5
  have H5 : Hid (Bs w5 (.slice (some ⟨w4.heap.size, 0, none⟩) 4 4) Dg.jefe ∧ Bs w5 (.slice (some ⟨w4.heap.size + 1, 0, none⟩) 28 28) Dg.want ∧ Below w.heap.size w w5 ∧ w4.heap.size + 1 < w5.heap.size ∧ Below w4.heap.size w4 w5) := by
    rw [← hw5]
    have hb1 := (Below.refl w4.heap.size w4).alloc (Nat.le_refl _) (.cells #[.int .u8 74, .int .u8 101, .int .u8 102, .int .u8 101] 5 (4, 5))
    refine ⟨Dg.row_bs Dg.jefe ((Below.heap_alloc _ _ _ (by simp)).trans (heap_alloc_new w4 _)) rfl 4 rfl, ?_, (H4.out.2.1.alloc H4.out.2.1.size _).alloc (by have := H4.out.2.1.size; simp only [World.size_alloc]; omega) _, by simp, hb1.alloc (by simp only [World.size_alloc]; omega) _⟩
    have h1 := fun o => heap_alloc_new (w4.alloc (.cells #[.int .u8 74, .int .u8 101, .int .u8 102, .int .u8 101] 5 (4, 5))) o
    simp only [World.size_alloc] at h1
    exact Dg.row_bs Dg.want (h1 _) rfl 28 rfl
  clear hw5
  have hm := Tryd.mac_any (w := w5) (HT.out.below H5.out.2.2.1 HT.out.sz) H5.out.1 (fun k e => by cases e; have := H5.out.2.2.2.1; show w4.heap.size < w5.heap.size; omega) (by decide) H5.out.2.1 (fun k e => by cases e; exact H5.out.2.2.2.1) (by decide)
  rw [← HN.out] at hm
  refine hm.mono ?_
  clear hm
  rintro z w6 ⟨rfl, hb6⟩
  have HB6 : Hid (Below w.heap.size w w6 ∧ Below w4.heap.size w4 w6) := ⟨H5.out.2.2.1.trans (hb6.mono H5.out.2.2.1.size), H5.out.2.2.2.2.trans (hb6.mono H5.out.2.2.2.2.size)⟩
  clear hb6
  have st6 := Tryd.new32 w6 N hNl
  go_upto_region 6 with (fail)
  obtain ⟨w7, hw7⟩ : ∃ w7, w7 = w6.alloc (.cells (Lib.byteCells N).toArray 32) := ⟨_, rfl⟩
  have H7 : Hid (Dg.Br 32 w7 w6.heap.size N ∧ Below w.heap.size w w7 ∧ Dg.Br 32 w7 g3 M) := by
    rw [hw7]
    have h1 := H4.out.1.keep (HB6.out.2.block _ H4.out.1.lt)
    exact ⟨heap_alloc_new w6 _, HB6.out.1.alloc HB6.out.1.size _, h1.keep (Below.heap_alloc _ _ _ h1.lt)⟩
  rw [← hw7]
  clear hw7 st6 HB6 H5 H4
  generalize w6.heap.size = g6 at *
  have hd := Tryd.dec_any ⟨#[89, 81]⟩ (by decide) w7
  go_upto_region 7 with (first | (go_at_call 11; refine hd.mono ?_; clear hd; rintro z w8 h8; obtain ⟨C, rfl, ho8, hb8⟩ := Dg.shown5 h8; have HO8 : Hid _ := ho8; have HB8 : Hid _ := hb8; clear h8 ho8 hb8) | fail)
  have H8 : Hid (Dg.Br 32 w8 g6 N ∧ Dg.Br 32 w8 g3 M ∧ Below w.heap.size w w8 ∧ Ob w8 w7.heap.size (.slice (some ⟨w7.heap.size, 0, none⟩) 1 C) [97]) :=
    ⟨H7.out.1.keep (HB8.out.block _ H7.out.1.lt), H7.out.2.2.keep (HB8.out.block _ H7.out.2.2.lt), H7.out.2.1.trans (HB8.out.mono H7.out.2.1.size), HO8.out⟩
  clear H7 HB8 HO8
  generalize w7.heap.size = g7 at *
  have hx1 : Calls Tryd.prog 12 #[.slice (some ⟨g3, 0, none⟩) 32 32] w8 fun e w' => e = .returned (.string ⟨#[98, 97, 55, 56, 49, 54, 98, 102, 56, 102, 48, 49, 99, 102, 101, 97, 52, 49, 52, 49, 52, 48, 100, 101, 53, 100, 97, 101, 50, 50, 50, 51, 98, 48, 48, 51, 54, 49, 97, 51, 57, 54, 49, 55, 55, 97, 57, 99, 98, 52, 49, 48, 102, 102, 54, 49, 102, 50, 48, 48, 49, 53, 97, 100]⟩) ∧ Below w8.heap.size w8 w' := by
    have h1 := H8.out.2.1.bs 32 32 (by omega) (Nat.le_refl _)
    rw [List.take_of_length_le (by omega)] at h1
    have h2 := Tryd.hex_any (w := w8) h1 (fun k e => by cases e; exact H8.out.2.1.lt) (by omega)
    rw [HM.out, Dg.shown1] at h2
    exact h2
  go_wp2_with (fail)
  refine hx1.mono ?_
  clear hx1
  rintro z w9 ⟨rfl, hb9⟩
  have H9 : Hid (Dg.Br 32 w9 g6 N ∧ Below w.heap.size w w9 ∧ Ob w9 g7 (.slice (some ⟨g7, 0, none⟩) 1 C) [97]) :=
    ⟨H8.out.1.keep (hb9.block _ H8.out.1.lt), H8.out.2.2.1.trans (hb9.mono H8.out.2.2.1.size), Ob.below H8.out.2.2.2 hb9 (Nat.le_refl _)⟩
  clear H8 hb9
  have hx2 : Calls Tryd.prog 12 #[.slice (some ⟨g6, 0, none⟩) 4 32] w9 fun e w' => e = .returned (.string ⟨#[53, 98, 100, 99, 99, 49, 52, 54]⟩) ∧ Below w9.heap.size w9 w' := by
    have h1 := H9.out.1.bs 4 32 (by omega) (by omega)
    have h2 := Tryd.hex_any (w := w9) h1 (fun k e => by cases e; exact H9.out.1.lt) (by rw [List.length_take]; omega)
    rw [HN.out, Dg.shown2] at h2
    exact h2
  go_wp2_with (fail)
  refine hx2.mono ?_
  clear hx2
  rintro z w10 ⟨rfl, hb10⟩
  have H10 : Hid (Below w.heap.size w w10 ∧ Ob w10 g7 (.slice (some ⟨g7, 0, none⟩) 1 C) [97]) :=
    ⟨H9.out.2.1.trans (hb10.mono H9.out.2.1.size), Ob.below H9.out.2.2 hb10 (Nat.le_refl _)⟩
  clear H9 hb10
  go_wp2_with (fail)
  obtain ⟨w11, hw11⟩ : ∃ w11, w11 = w10.alloc (.cells #[.int .u8 251, .int .u8 255] 5) := ⟨_, rfl⟩
  have H11 : Hid (Bs w11 (.slice (some ⟨w10.heap.size, 0, none⟩) 2 2) [251, 255] ∧ w10.heap.size < w11.heap.size ∧ Below w.heap.size w w11 ∧ Ob w11 g7 (.slice (some ⟨g7, 0, none⟩) 1 C) [97]) := by
    rw [hw11]
    exact ⟨Dg.row_bs [251, 255] (heap_alloc_new w10 _) rfl 2 rfl, by simp, H10.out.1.alloc H10.out.1.size _, Ob.alloc H10.out.2 _⟩
  rw [← hw11]
  clear hw11 H10
  have hen := Tryd.enc_any (w := w11) H11.out.1 (fun k e => by cases e; exact H11.out.2.1) (by decide)
  rw [Dg.shown3] at hen
  refine hen.mono ?_
  clear hen
  rintro z w12 ⟨rfl, hb12⟩
  have H12 : Hid (Below w.heap.size w w12 ∧ Ob w12 g7 (.slice (some ⟨g7, 0, none⟩) 1 C) [97]) :=
    ⟨H11.out.2.2.1.trans (hb12.mono H11.out.2.2.1.size), Ob.below H11.out.2.2.2 hb12 (Nat.le_refl _)⟩
  clear H11 hb12
  have hcs := Tryd.conv_bs (Ob.bs H12.out.2)
  go_wp2_with (fail)
  obtain ⟨w13, hw13⟩ : ∃ w13, w13 = w12.alloc (.cells #[.int .u8 97] 5 (1, 2)) := ⟨_, rfl⟩
  have H13 : Hid (Bs w13 (.slice (some ⟨w12.heap.size, 0, none⟩) 1 1) [97] ∧ Below w.heap.size w w13 ∧ Ob w13 g7 (.slice (some ⟨g7, 0, none⟩) 1 C) [97]) := by
    rw [hw13]
    exact ⟨Dg.row_bs [97] (heap_alloc_new w12 _) rfl 1 rfl, H12.out.1.alloc H12.out.1.size _, Ob.alloc H12.out.2 _⟩
  rw [← hw13]
  have hsa := Tryd.same_any' (w := w13) (Ob.bs H13.out.2.2) H13.out.1 (by decide)
  refine hsa.mono ?_
  clear hsa hw13 hcs
  rintro z w14 ⟨rfl, m, rfl⟩
  go_wp2_with (fail)
  go_ret
  exact ⟨rfl, belowN H13.out.2.1 m⟩
end Go.Proofs
