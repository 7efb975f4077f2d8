import Derived.Test.YtaigcmlalnegpaaDoorWords
namespace Go.Proofs
open Go.RowKit Go.Shelf
attribute [local go_sem] Oper.semAt_some
theorem Sg.cell_new (w : World) (v : Value) (t : TypeId) : (w.alloc (.cells #[v] t)).cell? ⟨w.heap.size, 0, none⟩ = some v ∧ (w.alloc (.cells #[v] t)).frozen? ⟨w.heap.size, 0, none⟩ = false := by
  have h := heap_alloc_new w (.cells #[v] t)
  constructor
  · rw [cell_of_row _ _ 0 _ _ _ h]; rfl
  · exact frozen_of_row _ _ 0 _ _ h
theorem Sg.cell_more {w : World} {a : Addr} {v : Value} (o : Obj) (h : w.cell? a = some v) : (w.alloc o).cell? a = some v :=
  (((Below.refl w.heap.size w).alloc (Nat.le_refl _) o).cell (block_lt_of_cell h)).trans h
def Sg.t1 : ByteArray := ⟨#[195, 137, 109, 105, 108, 101, 32, 195, 134, 114, 195, 184, 32, 206, 163, 206, 138, 206, 163, 206, 165, 206, 166, 206, 159, 206, 163]⟩
def Sg.r1 : ByteArray := ⟨#[195, 169, 109, 105, 108, 101, 32, 195, 166, 114, 195, 184, 32, 207, 131, 206, 175, 207, 131, 207, 133, 207, 134, 206, 191, 207, 131]⟩
def Sg.t2 : ByteArray := ⟨#[65, 255, 66]⟩
def Sg.r2 : ByteArray := ⟨#[97, 255, 98]⟩
def Sg.t3 : ByteArray := ⟨#[97, 98, 32, 99]⟩
def Sg.t4 : ByteArray := ⟨#[72, 105, 32, 65, 110, 110, 97, 33]⟩
def Sg.t5 : ByteArray := ⟨#[97, 110, 110, 97]⟩
def Sg.t6 : ByteArray := ⟨#[72, 105, 32, 65, 110, 110, 97, 98, 101, 108]⟩
def Sg.t7 : ByteArray := ⟨#[105, 116, 39, 115, 32, 51, 32, 111, 39, 99, 108, 111, 99, 107, 95, 120]⟩
theorem Sg.k1 : Sg.fold Sg.t1 = Sg.r1 := by decide +kernel
theorem Sg.k2 : Sg.fold Sg.t2 = Sg.r2 := by decide +kernel
theorem Sg.k3 : Sg.valid Sg.t2 = false := by decide +kernel
theorem Sg.k4 : Sg.valid ⟨#[239, 191, 189]⟩ = true := by decide +kernel
theorem Sg.k5 : Sg.edgeB Sg.t3 1 = false := by decide +kernel
theorem Sg.k6 : Sg.edgeB Sg.t3 2 = true := by decide +kernel
theorem Sg.k7 : Sg.hasB Sg.t4 Sg.t5 = true := by decide +kernel
theorem Sg.k8 : Sg.hasB Sg.t6 Sg.t5 = false := by decide +kernel
theorem Sg.k9 : (Sg.words Sg.t7).length = 5 := by decide +kernel
theorem Tryd.sc1 (w : World) (hT : Tryd.Tabs w) : Calls Tryd.prog 11 #[.string { data := #[195, 137, 109, 105, 108, 101, 32, 195, 134, 114, 195, 184, 32, 206, 163, 206, 138, 206, 163, 206, 165, 206, 166, 206, 159, 206, 163] }] w fun e w' => e = .returned (.string { data := #[195, 169, 109, 105, 108, 101, 32, 195, 166, 114, 195, 184, 32, 207, 131, 206, 175, 207, 131, 207, 133, 207, 134, 206, 191, 207, 131] }) ∧ Below w.heap.size w w' := by
  have := Tryd.fold_any Sg.t1 w (by decide +kernel) hT
  rw [Sg.k1] at this
  exact this
theorem Tryd.sc2 (w : World) (hT : Tryd.Tabs w) : Calls Tryd.prog 11 #[.string { data := #[65, 255, 66] }] w fun e w' => e = .returned (.string { data := #[97, 255, 98] }) ∧ Below w.heap.size w w' := by
  have := Tryd.fold_any Sg.t2 w (by decide +kernel) hT
  rw [Sg.k2] at this
  exact this
theorem Tryd.sc3 (w : World) : Calls Tryd.prog 12 #[.string { data := #[65, 255, 66] }] w fun e w' => e = .returned (.bool false) ∧ Below w.heap.size w w' := by
  have := Tryd.valid_any ⟨#[65, 255, 66]⟩ w (by decide +kernel)
  rw [show Sg.valid ⟨#[65, 255, 66]⟩ = false from Sg.k3] at this
  exact this
theorem Tryd.sc4 (w : World) : Calls Tryd.prog 12 #[.string { data := #[239, 191, 189] }] w fun e w' => e = .returned (.bool true) ∧ Below w.heap.size w w' := by
  have := Tryd.valid_any ⟨#[239, 191, 189]⟩ w (by decide +kernel)
  rw [show Sg.valid ⟨#[239, 191, 189]⟩ = true from Sg.k4] at this
  exact this
theorem Tryd.sc5 (w : World) (hT : Tryd.Tabs w) : Calls Tryd.prog 13 #[.string { data := #[97, 98, 32, 99] }, .int .i64 1] w fun e w' => e = .returned (.bool false) ∧ Below w.heap.size w w' := by
  have := Tryd.edge_any Sg.t3 1 (by decide +kernel) w hT
  rw [Sg.k5] at this
  exact this
theorem Tryd.sc6 (w : World) (hT : Tryd.Tabs w) : Calls Tryd.prog 13 #[.string { data := #[97, 98, 32, 99] }, .int .i64 2] w fun e w' => e = .returned (.bool true) ∧ Below w.heap.size w w' := by
  have := Tryd.edge_any Sg.t3 2 (by decide +kernel) w hT
  rw [Sg.k6] at this
  exact this
theorem Tryd.sc7 (w : World) (hT : Tryd.Tabs w) : Calls Tryd.prog 16 #[.string { data := #[72, 105, 32, 65, 110, 110, 97, 33] }, .string { data := #[97, 110, 110, 97] }] w fun e w' => e = .returned (.bool true) ∧ Below w.heap.size w w' := by
  have := Tryd.has_any Sg.t4 Sg.t5 w hT (by decide +kernel) (by decide +kernel)
  rw [Sg.k7] at this
  exact this
theorem Tryd.sc8 (w : World) (hT : Tryd.Tabs w) : Calls Tryd.prog 16 #[.string { data := #[72, 105, 32, 65, 110, 110, 97, 98, 101, 108] }, .string { data := #[97, 110, 110, 97] }] w fun e w' => e = .returned (.bool false) ∧ Below w.heap.size w w' := by
  have := Tryd.has_any Sg.t6 Sg.t5 w hT (by decide +kernel) (by decide +kernel)
  rw [Sg.k8] at this
  exact this

set_option maxRecDepth 100000 in
set_option maxHeartbeats 4000000 in
theorem Tryd.shown_in (n : Nat) (hn : 3 ≤ n) (w : World) (hT : Tryd.Tabs w) :
    CallsIn Fence.wide n Tryd.prog 9 #[] w fun e W' => e = .returned (.bool true) ∧ Below w.heap.size w W' := by
  have h1 : 1 ≤ n := by omega
  have hnil : ∀ p w, (binOp .eql 29 (.func (.func 29) #[] #[p]) .nilFunc).run Tryd.prog w = .ok (.bool false) w := fun _ _ => by kernel_rfl
  refine callsIn_of_wp_marks Tryd.func9 rfl trivial ?_ rfl
  simp only [Tryd.ntmps9, List.size_toArray, List.length_nil, Nat.reduceSub, Array.replicate_succ, Array.replicate_zero, List.push_toArray, List.append_toArray, List.nil_append, List.cons_append]
  gi_wp2_with fail
  refine ⟨trivial, (callsIn_wide.2 (Tryd.sc1 _ hT)).mono ?_⟩
  rintro e w1 ⟨rfl, b1⟩
  have T1 := hT.below b1
  gi_wp2_with fail
  refine ⟨trivial, (callsIn_wide.2 (Tryd.sc2 _ T1)).mono ?_⟩
  rintro e w2 ⟨rfl, b2⟩
  have T2 := T1.below b2
  replace b2 := b1.trans (b2.mono b1.size)
  gi_wp2_with fail
  refine ⟨trivial, (callsIn_wide.2 (Tryd.sc3 _)).mono ?_⟩
  rintro e w3 ⟨rfl, b3⟩
  have T3 := T2.below b3
  replace b3 := b2.trans (b3.mono b2.size)
  gi_wp2_with fail
  refine ⟨trivial, (callsIn_wide.2 (Tryd.sc4 _)).mono ?_⟩
  rintro e w4 ⟨rfl, b4⟩
  have T4 := T3.below b4
  replace b4 := b3.trans (b4.mono b3.size)
  gi_wp2_with fail
  refine ⟨trivial, (callsIn_wide.2 (Tryd.sc5 _ T4)).mono ?_⟩
  rintro e w5 ⟨rfl, b5⟩
  have T5 := T4.below b5
  replace b5 := b4.trans (b5.mono b4.size)
  gi_wp2_with fail
  refine ⟨trivial, (callsIn_wide.2 (Tryd.sc6 _ T5)).mono ?_⟩
  rintro e w6 ⟨rfl, b6⟩
  have T6 := T5.below b6
  replace b6 := b5.trans (b6.mono b5.size)
  gi_wp2_with fail
  refine ⟨trivial, (callsIn_wide.2 (Tryd.sc7 _ T6)).mono ?_⟩
  rintro e w7 ⟨rfl, b7⟩
  have T7 := T6.below b7
  replace b7 := b6.trans (b7.mono b6.size)
  gi_wp2_with fail
  refine ⟨trivial, (callsIn_wide.2 (Tryd.sc8 _ T7)).mono ?_⟩
  rintro e w8 ⟨rfl, b8⟩
  have T8 := T7.below b8
  replace b8 := b7.trans (b8.mono b7.size)
  gi_wp2_with fail
  refine ⟨trivial, (callsIn_wide.2 (Tryd.words_call _ _)).mono ?_⟩
  rintro e w9 ⟨rfl, rfl⟩
  clear T1 T2 T3 T4 T5 T6 T7 T8 b1 b2 b3 b4 b5 b6 b7
  gi_wp2_with fail
  have c0 := Sg.cell_new w8 (.string { data := #[105, 116, 39, 115, 32, 51, 32, 111, 39, 99, 108, 111, 99, 107, 95, 120] }) 9
  have c1 := Sg.cell_new (w8.alloc (.cells #[.string { data := #[105, 116, 39, 115, 32, 51, 32, 111, 39, 99, 108, 111, 99, 107, 95, 120] }] 9)) (.int .i64 0) 3
  simp only [World.size_alloc] at c1
  have hB0 : Below w.heap.size w ((w8.alloc (.cells #[.string { data := #[105, 116, 39, 115, 32, 51, 32, 111, 39, 99, 108, 111, 99, 107, 95, 120] }] 9)).alloc (.cells #[.int .i64 0] 3)) := (b8.alloc b8.size _).alloc (by have := b8.size; simp; omega) _
  have hz8 := b8.size
  refine wpIn_rangeFunc_ownF rfl h1 (gf := 29) (lb := #[.pointer (some ⟨w8.heap.size, 0, none⟩)]) rfl trivial (enters_of Tryd.func29 (by kernel_rfl) rfl)
    (Tryd.words_stops (n - 1) (by omega) w8.heap.size (w8.heap.size + 1) Sg.t7 (by decide +kernel) _ (by omega) (by simp) (Sg.cell_more _ c0.1)) Sg.Kp_t (Sg.Kp_b (by simp)) (Below.refl _ _) (fun _ => rfl)
    (fun pre W => (W.cell? ⟨w8.heap.size + 1, 0, none⟩ = some (.int .i64 (pre.length : Int)) ∧ W.frozen? ⟨w8.heap.size + 1, 0, none⟩ = false) ∧ Below w.heap.size w W)
    (fun _ _ _ => False)
    (OwnFrom.and (Own.from (fun s A B row hs hg hr => ⟨cell_kept hs.1 hg hr, (frozen_kept hs.1 hg hr).trans hs.2⟩) _) (ownFrom_below (Nat.le_refl _) (by simp; omega)))
    (fun _ _ _ _ _ hs _ _ => hs)
    ⟨⟨c1.1, c1.2⟩, hB0⟩
    (fun x => { tmps := #[.bool false, .string { data := #[195, 169, 109, 105, 108, 101, 32, 195, 166, 114, 195, 184, 32, 207, 131, 206, 175, 207, 131, 207, 133, 207, 134, 206, 191, 207, 131] }, .string { data := #[97, 255, 98] }, .bool false, .bool true, .bool false, .bool true, .bool true, .bool false, .func (.func 29) #[] #[.pointer (some ⟨w8.heap.size, 0, none⟩)], .pointer (some ⟨w8.heap.size + 1, 0, none⟩), .string { data := #[195, 169, 109, 105, 108, 101, 32, 195, 166, 114, 195, 184, 32, 207, 131, 206, 175, 207, 131, 207, 133, 207, 134, 206, 191, 207, 131] }, .string { data := #[97, 255, 98] }, .bool false, .bool true, .bool false, .bool true, .bool true, .bool false, .func (.func 29) #[] #[.pointer (some ⟨w8.heap.size, 0, none⟩)], .func (.func 29) #[] #[.pointer (some ⟨w8.heap.size, 0, none⟩)], .bool false, .func (.func 29) #[] #[.pointer (some ⟨w8.heap.size, 0, none⟩)], .int .i64 (x.1 : Int), .int .i64 (x.2 : Int), undef, undef, undef, undef, undef, undef, undef, undef, undef, undef, undef, undef, undef, undef, undef, undef, undef, undef, undef, undef, undef, undef, undef, undef, undef, undef, undef, undef, undef, undef, undef, undef, undef], defers := [] }) ?assign ?body ?done ?stop
  case assign =>
    intro l x W K hK
    dsimp only [Sg.enc]
    gi_wp2
    exact hK
  case body =>
    rintro l pre x W ⟨⟨hc, hf⟩, hB⟩ hlt
    rw [Sg.k9] at hlt
    gi_wp2
    exact ⟨KeepsOthers.setCell _ _ _, ⟨(Below.refl (w8.heap.size + 1) W).setCell (p := ⟨w8.heap.size + 1, 0, none⟩) (Nat.le_refl _) _, (KeepsOthers.setCell _ _ _).walks⟩, ⟨by rw [World.cell?_setCell_same' _ _ _ (by rw [hc]; rfl)]; simp, by rw [World.frozen?_setCell]; exact hf⟩, hB.setCell (p := ⟨w8.heap.size + 1, 0, none⟩) (by show w.heap.size ≤ w8.heap.size + 1; omega) _⟩
  case done =>
    rintro D ys W hD rfl ⟨⟨hc, _⟩, hB⟩ hK
    rw [Sg.k9] at hc
    gi_wp2
    refine ⟨by simp, .inl ⟨_, _, rfl, run_takeDeferred hK, ?_⟩⟩
    exact ⟨_, results_tmp rfl _ _ _, rfl, hB.trans (belowK_b (w := w) (Nat.le_refl _) W D _ _ (by simp at hD; omega) hK rfl rfl)⟩
  case stop =>
    rintro D c pre W _ _ h _
    exact h.elim
theorem Tryd.shown_any (w : World) (hT : Tryd.Tabs w) :
    Calls Tryd.prog 9 #[] w fun e W' => e = .returned (.bool true) ∧ Below w.heap.size w W' := (callsIn_wide (n := 3)).1 (Tryd.shown_in 3 (Nat.le_refl _) w hT)
end Go.Proofs
