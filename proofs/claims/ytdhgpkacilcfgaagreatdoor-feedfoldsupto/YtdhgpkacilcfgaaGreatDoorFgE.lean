/-
  FEED: AppendSeq against a walk that leans on what lay there before it.
-/
import Derived.Test.YtdhgpkacilcfgaaGreatDoorFgD
namespace Go.Proofs
open Go.RowKit Go.Maps Go.Sort Go.Shelf
set_option maxRecDepth 100000 in
set_option maxHeartbeats 2000000 in
/-- AppendSeq of nothing and a walk that holds good as long as what lay below stays as it was: all that is handed out, in a row of its own. -/
theorem Fd.appendSeq {P : Program} {ρ : Ren} (K : SlLaysZ.n11 P ρ) (F : Fence) (n : Nat) (h11 : F.fn (ρ.f 11)) (hro : F.round = none) (hn : 2 ≤ n) (g : Nat) (lb : Array Value) (hFg : F.fn g) (eg : ∀ args w, (callFunc g args).run P w = .ok (.enter g args) w)
    (L : List (List UInt8)) (hL : L.length ≤ 8796093022208) (w : World)
    (hseq : ∀ (l : Nat) (J : List (List UInt8) → World → Prop) (W : World), (∀ pre W, J pre W → Below w.heap.size w W) →
      (∀ pre x W1, J pre W1 → pre.length < L.length → YieldAt F (n - 1 - 1) P l #[encStr x] W1 fun e W' => e = .returned (.bool true) ∧ J (pre ++ [x]) W') → J [] W →
      CallsIn F (n - 1) P g (#[.func (.yield l) #[] #[]] ++ lb) W fun e W' => (∃ v, e = .returned v) ∧ J L W') :
    CallsIn F n P (ρ.f 11) #[.slice none 0 0, .func (.func g) #[] lb] w fun e w' => ∃ v, e = .returned v ∧ w'.ownsRow w.heap.size (ρ.t 26) 1 v L.length (L.map encStr) ∧ Below w.heap.size w w' := by
  have h1 : 1 ≤ n := by omega
  have mixed := K.mixed
  have t0 := K.t0; have a0 := K.a0; have z0 := K.z0; have v0 := K.v0
  have t24 := K.t24; have a24 := K.a24; have z24 := K.z24; have v24 := K.v24
  have t26 := K.t26; have a26 := K.a26; have z26 := K.z26; have v26 := K.v26
  have t28 := K.t28; have a28 := K.a28; have z28 := K.z28; have v28 := K.v28
  have hne : ρ.t 24 ≠ ρ.t 26 := fun e => by have h := K.t24; rw [e, K.t26] at h; cases h
  have u0 := run_underlying K.t0; have u24 := run_underlying K.t24; have u26 := run_underlying K.t26; have u28 := run_underlying K.t28
  have HSQ : Hid _ := hseq
  clear hseq
  obtain ⟨_, _, FG⟩ := K.f11
  refine callsIn_of_wp_marks FG rfl h11 ?_ hro
  simp only [SlBodyZ.n11_ntmps ρ, List.size_toArray, List.length_cons, List.length_nil, Nat.reduceAdd, Nat.reduceSub, Array.replicate_succ, Array.replicate_zero, List.push_toArray, List.append_toArray, List.nil_append, List.cons_append]
  gi_wp2
  refine wpIn_rangeFunc ?_
  intro fn hfn
  rw [hro]
  -- the box
  obtain ⟨X, hX⟩ : ∃ X, w.alloc (.cells #[.slice none 0 0] (ρ.t 24)) = X := ⟨_, rfl⟩
  have sX : X.heap.size = w.heap.size + 1 := by rw [← hX]; simp
  have bX : X.heap[w.heap.size]? = some (.cells #[.slice none 0 0] (ρ.t 24) (0, 0)) := by rw [← hX]; exact World.alloc_heap_new w _
  have wX : Below w.heap.size w X := by rw [← hX]; exact (Below.refl _ w).alloc (Nat.le_refl _) _
  rw [hX]
  -- the loop's own record, behind what it defers
  obtain ⟨Y, hY⟩ : ∃ Y, (X.alloc (.deferred (some []))).alloc (.loop (AnyZ.apRec ρ fn (.func (.func g) #[] lb) w.heap.size X.heap.size .ready none)) = Y := ⟨_, rfl⟩
  have oY : ∀ k, k < X.heap.size → Y.heap[k]? = X.heap[k]? := fun k hk => by
    rw [← hY]; exact (Below.heap_alloc _ _ k (by simp; omega)).trans (Below.heap_alloc _ _ k hk)
  have wY : Below w.heap.size w Y := by rw [← hY]; exact (wX.alloc wX.size _).alloc (by have := wX.size; simp; omega) _
  have lY : Y.heap[X.heap.size + 1]? = some (.loop (AnyZ.apRec ρ fn (.func (.func g) #[] lb) w.heap.size X.heap.size .ready none)) := by
    have h := World.alloc_heap_new (X.alloc (.deferred (some []))) (.loop (AnyZ.apRec ρ fn (.func (.func g) #[] lb) w.heap.size X.heap.size .ready none))
    rw [World.size_alloc] at h
    rw [← hY]; exact h
  have dY : Y.heap[X.heap.size]? = some (.deferred (some [])) := by rw [← hY]; exact (Below.heap_alloc _ _ _ (by simp)).trans (World.alloc_heap_new X _)
  have start : AnyZ.ApAt ρ w fn (.func (.func g) #[] lb) w.heap.size (X.heap.size + 1) X.heap.size [] Y :=
    ⟨⟨_, (oY w.heap.size (by omega)).trans bX, ⟨rfl, .inl ⟨rfl, rfl⟩⟩, by simp⟩, lY, dY, wY⟩
  refine ⟨X.heap.size + 1, [{ target := .collected X.heap.size, args := #[] }], Y, { target := .fn (.func g) lb, args := #[.func (.yield (X.heap.size + 1)) #[] #[]] }, Y, g,
    #[.func (.yield (X.heap.size + 1)) #[] #[]] ++ lb, Y, ?_, ?_, ?_, ?_, fun _ => h1, ?_⟩
  · rw [← hY]; exact run_enterLoop_outer _ _ _ _ _
  · simp [resolve, go_sem]
  · intro f' hf'; simp [Target.leads] at hf'; subst hf'; exact hFg
  · simp [invoke, go_sem, eg]
  · refine (HSQ.out (X.heap.size + 1) (AnyZ.ApAt ρ w fn (.func (.func g) #[] lb) w.heap.size (X.heap.size + 1) X.heap.size) Y (fun _ _ h => h.below)
      (fun pre x W hJ hl => by
        obtain ⟨f1, t1, a1, b1, e1, e2⟩ := AnyZ.apYield { K with } F (n - 1 - 1) w fn hfn (.func (.func g) #[] lb) w.heap.size (X.heap.size + 1) X.heap.size (by omega) (by omega) (by omega) (Nat.le_refl _) (by omega) L.length (by unfold maxLen; omega) (by omega) pre x W hJ hl
        exact ⟨f1, t1, a1, b1, e1, e2.mono fun e W' h => ⟨h.1, h.2.1⟩⟩) start).mono ?_
    rintro e Z ⟨⟨v1, rfl⟩, hZ⟩
    obtain ⟨v, hv, hrow, _⟩ := hZ.box
    have hend := run_endLoop (P := P) hZ.L (by simp [AnyZ.apRec])
    obtain ⟨Z2, hZ2⟩ : ∃ Z2, Z.putObj (X.heap.size + 1) (.loop { AnyZ.apRec ρ fn (.func (.func g) #[] lb) w.heap.size X.heap.size .ready none with state := .exhausted }) = Z2 := ⟨_, rfl⟩
    rw [hZ2] at hend
    have gZ : Z.grownBy Z2 (some (X.heap.size + 1)) := by rw [← hZ2]; exact grownBy_putObj_a _ _ _
    have vZ : Z2.heap[w.heap.size]? = some (.cells #[v] (ρ.t 24) (0, 0)) := by rw [← hZ2]; exact (World.putObj_heap_other (by omega)).trans hv
    have dZ : Z2.heap[X.heap.size]? = some (.deferred (some [])) := by rw [← hZ2]; exact (World.putObj_heap_other (by omega)).trans hZ.K
    have rZ := hrow.kept gZ (ownsRow_ne_a hrow hZ.L (fun cur e => by first | cases e | exact hne (Obj.cells.inj e).2.1))
    have wZ : Below w.heap.size w Z2 := hZ.below.grown gZ hZ.below.size (fun k e => by cases e; omega)
    obtain ⟨c3, f3⟩ := cell_of_box_a vZ
    clear hZ2
    refine ⟨none, Z2, hend, ?_⟩
    gi_wp2
    rw [← sX]
    refine ⟨by simp, .inl ⟨_, _, rfl, run_takeDeferred dZ, ?_⟩⟩
    exact ⟨_, results_tmp rfl _ _ _, v, rfl, rZ.kept (grownBy_putObj_a _ _ _) (ownsRow_ne_a rZ dZ (fun cur e => by first | cases e | exact hne (Obj.cells.inj e).2.1)), wZ.grown (grownBy_putObj_a _ _ _) wZ.size (fun k e => by cases e; omega)⟩
end Go.Proofs
