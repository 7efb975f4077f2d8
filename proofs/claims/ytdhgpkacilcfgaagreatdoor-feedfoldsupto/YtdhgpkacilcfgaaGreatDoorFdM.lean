/-
  FEED: a hub in memory; New, shelf.
-/
import Derived.Test.YtdhgpkacilcfgaaGreatDoorFdL
namespace Go.Fd
/-- What is kept of a user: the number of the present sheet, the kept sheets. -/
abbrev Sh := Nat × List (List Cn)
def sh0 : Sh := (0, [[]])
/-- What a sheet that is put leaves. -/
def putS (s : Sh) (x : List Cn) : Option Sh := if s.1 = 9007199254740991 ∨ s.2.getLast? = some x then none else some (s.1 + 1, trim (s.2 ++ [x]))
open Classical in
def putF (F : ByteArray → Option Sh) (u : ByteArray) (x : List Cn) : ByteArray → Option Sh :=
  match putS ((F u).getD sh0) x with
  | none => F
  | some s => fun y => if y = u then some s else F y
end Go.Fd
namespace Go.Proofs
open Go.RowKit Go.Wi Go.Fd Go.Sort Go.Ct
noncomputable def Tryz.kS : Ky Tryz.prog 9 ByteArray := strKy Tryz.underlying9
theorem Tryz.uShelves : Tryz.prog.underlying 42 = some (.map 9 45) := by kernel_rfl
theorem Tryz.zShelf (w : World) : (zeroValue 45).run Tryz.prog w = .ok (.pointer none) w := by kernel_rfl
def Fd.ptrS (p : Nat) : Value := .pointer (some ⟨p, 0, none⟩)
/-- A hub in memory. -/
structure Tryz.Hb (w : World) (own : ByteArray → Nat → Prop) (p : ByteArray → Nat) (hb mb n : Nat) (F : ByteArray → Option Sh) : Prop where
  bl : w.heap[hb]? = some (.cells #[.map (some mb)] 44 (0, 0))
  mp : Mp Tryz.kS w (some mb) n (fun u => (F u).map fun _ => Fd.ptrS (p u))
  sh : ∀ u s, F u = some s → Tryz.Sf w (own u) (p u) s.1 s.2
  no : ∀ u k, F u = none → ¬ own u k
  ne : hb ≠ mb
  off : ∀ u k, own u k → k ≠ hb ∧ k ≠ mb ∧ k < w.heap.size
  one : ∀ u v k, own u k → own v k → u = v
/-- All its blocks. -/
def Fd.All (own : ByteArray → Nat → Prop) (hb mb k : Nat) : Prop := k = hb ∨ k = mb ∨ ∃ u, own u k
theorem Tryz.Hb.keep {w w' : World} {own : ByteArray → Nat → Prop} {p : ByteArray → Nat} {hb mb n : Nat} {F : ByteArray → Option Sh} (h : Tryz.Hb w own p hb mb n F) (hk : ∀ k, Fd.All own hb mb k → w'.heap[k]? = w.heap[k]?) (hs : w.heap.size ≤ w'.heap.size) : Tryz.Hb w' own p hb mb n F :=
  ⟨by rw [hk hb (.inl rfl)]; exact h.bl, h.mp.keep fun b e => by injection e with e; subst e; exact hk _ (.inr (.inl rfl)), fun u s e => (h.sh u s e).keep fun k e => hk k (.inr (.inr ⟨u, e⟩)), h.no, h.ne, fun u k e => ⟨(h.off u k e).1, (h.off u k e).2.1, Nat.lt_of_lt_of_le (h.off u k e).2.2 hs⟩, h.one⟩
theorem Tryz.Hb.lt {w : World} {own : ByteArray → Nat → Prop} {p : ByteArray → Nat} {hb mb n : Nat} {F : ByteArray → Option Sh} (h : Tryz.Hb w own p hb mb n F) (k : Nat) (hk : Fd.All own hb mb k) : k < w.heap.size := by
  rcases hk with rfl | rfl | ⟨u, e⟩
  · exact block_lt h.bl
  · exact h.mp.lt rfl
  · exact (h.off u k e).2.2
theorem Tryz.Hb.below {w w' : World} {own : ByteArray → Nat → Prop} {p : ByteArray → Nat} {hb mb n C : Nat} {F : ByteArray → Option Sh} (h : Tryz.Hb w own p hb mb n F) (g : Below C w w') (hC : w.heap.size ≤ C) : Tryz.Hb w' own p hb mb n F :=
  h.keep (fun k hk => g.block k (Nat.lt_of_lt_of_le (h.lt k hk) hC)) g.size
set_option maxRecDepth 20000 in
set_option maxHeartbeats 1000000 in
theorem Tryz.new_any (w : World) : Calls Tryz.prog 6 #[] w fun e w' => ∃ hb mb, e = .returned (.pointer (some ⟨hb, 0, none⟩)) ∧ Tryz.Hb w' (fun _ _ => False) (fun _ => 0) hb mb 0 (fun _ => none) ∧ Below w.heap.size w w' ∧ w.heap.size ≤ hb ∧ w.heap.size ≤ mb := by
  have hmm := @run_makeMap Tryz.prog
  go_enter Tryz.func6, Tryz.ntmps6
  go_wp2
  go_ret
  have hm := Mp.made Tryz.kS w
  refine ⟨_, w.heap.size, rfl, ⟨?_, ?_, fun _ _ e => (by cases e), fun _ _ _ e => e, by simp, fun _ _ e => e.elim, fun _ _ _ e => e.elim⟩, ((Below.refl _ w).alloc (Nat.le_refl _) _).alloc (by simp) _, by omega, Nat.le_refl _⟩
  · rw [show w.heap.size + 1 = (w.alloc (.map #[] 0)).heap.size by simp]
    exact heap_alloc_new _ _
  · refine (hm.keep (w' := _) fun b e => ?_).cong fun _ => rfl
    injection e with e
    subst e
    exact heap_alloc_old _ _ (by simp)
set_option maxRecDepth 20000 in
set_option maxHeartbeats 1000000 in
theorem Tryz.shelf_yes {w : World} {own : ByteArray → Nat → Prop} {p : ByteArray → Nat} {hb mb n : Nat} {F : ByteArray → Option Sh} (h : Tryz.Hb w own p hb mb n F) (u : ByteArray) (hu : u.size ≤ maxLen) {s : Sh} (hs : F u = some s) :
    Calls Tryz.prog 18 #[.pointer (some ⟨hb, 0, none⟩), .string u] w fun e w' => e = .returned (Fd.ptrS (p u)) ∧ w' = w := by
  have c0 : w.cell? ⟨hb, 0, none⟩ = some (.map (some mb)) := cell_of_row w hb 0 _ _ _ h.bl
  have hl := h.mp.look Tryz.uShelves (Tryz.zShelf w) (x := u) hu
  rw [hs] at hl
  have hl' : (Instr.lookup 42 (.map (some mb)) (.string u) false).run Tryz.prog w = .ok (.pointer (some ⟨p u, 0, none⟩)) w := hl
  clear h hl
  unfold Fd.ptrS
  generalize p u = pu at *
  go_enter Tryz.func18, Tryz.ntmps18
  go_wp2
  go_ret
  exact ⟨rfl, rfl⟩
set_option maxRecDepth 20000 in
set_option maxHeartbeats 1000000 in
theorem Tryz.shelf_no {w : World} {own : ByteArray → Nat → Prop} {p : ByteArray → Nat} {hb mb n : Nat} {F : ByteArray → Option Sh} (h : Tryz.Hb w own p hb mb n F) (u : ByteArray) (hu : u.size ≤ maxLen) (hs : F u = none) :
    Calls Tryz.prog 18 #[.pointer (some ⟨hb, 0, none⟩), .string u] w fun e w' => ∃ sb, e = .returned (Fd.ptrS sb) ∧ Tryz.Sf w' (fun k => w.heap.size ≤ k ∧ k < w'.heap.size) sb 0 [[]] ∧ Below w.heap.size w w' := by
  have c0 : w.cell? ⟨hb, 0, none⟩ = some (.map (some mb)) := cell_of_row w hb 0 _ _ _ h.bl
  have hl := h.mp.look Tryz.uShelves (Tryz.zShelf w) (x := u) hu
  rw [hs] at hl
  have hl' : (Instr.lookup 42 (.map (some mb)) (.string u) false).run Tryz.prog w = .ok (.pointer none) w := hl
  have hn := Tryz.newShelf_any w
  clear h hl
  go_enter Tryz.func18, Tryz.ntmps18
  go_wp2_with (first
    | (go_at_call 36; refine hn.mono ?_; clear hn; rintro e w1 ⟨sb, rfl, hS, hB⟩)
    | fail)
  go_ret
  exact ⟨sb, rfl, hS, hB⟩
end Go.Proofs
