/-
  'paths' and 'owned' of the statements: a path, the document's answer beside it, and rows of marks.
-/
import Derived.Test.YtoibnhknkhefjaaGreatDoorJrp
import Derived.Test.YtoibnhknkhefjaaGreatDoorJls
import Derived.Test.YtoibnhknkhefjaaGreatDoorJmk
import Derived.Deep.DeepCutAuto
import Derived.BigQuiet
namespace Go.Jv
theorem pathF_bad (s : ByteArray) : ∀ (n p : Nat) (parts : List ByteArray) (part : List UInt8) (q e : Nat), pathF s n p parts part = .bad q e → e ≠ 0 := by
  intro n
  induction n with
  | zero =>
    intro p parts part q e h
    rw [pathF] at h; cases h
  | succ n ih =>
    intro p parts part q e h
    by_cases hp : p < s.size
    · rw [pathF_step s n p parts part hp] at h
      split at h
      · injection h with h1 h2; omega
      · split at h
        · exact ih _ _ _ _ _ h
        · split at h
          · exact ih _ _ _ _ _ h
          · split at h
            · injection h with h1 h2; omega
            · exact ih _ _ _ _ _ h
    · rw [pathF_end s (n + 1) p parts part hp] at h; cases h
theorem path_ne {s : ByteArray} {q e : Nat} (h : path s = .bad q e) : e ≠ 0 := by
  unfold path at h
  split at h
  · injection h with h1 h2; omega
  · exact pathF_bad s _ _ _ _ _ _ h
/-- Where a path is wrong, and how; noughts where it is not. -/
def pP (s : ByteArray) : Nat := match path s with
  | .ok _ => 0
  | .bad p _ => p
def pE (s : ByteArray) : Nat := match path s with
  | .ok _ => 0
  | .bad _ e => e
end Go.Jv
namespace Go.Proofs
open Go.RowKit Go.Jv
/-- The error that 'Path' gives. -/
inductive Tryz.EvP (s : ByteArray) (w : World) (ev : Value) : Prop
  | good (l : List ByteArray) (h : path s = .ok l) (he : ev = .nilIface)
  | wrong (p e y : Nat) (h : path s = .bad p e) (he : ev = .iface 71 (.pointer (some ⟨y, 0, none⟩))) (c0 : w.cell? ⟨y, 0, none⟩ = some (.int .i64 (p : Nat))) (c1 : w.cell? ⟨y, 1, none⟩ = some (.int .i64 (e : Nat))) (hy : y < w.heap.size)
theorem Tryz.EvP.below {s : ByteArray} {w w' : World} {ev : Value} (h : Tryz.EvP s w ev) (hb : Below w.heap.size w w') : Tryz.EvP s w' ev := by
  cases h with
  | good l h he => exact .good l h he
  | wrong p e y h he c0 c1 hy => exact .wrong p e y h he ((hb.cell (p := ⟨y, 0, none⟩) hy).trans c0) ((hb.cell (p := ⟨y, 1, none⟩) hy).trans c1) (Nat.lt_of_lt_of_le hy hb.size)
theorem Tryz.fault_ev (s : ByteArray) (w : World) (ev : Value) (h : Tryz.EvP s w ev) :
    Calls Tryz.prog 19 #[ev] w fun en w' => en = .returned (.tuple #[.int .i64 (pP s : Nat), .int .i64 (pE s : Nat), .bool true]) ∧ Jv.Off 0 0 w w' := by
  cases h with
  | good l h he =>
    subst he
    refine (Tryz.lawFault_nil w).mono fun en w' ⟨h1, h2⟩ => ⟨?_, ?_⟩
    · rw [h1]; unfold pP pE; rw [h]; rfl
    · subst h2; exact Jv.Off.refl _ _ _
  | wrong p e y h he c0 c1 hy =>
    subst he
    refine (Tryz.lawFault_some w y p e c0 c1 (path_ne h)).mono fun en w' ⟨h1, n, h2⟩ => ⟨?_, ?_⟩
    · rw [h1]; unfold pP pE; rw [h]
    · subst h2; exact (Jv.Off.refl 0 0 w).same rfl rfl rfl rfl
theorem Tryz.path_evp (s : ByteArray) (hs : s.size ≤ 140737488355328) (w : World) (hT : Tryz.Tb w) :
    Calls Tryz.prog 20 #[.string s] w fun en w' => ∃ a c ev, en = .returned (.tuple #[.slice a (lst s).length c, ev]) ∧ Tryz.Own w' (.slice a (lst s).length c) w.heap.size w'.heap.size (lst s) ∧ (lst s).length ≤ 1000 ∧ Below w.heap.size w w' ∧ Tryz.EvP s w' ev := by
  refine (Tryz.path_any s hs w hT).mono fun en w' h => ?_
  rcases h with ⟨l, v, h1, h2, h3, h4⟩ | ⟨p, e, y, h1, h2, c0, c1, hy, h4⟩
  · obtain ⟨e1, e2, e3⟩ := lst_ok h1
    rw [e1]
    obtain ⟨g, c, rfl, hb, hlt⟩ := h3.form e2
    exact ⟨_, c, _, h2, ⟨h3, fun k hk => by simp [Value.ownBlock] at hk; omega, Nat.le_refl _⟩, e3, h4, .good l h1 rfl⟩
  · rw [lst_bad h1]
    refine ⟨none, 0, _, h2, ⟨⟨rfl, .inl ⟨rfl, rfl⟩⟩, fun k hk => by simp [Value.ownBlock] at hk, Nat.le_refl _⟩, by simp, h4, .wrong p e y h1 rfl c0 c1 ?_⟩
    by_cases hlt : y < w'.heap.size
    · exact hlt
    · have hnone : w'.heap[y]? = none := Array.getElem?_eq_none (by omega)
      simp [World.cell?, hnone] at c0
theorem Tryz.refPath_r (s : ByteArray) (hs : s.size ≤ 140737488355328) (w : World) :
    Calls Tryz.prog 29 #[.string s] w fun en w' => ∃ a c, en = .returned (.tuple #[.slice a (lst s).length c, .int .i64 (pP s : Nat), .int .i64 (pE s : Nat)]) ∧ Jv.Rr w' (.slice a (lst s).length c) (lst s) (fun g => w.heap.size ≤ g) ∧ Below w.heap.size w w' := by
  refine (Tryz.refPath_any s hs w).mono fun en w' h => ?_
  rcases h with ⟨l, v, h1, h2, h3, h4⟩ | ⟨p, e, h1, h2, h4⟩
  · obtain ⟨e1, e2, e3⟩ := lst_ok h1
    unfold pP pE
    rw [e1, h1]
    obtain ⟨g, c, rfl, hb, hlt⟩ := h3.form e2
    have hr := Tryz.Own.rr (hi := w'.heap.size) ⟨h3, fun k hk => by simp [Value.ownBlock] at hk; omega, Nat.le_refl _⟩
    exact ⟨_, c, h2, hr.mono (fun g h _ => h.1), h4⟩
  · unfold pP pE
    rw [lst_bad h1, h1]
    exact ⟨none, 0, h2, ⟨none, 0, rfl, .inl rfl⟩, h4⟩
/-- Four rows of one mark. -/
structure Jv.Fours (w : World) (g : Nat) (mk : ByteArray) : Prop where
  lt : g < w.heap.size
  all : ∀ j, j < 4 → ∃ a n c, w.cell? ⟨g, j, none⟩ = some (.slice a n c) ∧ Jv.Rr w (.slice a n c) (List.replicate n mk) (fun _ => True) ∧ n ≤ 2000
theorem Jv.Fours.below {w w' : World} {g : Nat} {mk : ByteArray} (h : Jv.Fours w g mk) (hb : Below w.heap.size w w') : Jv.Fours w' g mk :=
  ⟨Nat.lt_of_lt_of_le h.lt hb.size, fun j hj => by
    obtain ⟨a, n, c, h1, h2, h3⟩ := h.all j hj
    exact ⟨a, n, c, (hb.cell (p := ⟨g, j, none⟩) h.lt).trans h1, h2.keep (fun g _ hg => hb.block g hg) hb.size, h3⟩⟩
set_option maxRecDepth 100000 in
set_option maxHeartbeats 4000000 in
theorem Tryz.owned_any (w : World) (g : Nat) (mk : ByteArray) (h : Jv.Fours w g mk) :
    Calls Tryz.prog 10 #[.slice (some ⟨g, 0, none⟩) 4 4, .string mk] w fun en w' => en = .returned (.bool true) ∧ w' = w := by
  have HF : Hid _ := h
  clear h
  go_enter Tryz.func10, Tryz.ntmps10
  go_wp2
  go_loopw [5] (fun i wr => ∃ k : Nat, k ≤ 4 ∧ i = .int .i64 k ∧ wr = w) (fun i _ => 4 - (intOf i).toNat)
  case atStart => exact ⟨0, by omega, rfl, rfl⟩
  case round =>
    obtain ⟨k, hk, rfl, rfl⟩ := hrel
    by_cases hk4 : k < 4
    · have q0 : (k : Int) < 4 := by omega
      obtain ⟨a, n, c, c0, hr, hn⟩ := HF.out.all k hk4
      have HR : Hid _ := hr
      clear hr
      go_wp2
      go_loopw [6] (fun i wx => ∃ j : Nat, j ≤ n ∧ i = .int .i64 j ∧ wx = wr) (fun i _ => n - (intOf i).toNat)
      case atStart => exact ⟨0, by omega, rfl, rfl⟩
      case round =>
        obtain ⟨j, hj, rfl, rfl⟩ := hrel
        by_cases hjn : j < n
        · have q1 : (j : Int) < (n : Int) := by omega
          obtain ⟨gx, rfl, -, -, c1⟩ := HR.out.at (Jv.rep_get mk hjn)
          go_wp2
          go_roundw
          case rel => exact ⟨j + 1, by omega, by go_num, by trivial⟩
          case measure => simp [intOf]; omega
        · have q1 : ¬ (j : Int) < (n : Int) := by omega
          go_wp2
          go_roundw
          case rel => exact ⟨k + 1, by omega, by go_num, by trivial⟩
          case measure => simp [intOf]; omega
    · have q0 : ¬ (k : Int) < 4 := by omega
      go_wp2
      go_ret
      exact ⟨rfl, rfl⟩
set_option maxRecDepth 100000 in
set_option maxHeartbeats 4000000 in
theorem Tryz.paths_any (s : ByteArray) (hs : s.size ≤ 140737488351232) (mk : ByteArray) (w : World) (hT : Tryz.Tb w) :
    Calls Tryz.prog 9 #[.string s, .string mk] w fun en w' => ∃ rv g, en = .returned (.tuple #[rv, .slice (some ⟨g, 0, none⟩) 4 4, .bool true]) ∧ Jv.Fours w' g mk ∧ Below w.heap.size w w' := by
  have hp := Tryz.path_evp s (by omega) w hT
  have hq := fun W => Tryz.refPath_r s (by omega) W
  have hf := fun W ev hW => Tryz.fault_ev s W ev hW
  clear hT
  generalize lst s = l at *
  generalize pP s = P at *
  generalize pE s = E at *
  go_enter Tryz.func9, Tryz.ntmps9
  go_wp2_with (first
    | (go_at_call 20; refine hp.mono ?_; clear hp; rintro e1 w1 ⟨a, c, ev, rfl, o1, hl, hb1, v1⟩)
    | (go_at_call 29; refine (hq _).mono ?_; clear hq; rintro e2 w2 ⟨ar, cr, rfl, r2, hb2⟩; have v2 := v1.below hb2)
    | (go_at_call 19; refine (hf _ _ v2).mono ?_; clear hf v1; rintro e3 w3 ⟨rfl, hb3⟩)
    | fail)
  have z1 := hb1.size
  have z2 := hb2.size
  have oa3 := (o1.keep (fun g _ h => hb2.block g h) hb2.size).off hb3 (.inr (Nat.zero_le _))
  have rr3 := r2.off hb3 (fun g _ h => by omega)
  have hbb := Jv.bthen0 (Jv.bthen0 hb1 hb2) (Jv.same0 hb3)
  clear o1 r2 hb1 hb2 hb3 v2
  have OA : Hid _ := oa3
  have RX : Hid _ := rr3
  clear oa3 rr3
  generalize w1.heap.size = n1 at *
  have z3 := hbb.size
  go_loopw [15] (fun i wr => ∃ k : Nat, k ≤ l.length ∧ i = .int .i64 k ∧ Tryz.Own wr (.slice a l.length c) w.heap.size n1 (List.replicate k mk ++ l.drop k) ∧ Jv.Off w.heap.size n1 w3 wr) (fun i _ => l.length - (intOf i).toNat)
  case atStart => exact ⟨0, by omega, rfl, OA.out, Jv.Off.refl _ _ _⟩
  case round =>
    obtain ⟨k, hk, rfl, ho, hoff⟩ := hrel
    by_cases hlk : k < l.length
    · have q0 : (k : Int) < (l.length : Int) := by omega
      obtain ⟨X, hX⟩ : ∃ X, l[k]? = some X := ⟨_, List.getElem?_eq_getElem hlk⟩
      obtain ⟨ga, rfl, -, hg1, hg2, hg3, c1, f1⟩ := ho.at ((Jv.rep_at mk hlk).trans hX)
      obtain ⟨gc, rfl, -, -, c2⟩ := (RX.out.off hoff (fun g h1 h2 => by omega)).at hX
      have HO : Hid _ := ho
      have HF : Hid _ := hoff
      clear ho hoff hX
      go_wp2_with fail
      go_quiet (fail)
      go_wp2
      go_roundw
      case rel =>
        refine ⟨k + 1, by omega, by go_num, ?_, (HF.out.same (by rfl) (by rfl) (by rfl) (by rfl)).set hg1 hg2⟩
        rw [← Jv.rep_set mk hlk]
        exact (HO.out.keep (w' := wr.drewN _) (fun _ _ _ => rfl) (Nat.le_refl _)).set (Jv.rep_len mk hk).symm k mk
      case measure => simp [intOf]; omega
    · have q0 : ¬ (k : Int) < (l.length : Int) := by omega
      rw [Jv.rep_full mk (by omega)] at ho
      have hbb4 := hbb.trans (hoff.below.mono (Nat.le_refl _))
      have zo := Nat.le_of_eq hoff.size.symm
      clear OA RX hbb hoff
      have OA : Hid _ := ho
      clear ho
      obtain ⟨W7, hW⟩ : ∃ W : World, W = wr := ⟨_, rfl⟩
      subst hW
      have OA7 := OA.out
      clear OA
      go_wp2_with (first
        | (at_builtin; refine Tryz.app_mark rfl _ _ rfl W7 (.slice a l.length c) rfl 1 rfl w.heap.size n1 l.length mk OA7 (by omega) (by omega) (by omega) (by omega) ?_; clear OA7; intro a1 c1 w8 r8 o8 hb8 hk8; have z8 := hb8.size)
        | (at_builtin; refine Tryz.app_mark rfl _ _ rfl w8 (.slice a l.length c) rfl 2 rfl w.heap.size n1 l.length mk o8 (by omega) (by omega) (by omega) (by omega) ?_; clear o8; intro a2 c2 w9 r9 o9 hb9 hk9; have z9 := hb9.size)
        | (at_builtin; refine Tryz.app_mark rfl _ _ rfl w9 (.slice a l.length c) rfl 3 rfl w.heap.size n1 l.length mk o9 (by omega) (by omega) (by omega) (by omega) ?_; clear o9; intro a3 c3 w10 r10 o10 hb10 hk10)
        | fail)
      go_ret3
      have hbz := ((hbb4.trans hb8).trans hb9).trans hb10
      have hba := (Below.refl w10.heap.size w10).alloc (Nat.le_refl _) (.cells #[.slice a l.length c, .slice a1 (l.length + 1) c1, .slice a2 (l.length + 2) c2, .slice a3 (l.length + 3) c3] 23)
      have k0 := (o10.rr.mono (ok' := fun _ => True) (fun _ _ _ => trivial)).keep (fun g _ hg => hba.block g hg) hba.size
      have k1 := (hk10 _ (l.length + 1) (by omega) (hk9 _ (l.length + 1) (by omega) r8)).keep (fun g _ hg => hba.block g hg) hba.size
      have k2 := (hk10 _ (l.length + 2) (by omega) r9).keep (fun g _ hg => hba.block g hg) hba.size
      have k3 := r10.keep (fun g _ hg => hba.block g hg) hba.size
      refine ⟨_, w10.heap.size, rfl, ⟨by simp, fun j hj => ?_⟩, hbz.alloc hbz.size _⟩
      have h4 : j = 0 ∨ j = 1 ∨ j = 2 ∨ j = 3 := by omega
      rcases h4 with rfl | rfl | rfl | rfl
      · exact ⟨_, _, _, cell_of_row _ _ 0 _ _ _ (heap_alloc_new w10 _), k0, by omega⟩
      · exact ⟨_, _, _, cell_of_row _ _ 1 _ _ _ (heap_alloc_new w10 _), k1, by omega⟩
      · exact ⟨_, _, _, cell_of_row _ _ 2 _ _ _ (heap_alloc_new w10 _), k2, by omega⟩
      · exact ⟨_, _, _, cell_of_row _ _ 3 _ _ _ (heap_alloc_new w10 _), k3, by omega⟩
end Go.Proofs
