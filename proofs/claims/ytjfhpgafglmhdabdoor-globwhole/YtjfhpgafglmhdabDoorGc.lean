/-
  GLOB: 'Compile', 'Whole', 'Within'.
-/
import Derived.Test.YtjfhpgafglmhdabDoorGu
import Derived.Test.YtjfhpgafglmhdabDoorEdge
import Derived.Test.YtjfhpgafglmhdabDoorFold2
namespace Go.Gl
theorem rnFrom_len (s : ByteArray) : ∀ f p, (rnFrom s f p).length ≤ f := by
  intro f
  induction f with
  | zero => intro p; exact Nat.le_refl _
  | succ f ih =>
    intro p
    rw [rnFrom]
    split
    · simp only [List.length_cons]; have := ih (p + (Utf8.decode s p).2); omega
    · simp
theorem rd_len : ∀ (rs : List Nat) (ps : List P) (e : Bool), (rd ps e rs).1.length ≤ ps.length + rs.length := by
  intro rs
  induction rs with
  | nil => intro ps e; simp [rd]
  | cons r rs ih =>
    intro ps e
    rw [rd]
    split
    · simp
    · split
      · have := ih ps true; simp only [List.length_cons]; omega
      · split
        · have := ih (join ps .any) false; have := join_len ps .any; simp only [List.length_cons]; omega
        · split
          · have := ih (join ps .one) false; have := join_len ps .one; simp only [List.length_cons]; omega
          · have := ih (join ps (.fix r)) false; have := join_len ps (.fix r); simp only [List.length_cons]; omega
theorem comp_len {s : ByteArray} {ps : List P} (h : comp s = some ps) : ps.length ≤ 100 := by
  unfold comp at h
  split at h
  · cases h
  · split at h
    · cases h
    · split at h
      · have h1 := rd_len (rns (Sg.fold s)) [] false
        have h2 := rnFrom_len (Sg.fold s) (Sg.fold s).size 0
        rw [Sg.fold_size] at h2
        have h3 := Option.some.inj h
        rw [h3] at h1
        unfold rns at h1
        rw [Sg.fold_size] at h1
        simp at h1
        omega
      · cases h
end Go.Gl
namespace Go.Proofs
open Go.RowKit Go.Gl
/-- A pattern in memory. -/
def Tryd.Gb (w : World) (x : Nat) (ps : List P) : Prop := ∃ v, w.heap[x]? = some (.cells #[v] 47) ∧ w.ownsRow 0 45 2 v ps.length (cellsOf ps)
theorem Tryd.Gb.keep {w w' : World} {x : Nat} {ps : List P} (h : Tryd.Gb w x ps) (hb : Below w.heap.size w w') : Tryd.Gb w' x ps := by
  obtain ⟨v, h1, h2⟩ := h
  exact ⟨v, by rw [hb.block x (Array.getElem?_eq_some_iff.1 h1).1]; exact h1, Gl.row_below h2 hb⟩
def Tryd.CompOk (s : ByteArray) (e : Ending) (w' : World) : Prop :=
  match comp s with
  | none => e = .returned (.tuple #[.pointer none, .int .i64 30])
  | some ps => ∃ x, e = .returned (.tuple #[.pointer (some ⟨x, 0, none⟩), .int .i64 0]) ∧ Tryd.Gb w' x ps ∧ ps.length ≤ 100
set_option maxHeartbeats 2000000 in
/-- G1. -/
theorem Tryd.compile_any (s : ByteArray) (w : World) (hs : s.size ≤ maxLen) (hT : Tryd.Tabs w) :
    Calls Tryd.prog 18 #[.string s] w fun e w' => Tryd.CompOk s e w' ∧ Below w.heap.size w w' := by
  have hlen := @comp_len s
  unfold Tryd.CompOk
  by_cases h1 : 100 < s.size
  · have hc : comp s = none := by unfold comp; rw [if_pos h1]
    rw [hc]
    have b1 : (100 : Int) < (s.size : Int) := by omega
    go_enter Tryd.func18, Tryd.ntmps18
    go_wp2
    go_ret2
    exact ⟨rfl, Below.refl _ _⟩
  · have b1 : ¬ (100 : Int) < (s.size : Int) := by omega
    have hv := Tryd.valid_any s w hs
    cases hval : Sg.valid s with
    | false =>
      have hc : comp s = none := by unfold comp; rw [if_neg h1, if_pos hval]
      rw [hc]
      rw [hval] at hv
      clear hlen
      go_enter Tryd.func18, Tryd.ntmps18
      go_wp2_with (first | (go_at_call 26; refine hv.mono ?_; clear hv; rintro e1 w1 ⟨rfl, hb1⟩) | fail)
      go_ret2
      exact ⟨rfl, hb1⟩
    | true =>
      rw [hval] at hv
      have hfo := fun W hW => Tryd.fold_any s W (by omega) hW
      have hre := fun W => Tryd.read_any (Sg.fold s) W (by rw [Sg.fold_size]; omega)
      have hcs : comp s = if (rd [] false (rns (Sg.fold s))).2 = true then some (rd [] false (rns (Sg.fold s))).1 else none := by unfold comp; rw [if_neg h1, if_neg (by rw [hval]; simp)]
      generalize rd [] false (rns (Sg.fold s)) = R at *
      obtain ⟨ps, ok⟩ := R
      cases ok with
      | false =>
        have hc : comp s = none := hcs
        rw [hc]
        simp only [] at hre
        clear hlen hcs hc
        go_enter Tryd.func18, Tryd.ntmps18
        go_wp2_with (first | (go_at_call 26; refine hv.mono ?_; clear hv; rintro e1 w1 ⟨rfl, hb1⟩; have hT1 := hT.below hb1) | (go_at_call 29; refine (hfo _ hT1).mono ?_; clear hfo; rintro e2 w2 ⟨rfl, hb2⟩) | (go_at_call 37; refine (hre _).mono ?_; clear hre; rintro e3 w3 ⟨v, rfl, hb3, -⟩) | fail)
        go_ret2
        exact ⟨rfl, hb1.trans ((hb2.trans (hb3.mono hb2.size)).mono hb1.size)⟩
      | true =>
        have hc : comp s = some ps := hcs
        have hl := hlen hc
        rw [hc]
        simp only [] at hre
        clear hlen hcs hc
        go_enter Tryd.func18, Tryd.ntmps18
        go_wp2_with (first | (go_at_call 26; refine hv.mono ?_; clear hv; rintro e1 w1 ⟨rfl, hb1⟩; have hT1 := hT.below hb1) | (go_at_call 29; refine (hfo _ hT1).mono ?_; clear hfo; rintro e2 w2 ⟨rfl, hb2⟩) | (go_at_call 37; refine (hre _).mono ?_; clear hre; rintro e3 w3 ⟨v, rfl, hb3, hown3⟩; have h3 := hown3 (by trivial); obtain ⟨va, vm, vc, rfl⟩ := row_slice h3; have Hown : Hid _ := h3; clear hown3 h3) | fail)
        go_ret2
        have hbb := hb1.trans ((hb2.trans (hb3.mono hb2.size)).mono hb1.size)
        exact ⟨⟨_, rfl, ⟨_, heap_alloc_new w3 _, Gl.row_alloc (row_mono Hown.out (Nat.zero_le _)) _⟩, hl⟩, hbb.alloc hbb.size _⟩
theorem Tryd.Tk.iter {w w' : World} {t r q : Nat} {v : Value} {ps : List P} (h : Tryd.Tk w t r v ps) (hg : w.grownBy w' (some q)) (h1 : t ≠ q) (_h2 : r ≠ q) (h3 : ∀ k, v.ownBlock = some k → k ≠ q) : Tryd.Tk w' t r v ps := by
  refine ⟨?_, ?_, h.tr, h.vr, Nat.lt_of_lt_of_le h.hr hg.size⟩
  · rw [hg.block t (Array.getElem?_eq_some_iff.1 h.blk).1 (by simpa using h1)]; exact h.blk
  · refine h.row.kept hg ?_
    right
    intro e
    exact h3 q e rfl
set_option maxHeartbeats 4000000 in
set_option maxRecDepth 100000 in
/-- G2. -/
theorem Tryd.whole_any (ps : List P) (x : Nat) (t : ByteArray) (w : World) (hG : Tryd.Gb w x ps) (hl : ps.length ≤ 100) (hs : t.size ≤ 140737488355324) (hT : Tryd.Tabs w) :
    Calls Tryd.prog 14 #[.pointer (some ⟨x, 0, none⟩), .string t] w fun e w' => e = .returned (.bool (wholeB ps t)) ∧ Below w.heap.size w w' := by
  have hv := Tryd.valid_any t w (by unfold maxLen; omega)
  unfold wholeB
  cases hval : Sg.valid t with
  | false =>
    rw [hval] at hv
    go_enter Tryd.func14, Tryd.ntmps14
    go_wp2_with (first | (go_at_call 26; refine hv.mono ?_; clear hv; rintro e1 w1 ⟨rfl, hb1⟩) | fail)
    go_ret
    exact ⟨rfl, hb1⟩
  | true =>
    rw [hval] at hv
    have hfo := fun W hW => Tryd.fold_any t W hs hW
    have hfs : (Sg.fold t).size ≤ 140737488355324 := by rw [Sg.fold_size]; exact hs
    generalize Sg.fold t = F at *
    rw [Bool.true_and]
    have HG : Hid (Tryd.Gb w x ps) := hG
    clear hG
    go_enter Tryd.func14, Tryd.ntmps14
    go_wp2_with (first
      | (go_at_call 26; refine hv.mono ?_; clear hv; rintro e1 w1 ⟨rfl, hb1⟩; obtain ⟨v, hvb, hvo⟩ := HG.out.keep hb1; have hcv : w1.cell? ⟨x, 0, none⟩ = some v := by { simp [World.cell?, hvb] }; have hnt := Tryd.newTrack_any ps v ps.length w1 rfl hvo (by omega); clear hvb hvo)
      | (go_at_call 27; refine hnt.mono ?_; clear hnt; rintro e2 w2 ⟨r, tk, rfl, hTk2, hrow2, hb2, hr2, ht2⟩; have hbe := Tryd.begin_any ps v tk r _ w2 hTk2 hrow2 (by omega))
      | (go_at_call 28; refine hbe.mono ?_; clear hbe; rintro e3 w3 ⟨rfl, hg3, hrow3⟩; have hTk3 := hTk2.keep hg3; have hbB : Below w.heap.size w w3 := (hb1.trans (hb2.mono hb1.size)).grown hg3 (by have := hb1.size; have := hb2.size; omega) (fun k hk => by have := hb1.size; simp at hk; omega); have hT3 := hT.below hbB)
      | (go_at_call 29; refine (hfo _ hT3).mono ?_; clear hfo; rintro e4 w4 ⟨rfl, hb4⟩)
      | fail)
    have hbB4 : Below w.heap.size w w4 := hbB.trans (hb4.mono hbB.size)
    have hTk4 : Tryd.Tk w4 tk r v ps := hTk3.keep ⟨hb4.os, hb4.tape, hb4.output, hb4.size, fun k hk _ => hb4.block k hk⟩
    have hrow4 := hrow3.of_block (hb4.block r hTk3.hr)
    have hs1 := hb1.size
    have hs4 := hbB4.size
    have hr4 := hTk4.hr
    have ht4 := (Array.getElem?_eq_some_iff.1 hTk4.blk).1
    have hvl4 : ∀ k, v.ownBlock = some k → k ≠ w4.heap.size := fun k hk => by have := hTk4.row.lt k hk; omega
    clear hTk2 hrow2 hg3 hrow3 hTk3 hb4 hb2 hb1 hcv hbB hT3 HG
    go_loopw [] (fun wr => ∃ (pos fuel : Nat) (f : Nat → Bool), wr.heap[w4.heap.size]? = some (.stringIter F pos) ∧ Tryd.Tk wr tk r v ps ∧ wr.rowIs r 4 (ps.length + 1) (fun i => .bool (f i)) ∧ Below w.heap.size w wr ∧ passAll ps (rnFrom F fuel pos) f = passAll ps (rns F) (bg ps fun _ => false) ∧ F.size ≤ pos + fuel) (fun wr => F.size - wr.iterPos w4.heap.size)
    case atStart =>
      refine ⟨0, F.size, _, ?_, hTk4.keep (World.grownBy_alloc _ _ _), hrow4.of_block (Below.heap_alloc _ _ _ hr4), hbB4.alloc hs4 _, rfl, by omega⟩
      have := World.iter_heap w4 F 0
      simpa using this
    case round =>
      obtain ⟨pos, fuel, f, hit, hTk, hrow, hbw, hacc, hfu⟩ := hrel
      have hsz : w4.heap.size < wr.heap.size := (Array.getElem?_eq_some_iff.1 hit).1
      by_cases hp : pos < F.size
      · have hnx : ∀ ty, (Instr.next (.pointer (some ⟨w4.heap.size, 0, none⟩)) true ty).run Tryd.prog wr = _ := fun ty => Lib.run_next_any_at wr w4.heap.size F pos ty hit hp
        have hwd := Lib.width_pos F pos
        have hrl := Lib.rune_le F pos
        have hit2 := Lib.iterAt_heap wr w4.heap.size F pos (pos + (Utf8.decode F pos).2) hit
        have hbw2 := Lib.below_iterAt hbw (k := w4.heap.size) (by omega) F (pos + (Utf8.decode F pos).2)
        have hsz2 : w4.heap.size < (wr.iterAt w4.heap.size F (pos + (Utf8.decode F pos).2)).heap.size := by rw [Lib.iterAt_size]; omega
        obtain ⟨fu, rfl⟩ : ∃ fu, fuel = fu + 1 := ⟨fuel - 1, by omega⟩
        rw [rnFrom_step F fu pos hp, passAll] at hacc
        have hgi : wr.grownBy (wr.iterAt w4.heap.size F (pos + (Utf8.decode F pos).2)) (some w4.heap.size) := ⟨rfl, rfl, rfl, by rw [Lib.iterAt_size]; exact Nat.le_refl _, fun k _ hk => Lib.iterAt_other wr _ k F _ (by simpa using hk)⟩
        have hTk2 : Tryd.Tk (wr.iterAt w4.heap.size F (pos + (Utf8.decode F pos).2)) tk r v ps := Tryd.Tk.iter hTk hgi (by omega) (by omega) hvl4
        have hrow2 := hrow.of_block (Lib.iterAt_other wr w4.heap.size r F (pos + (Utf8.decode F pos).2) (by omega))
        have hpa := Tryd.pass_any ps v tk r (Utf8.decode F pos).1 f _ hTk2 hrow2 (by omega) hrl
        generalize Utf8.decode F pos = D at *
        obtain ⟨c, k⟩ := D
        simp only [] at hpa hacc hwd hrl hit2 hbw2 hsz2 hnx hTk2
        have Hacc : Hid _ := hacc
        clear hacc hTk hrow hrow2 hgi hbw
        go_wp2_with (first | (go_at_call 30; refine hpa.mono ?_; clear hpa; rintro e5 w5 ⟨rfl, hg5, hrow5⟩) | fail)
        have hit5 : w5.heap[w4.heap.size]? = some (.stringIter F (pos + k)) := (hg5.block _ hsz2 (by simp; omega)).trans hit2
        go_roundw
        case rel => exact ⟨pos + k, fu, _, hit5, hTk2.keep hg5, hrow5, hbw2.grown hg5 (by omega) (fun j hj => by simp at hj; omega), Hacc.out, by omega⟩
        case measure =>
          simp only [World.iterPos, hit, hit5]
          omega
      · have hnx : ∀ ty, (Instr.next (.pointer (some ⟨w4.heap.size, 0, none⟩)) true ty).run Tryd.prog wr = _ := fun ty => Lib.run_next_end_at wr w4.heap.size F pos ty hit hp
        rw [rnFrom_end F fuel pos hp, passAll] at hacc
        have hme := Tryd.meant_any ps v tk r f wr hTk hrow (by omega)
        have Hacc : Hid _ := hacc
        clear hacc
        go_wp2_with (first | (go_at_call 31; refine hme.mono ?_; clear hme; rintro e5 w5 ⟨rfl, rfl⟩) | fail)
        go_ret
        exact ⟨Sg.ret_bool (by rw [Hacc.out]), hbw.drew⟩
end Go.Proofs
