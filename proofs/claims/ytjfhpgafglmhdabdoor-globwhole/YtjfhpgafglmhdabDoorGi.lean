/-
  GLOB: 'Within'.
-/
import Derived.Test.YtjfhpgafglmhdabDoorGc
namespace Go.Gl
theorem wiFrom_step (ps : List P) (t F : ByteArray) (n pos : Nat) (f : Nat → Bool) (h : pos < F.size) : wiFrom ps t F (n + 1) pos f =
    (if Sg.edgeN t pos = true then
        (if bg ps f ps.length = true then true
         else wiFrom ps t F n (pos + (Utf8.decode F pos).2) (pass ps (bg ps f) (Utf8.decode F pos).1))
       else wiFrom ps t F n (pos + (Utf8.decode F pos).2) (pass ps f (Utf8.decode F pos).1)) := if_pos h
theorem wiFrom_end (ps : List P) (t F : ByteArray) (n pos : Nat) (f : Nat → Bool) (h : ¬ pos < F.size) : wiFrom ps t F n pos f = bg ps f ps.length := by
  cases n with
  | zero => rfl
  | succ n => exact if_neg h
end Go.Gl
namespace Go.Proofs
open Go.RowKit Go.Gl
set_option maxHeartbeats 4000000 in
set_option maxRecDepth 100000 in
/-- G3. -/
theorem Tryd.within_any' (ps : List P) (x : Nat) (t : ByteArray) (w : World) (hG : Tryd.Gb w x ps) (hl : ps.length ≤ 100) (hs : t.size ≤ 140737488355324) (hT : Tryd.Tabs w) :
    Calls Tryd.prog 16 #[.pointer (some ⟨x, 0, none⟩), .string t] w fun e w' => e = .returned (.bool (Gl.withinB ps t)) ∧ Below w.heap.size w w' := by
  have hv := Tryd.valid_any t w (by unfold maxLen; omega)
  unfold Gl.withinB
  cases hval : Sg.valid t with
  | false =>
    rw [hval] at hv
    go_enter Tryd.func16, Tryd.ntmps16
    go_wp2_with (first | (go_at_call 26; refine hv.mono ?_; clear hv; rintro e1 w1 ⟨rfl, hb1⟩) | fail)
    go_ret
    exact ⟨rfl, hb1⟩
  | true =>
    rw [hval] at hv
    have hfo := fun W hW => Tryd.fold_any t W hs hW
    have hfs : (Sg.fold t).size = t.size := Sg.fold_size t
    generalize Sg.fold t = F at *
    rw [Bool.true_and]
    have HG : Hid (Tryd.Gb w x ps) := hG
    clear hG
    go_enter Tryd.func16, Tryd.ntmps16
    go_wp2_with (first
      | (go_at_call 26; refine hv.mono ?_; clear hv; rintro e1 w1 ⟨rfl, hb1⟩; obtain ⟨v, hvb, hvo⟩ := HG.out.keep hb1; have hcv : w1.cell? ⟨x, 0, none⟩ = some v := by { simp [World.cell?, hvb] }; have hnt := Tryd.newTrack_any ps v ps.length w1 rfl hvo (by omega); clear hvb hvo)
      | (go_at_call 27; refine hnt.mono ?_; clear hnt; rintro e2 w3 ⟨r, tk, rfl, hTk3, hrow3, hb2, hr2, ht2⟩; have hbB : Below w.heap.size w w3 := hb1.trans (hb2.mono hb1.size); have hT3 := hT.below hbB)
      | (go_at_call 29; refine (hfo _ hT3).mono ?_; clear hfo; rintro e4 w4 ⟨rfl, hb4⟩)
      | fail)
    have hbB4 : Below w.heap.size w w4 := hbB.trans (hb4.mono hbB.size)
    have hTk4 : Tryd.Tk w4 tk r v ps := hTk3.keep ⟨hb4.os, hb4.tape, hb4.output, hb4.size, fun k hk _ => hb4.block k hk⟩
    have hrow4 := hrow3.of_block (hb4.block r hTk3.hr)
    have hs1 := hb1.size
    have hs4 := hbB4.size
    have hr4 := hTk4.hr
    have ht4 := (Array.getElem?_eq_some_iff.1 hTk4.blk).1
    have hvl4 : ∀ k, v.ownBlock = some k → k ≠ w4.heap.size := fun k hk => by have := hTk4.row.lt k hk; omega
    clear hrow3 hTk3 hb4 hb2 hb1 hcv hbB hT3 HG
    have HT : Hid (Tryd.Tabs w) := hT
    have hHT : Hid (Sg.valid t = true) := hval
    clear hT hval
    go_loopw [] (fun wr => ∃ (pos fuel : Nat) (f : Nat → Bool), wr.heap[w4.heap.size]? = some (.stringIter F pos) ∧ Tryd.Tk wr tk r v ps ∧ wr.rowIs r 4 (ps.length + 1) (fun i => .bool (f i)) ∧ Below w.heap.size w wr ∧ wiFrom ps t F fuel pos f = wiFrom ps t F F.size 0 (fun _ => false) ∧ F.size ≤ pos + fuel) (fun wr => F.size - wr.iterPos w4.heap.size)
    case atStart =>
      refine ⟨0, F.size, fun _ => false, ?_, hTk4.keep (World.grownBy_alloc _ _ _), hrow4.of_block (Below.heap_alloc _ _ _ hr4), hbB4.alloc hs4 _, rfl, by omega⟩
      have := World.iter_heap w4 F 0
      simpa using this
    case round =>
      obtain ⟨pos, fuel, f, hit, hTk, hrow, hbw, hacc, hfu⟩ := hrel
      have hsz : w4.heap.size < wr.heap.size := (Array.getElem?_eq_some_iff.1 hit).1
      by_cases hp : pos < F.size
      · have hnx : ∀ ty, (Instr.next (.pointer (some ⟨w4.heap.size, 0, none⟩)) true ty).run Tryd.prog wr = _ := fun ty => Lib.run_next_any_at wr w4.heap.size F pos ty hit hp
        have hwd := Lib.width_pos F pos
        have hrl := Lib.rune_le F pos
        have hit2 := Lib.iterAt_heap wr w4.heap.size F pos (pos + (Utf8.decode F pos).2) hit
        have hbw2 := Lib.below_iterAt hbw (k := w4.heap.size) (by omega) F (pos + (Utf8.decode F pos).2)
        have hsz2 : w4.heap.size < (wr.iterAt w4.heap.size F (pos + (Utf8.decode F pos).2)).heap.size := by rw [Lib.iterAt_size]; omega
        obtain ⟨fu, rfl⟩ : ∃ fu, fuel = fu + 1 := ⟨fuel - 1, by omega⟩
        rw [wiFrom_step ps t F fu pos f hp] at hacc
        have hgi : wr.grownBy (wr.iterAt w4.heap.size F (pos + (Utf8.decode F pos).2)) (some w4.heap.size) := ⟨rfl, rfl, rfl, by rw [Lib.iterAt_size]; exact Nat.le_refl _, fun k _ hk => Lib.iterAt_other wr _ k F _ (by simpa using hk)⟩
        have hTk2 : Tryd.Tk (wr.iterAt w4.heap.size F (pos + (Utf8.decode F pos).2)) tk r v ps := Tryd.Tk.iter hTk hgi (by omega) (by omega) hvl4
        have hrow2 := hrow.of_block (Lib.iterAt_other wr w4.heap.size r F (pos + (Utf8.decode F pos).2) (by omega))
        have hed := Tryd.edge_any t (pos : Int) (by unfold maxLen; omega) _ (HT.out.below hbw2)
        have hee : Sg.edgeB t (pos : Int) = Sg.edgeN t pos := by unfold Sg.edgeB; rw [if_neg (by omega)]; rfl
        rw [hee] at hed
        clear hee
        generalize Utf8.decode F pos = D at *
        obtain ⟨c, k⟩ := D
        simp only [] at hacc hwd hrl hit2 hbw2 hsz2 hnx hTk2 hed hrow2
        clear hTk hrow hgi hbw
        generalize Sg.edgeN t pos = ed at *
        cases ed with
        | false =>
          rw [if_neg (by simp)] at hacc
          have Hacc : Hid _ := hacc
          clear hacc
          go_wp2_with (first
            | (go_at_call 35; refine hed.mono ?_; clear hed; rintro e5 w5 ⟨rfl, hb5⟩; have hTk5 : Tryd.Tk w5 tk r v ps := hTk2.keep ⟨hb5.os, hb5.tape, hb5.output, hb5.size, fun j hj _ => hb5.block j hj⟩; have hrow5 := hrow2.of_block (hb5.block r hTk2.hr); have hpa := Tryd.pass_any ps v tk r c f _ hTk5 hrow5 (by omega) hrl)
            | (go_at_call 30; refine hpa.mono ?_; clear hpa; rintro e6 w6 ⟨rfl, hg6, hrow6⟩) | fail)
          have hs5 := hb5.size
          have hit6 : w6.heap[w4.heap.size]? = some (.stringIter F (pos + k)) := (hg6.block _ (by omega) (by simp; omega)).trans ((hb5.block _ hsz2).trans hit2)
          go_roundw
          case rel => exact ⟨pos + k, fu, _, hit6, hTk5.keep hg6, hrow6, (hbw2.trans (hb5.mono hbw2.size)).grown hg6 (by omega) (fun j hj => by simp at hj; omega), Hacc.out, by omega⟩
          case measure =>
            simp only [World.iterPos, hit, hit6]
            omega
        | true =>
          rw [if_pos rfl] at hacc
          cases hbg : bg ps f ps.length with
          | true =>
            rw [if_pos hbg] at hacc
            have Hacc : Hid _ := hacc
            have Hbg : Hid (bg ps f ps.length = true) := hbg
            clear hacc hbg
            go_wp2_with (first
              | (go_at_call 35; refine hed.mono ?_; clear hed; rintro e5 w5 ⟨rfl, hb5⟩; have hTk5 : Tryd.Tk w5 tk r v ps := hTk2.keep ⟨hb5.os, hb5.tape, hb5.output, hb5.size, fun j hj _ => hb5.block j hj⟩; have hrow5 := hrow2.of_block (hb5.block r hTk2.hr); have hbe := Tryd.begin_any ps v tk r f _ hTk5 hrow5 (by omega))
              | (go_at_call 28; refine hbe.mono ?_; clear hbe; rintro e6 w6 ⟨rfl, hg6, hrow6⟩; have hme := Tryd.meant_any ps v tk r (bg ps f) w6 (hTk5.keep hg6) hrow6 (by omega); rw [Hbg.out] at hme)
              | (go_at_call 31; refine hme.mono ?_; clear hme; rintro e7 w7 ⟨rfl, rfl⟩) | fail)
            go_ret
            have hs5 := hb5.size
            exact ⟨Sg.ret_bool Hacc.out, (hbw2.trans (hb5.mono hbw2.size)).grown (Gl.grown_drew hg6) (by omega) (fun j hj => by simp at hj; omega)⟩
          | false =>
            rw [if_neg (by rw [hbg]; simp)] at hacc
            have Hacc : Hid _ := hacc
            have Hbg : Hid (bg ps f ps.length = false) := hbg
            clear hacc hbg
            go_wp2_with (first
              | (go_at_call 35; refine hed.mono ?_; clear hed; rintro e5 w5 ⟨rfl, hb5⟩; have hTk5 : Tryd.Tk w5 tk r v ps := hTk2.keep ⟨hb5.os, hb5.tape, hb5.output, hb5.size, fun j hj _ => hb5.block j hj⟩; have hrow5 := hrow2.of_block (hb5.block r hTk2.hr); have hbe := Tryd.begin_any ps v tk r f _ hTk5 hrow5 (by omega))
              | (go_at_call 28; refine hbe.mono ?_; clear hbe; rintro e6 w6 ⟨rfl, hg6, hrow6⟩; have hTk6 := hTk5.keep hg6; have hme := Tryd.meant_any ps v tk r (bg ps f) w6 hTk6 hrow6 (by omega); rw [Hbg.out] at hme)
              | (go_at_call 31; refine hme.mono ?_; clear hme; rintro e7 w7 ⟨rfl, rfl⟩; have hTk7 : Tryd.Tk w6.drew tk r v ps := hTk6.keep (Gl.grown_drew (World.grownBy.refl _ _)); have hpa := Tryd.pass_any ps v tk r c (bg ps f) w6.drew hTk7 hrow6 (by omega) hrl)
              | (go_at_call 30; refine hpa.mono ?_; clear hpa; rintro e8 w8 ⟨rfl, hg8, hrow8⟩) | fail)
            have hs5 := hb5.size
            have hg68 := (Gl.grown_drew hg6).trans hg8
            have hit8 : w8.heap[w4.heap.size]? = some (.stringIter F (pos + k)) := (hg68.block _ (by omega) (by simp; omega)).trans ((hb5.block _ hsz2).trans hit2)
            go_roundw
            case rel => exact ⟨pos + k, fu, _, hit8, hTk7.keep hg8, hrow8, (hbw2.trans (hb5.mono hbw2.size)).grown hg68 (by omega) (fun j hj => by simp at hj; omega), Hacc.out, by omega⟩
            case measure =>
              simp only [World.iterPos, hit, hit8]
              omega
      · have hnx : ∀ ty, (Instr.next (.pointer (some ⟨w4.heap.size, 0, none⟩)) true ty).run Tryd.prog wr = _ := fun ty => Lib.run_next_end_at wr w4.heap.size F pos ty hit hp
        rw [wiFrom_end ps t F fuel pos f hp] at hacc
        have hbe := Tryd.begin_any ps v tk r f _ hTk hrow (by omega)
        have Hacc : Hid _ := hacc
        clear hacc
        go_wp2_with (first
          | (go_at_call 28; refine hbe.mono ?_; clear hbe; rintro e6 w6 ⟨rfl, hg6, hrow6⟩; have hme := Tryd.meant_any ps v tk r (bg ps f) w6 (hTk.keep hg6) hrow6 (by omega))
          | (go_at_call 31; refine hme.mono ?_; clear hme; rintro e5 w5 ⟨rfl, rfl⟩) | fail)
        go_ret
        exact ⟨Sg.ret_bool (by rw [Hacc.out]), hbw.grown (Gl.grown_drew hg6) (by omega) (fun j hj => by simp at hj; omega)⟩
end Go.Proofs
