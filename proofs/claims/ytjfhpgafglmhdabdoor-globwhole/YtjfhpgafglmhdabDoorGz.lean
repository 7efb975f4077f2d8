/-
  GLOB: 'String'.
-/
import Derived.Test.YtjfhpgafglmhdabDoorGs
namespace Go.Proofs
open Go.RowKit Go.Gl
set_option maxHeartbeats 4000000 in
set_option maxRecDepth 100000 in
/-- G5. -/
theorem Tryd.string_any (ps : List P) (x : Nat) (w : World) (hG : Tryd.Gb w x ps) (hl : ps.length ≤ 100) (hbd : Bd ps) :
    Calls Tryd.prog 12 #[.pointer (some ⟨x, 0, none⟩)] w fun e w' => e = .returned (.string ⟨(strOf ps).toArray⟩) ∧ Below w.heap.size w w' := by
  obtain ⟨v, hvb, hvo⟩ := hG
  have hcv : w.cell? ⟨x, 0, none⟩ = some v := by simp [World.cell?, hvb]
  have hxl := (Array.getElem?_eq_some_iff.1 hvb).1
  have hcv' : ∀ o, (w.alloc o).cell? ⟨x, 0, none⟩ = some v := fun o => (((Below.refl w.heap.size w).alloc (Nat.le_refl _) o).cell (p := ⟨x, 0, none⟩) hxl).trans hcv
  have HO : Hid (w.ownsRow 0 45 2 v ps.length (cellsOf ps)) := hvo
  have hlen : ∃ a n cap, v = .slice a n cap ∧ n = ps.length := by
    rcases hvo.2 with ⟨rfl, h0⟩ | ⟨g, cap, cur, rfl, _⟩
    · exact ⟨none, 0, 0, rfl, h0.symm⟩
    · exact ⟨_, _, _, rfl, rfl⟩
  obtain ⟨a, n, cap, rfl, rfl⟩ := hlen
  have hbu := Gl.fresh_builder (T := 57) (e := 5) w
  have hb0 := (Below.refl w.heap.size w).alloc (Nat.le_refl _) (.cells #[.pointer none, .slice none 0 0] 57)
  clear hvo hvb hcv
  go_enter Tryd.func12, Tryd.ntmps12
  go_wp2
  go_loopw [11] (fun i wr => ∃ (k : Nat) (out : List UInt8), k ≤ ps.length ∧ i = .int .i64 k ∧ Below w.heap.size w wr ∧ Lib.IsBuilderF 57 5 w.heap.size w.heap.size (Lib.byteCells out) wr ∧ out ++ strOf (ps.drop k) = strOf ps ∧ out.length ≤ 5 * k) (fun i _ => ps.length - (intOf i).toNat)
  case atStart => exact ⟨0, [], by omega, rfl, hb0, hbu, by simp, by simp⟩
  case round =>
    obtain ⟨k, out, hk, rfl, hb, hI, hacc, hol⟩ := hrel
    have hsz := hb.size
    by_cases hlt : k < ps.length
    · obtain ⟨p, hp⟩ : ∃ p, ps[k]? = some p := ⟨_, List.getElem?_eq_getElem hlt⟩
      obtain ⟨g, cap', hv, hgl, ck, cs⟩ := Gl.part_at HO.out hb hp
      cases hv
      have hpb := hbd p (List.mem_of_getElem? hp)
      have b1 : (k : Int) < (ps.length : Int) := by omega
      rw [str_drop ps k p hp, ← List.append_assoc] at hacc
      have hba : Below w.heap.size w (wr.alloc (.cells #[.int .i64 p.kind, .int .i32 p.sign] 45)) := hb.alloc hb.size _
      have hIa := hI.alloc (.cells #[.int .i64 p.kind, .int .i32 p.sign] 45)
      have hsa : (wr.alloc (.cells #[.int .i64 p.kind, .int .i32 p.sign] 45)).heap.size = wr.heap.size + 1 := by simp
      have Hacc : Hid _ := hacc
      clear hp hacc HO hbd
      cases p with
      | any =>
        simp only [P.kind, P.sign] at ck cs hba hIa hsa
        have hwb := Tryd.Builder_WriteByte_k w.heap.size w.heap.size _ 42 _ hIa (by rw [Lib.byteCells_length]; omega) (by omega)
        go_wp2_with (first | (go_at_call 24; refine hwb.mono ?_; clear hwb; rintro e1 w1 ⟨rfl, hI1, hb1, -⟩) | fail)
        go_roundw
        case rel =>
          refine ⟨k + 1, out ++ [42], by omega, by go_num, hba.trans hb1, ?_, Hacc.out, by simp; omega⟩
          rw [Lib.byteCells_append]; exact .inr hI1
        case measure => simp [intOf]; omega
      | one =>
        simp only [P.kind, P.sign] at ck cs hba hIa hsa
        have hwb := Tryd.Builder_WriteByte_k w.heap.size w.heap.size _ 63 _ hIa (by rw [Lib.byteCells_length]; omega) (by omega)
        go_wp2_with (first | (go_at_call 24; refine hwb.mono ?_; clear hwb; rintro e1 w1 ⟨rfl, hI1, hb1, -⟩) | fail)
        go_roundw
        case rel =>
          refine ⟨k + 1, out ++ [63], by omega, by go_num, hba.trans hb1, ?_, Hacc.out, by simp; omega⟩
          rw [Lib.byteCells_append]; exact .inr hI1
        case measure => simp [intOf]; omega
      | fix r =>
        simp only [P.kind, P.sign] at ck cs hba hIa hsa hpb
        have hcs1 : (wr.alloc (.cells #[.int .i64 0, .int .i32 (r : Int)] 45)).cell? ⟨wr.heap.size, 1, none⟩ = some (.int .i32 (r : Int)) := cell_of_row _ _ 1 _ _ _ (heap_alloc_new wr _)
        have hspc := fun W => Tryd.special_any r W
        have hr4 : (Lib.encodeRune (r : Int)).length ≤ 4 := by have := (Lib.runeCells_le (r : Int)).2; rw [Lib.runeCells_length] at this; exact this
        have hstr : strOf [.fix r] = (if special r then [92] else []) ++ Lib.encodeRune r := by simp [strOf]
        rw [hstr] at Hacc
        clear hstr
        cases hsp : special r with
        | true =>
          rw [hsp] at hspc Hacc
          clear hsp
          have hwb := Tryd.Builder_WriteByte_k w.heap.size w.heap.size _ 92 _ hIa (by rw [Lib.byteCells_length]; omega) (by omega)
          have hwb2 := hwb.mono (R' := fun e w1 => e = .returned .nilIface ∧ Lib.IsBuilderF 57 5 w.heap.size w.heap.size (Lib.byteCells (out ++ [92])) w1 ∧ Below w.heap.size (wr.alloc (.cells #[.int .i64 0, .int .i32 (r : Int)] 45)) w1 ∧ w1.cell? ⟨wr.heap.size, 1, none⟩ = some (.int .i32 (r : Int)) ∧ Calls Tryd.prog 22 #[.pointer (some ⟨w.heap.size, 0, none⟩), .int .i32 (r : Int)] w1 fun e w' => e = .returned (.tuple #[.int .i64 (Lib.runeCells r).length, .nilIface]) ∧ (Lib.BuilderAtF 57 5 w.heap.size w.heap.size (.pointer (some ⟨w.heap.size, 0, none⟩)) (Lib.byteCells (out ++ [92]) ++ Lib.runeCells r) w' ∧ Below w.heap.size w1 w' ∧ Lib.OthersKept 5 (some w.heap.size) w1 w')) (by
            rintro e1 w1 ⟨h1, hI1, hb1, hok⟩
            have hs1 := hb1.size
            have hI1' : Lib.IsBuilderF 57 5 w.heap.size w.heap.size (Lib.byteCells (out ++ [92])) w1 := by rw [Lib.byteCells_append]; exact .inr hI1
            refine ⟨h1, hI1', hb1, ?_, Tryd.Builder_WriteRune_k w.heap.size w.heap.size _ (r : Int) (by omega) (by omega) _ hI1' (by rw [Lib.byteCells_length]; simp; omega) (by omega)⟩
            have hpb : w.heap.size < wr.heap.size := by
              rcases hI with hI | hI
              · exact (Array.getElem?_eq_some_iff.1 hI.2.choose_spec.1).1
              · exact (Array.getElem?_eq_some_iff.1 hI.2.choose_spec.1).1
            exact cell_of_row _ _ 1 _ _ _ (hok _ _ (heap_alloc_new wr _) (by simp; omega) (fun c fz h => by simp at h)))
          clear hwb
          go_wp2_with (first
            | (go_at_call 25; refine (hspc _).mono ?_; clear hspc; rintro e0 w0 ⟨rfl, rfl⟩)
            | (go_at_call 24; refine hwb2.mono ?_; clear hwb2; rintro e1 w1 ⟨rfl, hI1, hb1, hcs2, hwr⟩)
            | (go_at_call 22; refine hwr.mono ?_; clear hwr; rintro e2 w2 ⟨rfl, hI2, hb2, -⟩)
            | fail)
          go_roundw
          case rel =>
            refine ⟨k + 1, out ++ [92] ++ Lib.encodeRune r, by omega, by go_num, (hba.trans hb1).trans hb2, ?_, by rw [← Hacc.out]; simp, by simp; omega⟩
            rw [Lib.byteCells_append, Lib.byteCells_encodeRune]; exact .inr hI2
          case measure => simp [intOf]; omega
        | false =>
          rw [hsp] at hspc Hacc
          clear hsp
          have hwr := Tryd.Builder_WriteRune_k w.heap.size w.heap.size _ (r : Int) (by omega) (by omega) _ hIa (by rw [Lib.byteCells_length]; omega) (by omega)
          go_wp2_with (first
            | (go_at_call 25; refine (hspc _).mono ?_; clear hspc; rintro e0 w0 ⟨rfl, rfl⟩)
            | (go_at_call 22; refine hwr.mono ?_; clear hwr; rintro e2 w2 ⟨rfl, hI2, hb2, -⟩)
            | fail)
          go_roundw
          case rel =>
            refine ⟨k + 1, out ++ Lib.encodeRune r, by omega, by go_num, hba.trans hb2, ?_, by rw [← Hacc.out]; simp, by simp; omega⟩
            rw [Lib.byteCells_append, Lib.byteCells_encodeRune]; exact .inr hI2
          case measure => simp [intOf]; omega
    · have b1 : ¬ (k : Int) < (ps.length : Int) := by omega
      have hx : out = strOf ps := by rw [List.drop_eq_nil_of_le (by omega)] at hacc; rw [← hacc]; simp [strOf]
      have Hacc : Hid (out = strOf ps) := hx
      have hst := Tryd.Builder_String_any_k w.heap.size w.heap.size out _ hI (by omega)
      clear hacc hx
      go_wp2_with (first | (go_at_call 23; refine hst.mono ?_; clear hst; rintro e2 w2 ⟨rfl, -, hb2, -⟩) | fail)
      go_ret
      exact ⟨Sg.ret_str (by rw [Hacc.out]), hb.trans hb2⟩
end Go.Proofs
