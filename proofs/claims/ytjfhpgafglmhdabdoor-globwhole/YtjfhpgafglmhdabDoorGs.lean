/-
  GLOB: 'Front', 'Literal', 'String'.
-/
import Derived.Test.YtjfhpgafglmhdabDoorGi
namespace Go.Gl
/-- All signs are signs. -/
def Bd (ps : List P) : Prop := ∀ p ∈ ps, 0 ≤ p.sign ∧ p.sign ≤ 1114111
theorem Bd.join {ps : List P} {p : P} (h : Bd ps) (hp : 0 ≤ p.sign ∧ p.sign ≤ 1114111) : Bd (join ps p) := by
  unfold Gl.join
  split
  · cases p with
    | fix r =>
      intro q hq
      simp only [List.mem_append, List.mem_singleton] at hq
      rcases hq with hq | rfl
      · exact h q hq
      · exact hp
    | one =>
      intro q hq
      simp only [List.mem_append, List.mem_cons, List.not_mem_nil, or_false] at hq
      rcases hq with hq | rfl | rfl
      · exact h q (List.dropLast_subset _ hq)
      · exact ⟨by decide, by decide⟩
      · exact ⟨by decide, by decide⟩
    | any => exact h
  · intro q hq
    simp only [List.mem_append, List.mem_singleton] at hq
    rcases hq with hq | rfl
    · exact h q hq
    · exact hp
theorem rd_bd : ∀ (rs : List Nat) (ps : List P) (e : Bool), Bd ps → (∀ r ∈ rs, r ≤ 1114111) → Bd (rd ps e rs).1 := by
  intro rs
  induction rs with
  | nil => intro ps e h _; exact h
  | cons r rs ih =>
    intro ps e h hr
    have hr' : ∀ x ∈ rs, x ≤ 1114111 := fun x hx => hr x (by simp [hx])
    have h0 : r ≤ 1114111 := hr r (by simp)
    rw [rd]
    split
    · intro p hp; simp at hp
    · split
      · exact ih ps true h hr'
      · split
        · exact ih _ false (h.join ⟨by decide, by decide⟩) hr'
        · split
          · exact ih _ false (h.join ⟨by decide, by decide⟩) hr'
          · exact ih _ false (h.join ⟨by simp [P.sign], by simp [P.sign]; omega⟩) hr'
theorem rnFrom_bd (s : ByteArray) : ∀ f p, ∀ r ∈ rnFrom s f p, r ≤ 1114111 := by
  intro f
  induction f with
  | zero => intro p r hr; simp [rnFrom] at hr
  | succ f ih =>
    intro p r hr
    rw [rnFrom] at hr
    split at hr
    · rcases List.mem_cons.1 hr with rfl | hr
      · exact Lib.rune_le s p
      · exact ih _ r hr
    · simp at hr
theorem comp_bd {s : ByteArray} {ps : List P} (h : comp s = some ps) : Bd ps := by
  unfold comp at h
  split at h
  · cases h
  · split at h
    · cases h
    · split at h
      · have h3 := Option.some.inj h
        rw [← h3]
        exact rd_bd _ _ _ (fun p hp => by simp at hp) (rnFrom_bd _ _ _)
      · cases h
theorem front_drop (ps : List P) : ∀ (k : Nat) (r : Nat), ps[k]? = some (.fix r) → front (ps.drop k) = Lib.encodeRune r ++ front (ps.drop (k + 1)) := by
  intro k r h
  obtain ⟨hk, he⟩ := List.getElem?_eq_some_iff.1 h
  rw [List.drop_eq_getElem_cons hk, he, front]
theorem front_stop (ps : List P) (k : Nat) (p : P) (h : ps[k]? = some p) (hp : isFix p = false) : front (ps.drop k) = [] := by
  obtain ⟨hk, he⟩ := List.getElem?_eq_some_iff.1 h
  rw [List.drop_eq_getElem_cons hk, he]
  cases p with
  | fix r => cases hp
  | one => rfl
  | any => rfl
theorem str_drop (ps : List P) (k : Nat) (p : P) (h : ps[k]? = some p) : strOf (ps.drop k) = strOf [p] ++ strOf (ps.drop (k + 1)) := by
  obtain ⟨hk, he⟩ := List.getElem?_eq_some_iff.1 h
  rw [List.drop_eq_getElem_cons hk, he]
  cases p with
  | fix r => simp [strOf]
  | one => rfl
  | any => rfl
theorem all_take (ps : List P) (k : Nat) (p : P) (h : ps[k]? = some p) : (ps.take (k + 1)).all isFix = ((ps.take k).all isFix && isFix p) := by
  obtain ⟨hk, he⟩ := List.getElem?_eq_some_iff.1 h
  rw [List.take_add_one, h]
  simp
end Go.Gl
namespace Go.Proofs
open Go.RowKit Go.Gl
set_option maxHeartbeats 400000 in
theorem Tryd.open_any (p : P) (w : World) : Calls Tryd.prog 21 #[.agg #[.int .i64 p.kind, .int .i32 p.sign]] w fun e w' => e = .returned (.bool (!isFix p)) ∧ Below w.heap.size w w' := by
  have hk : (p.kind != 0) = !isFix p := by cases p <;> rfl
  go_enter Tryd.func21, Tryd.ntmps21
  go_wp2
  go_ret
  exact ⟨rfl, (Below.refl _ w).alloc (Nat.le_refl _) _⟩
/-- The cells of the k-th part, wherever the call has gone on to. -/
theorem Gl.part_at {w wr : World} {e : TypeId} {v : Value} {ps : List P} {k : Nat} {p : P} (hown : w.ownsRow 0 e 2 v ps.length (cellsOf ps)) (hb : Below w.heap.size w wr) (hp : ps[k]? = some p) :
    ∃ g cap, v = .slice (some ⟨g, 0, none⟩) ps.length cap ∧ g < w.heap.size ∧ wr.cell? ⟨g, k * 2, none⟩ = some (.int .i64 p.kind) ∧ wr.cell? ⟨g, k * 2 + 1, none⟩ = some (.int .i32 p.sign) := by
  obtain ⟨hk, he⟩ := List.getElem?_eq_some_iff.1 hp
  obtain ⟨g, cap, rfl, _, hg⟩ := hown.form (by omega)
  refine ⟨g, cap, rfl, hg, ?_, ?_⟩
  · rw [hb.cell (p := ⟨g, k * 2, none⟩) hg, hown.cellAt (k * 2) (by omega), Nat.mul_comm k 2, cells_kind ps k hk, he]
  · rw [hb.cell (p := ⟨g, k * 2 + 1, none⟩) hg, hown.cellAt (k * 2 + 1) (by omega), Nat.mul_comm k 2, cells_sign ps k hk, he]
set_option maxHeartbeats 2000000 in
set_option maxRecDepth 100000 in
theorem Tryd.indexFunc_any (ps : List P) (v : Value) (w : World) (hown : w.ownsRow 0 45 2 v ps.length (cellsOf ps)) (hl : ps.length ≤ 100) :
    Calls Tryd.prog 39 #[v, .func (.func 21) #[] #[]] w fun e w' => ∃ i : Int, e = .returned (.int .i64 i) ∧ decide (0 ≤ i) = !(ps.all isFix) ∧ Below w.heap.size w w' := by
  have HO : Hid (w.ownsRow 0 45 2 v ps.length (cellsOf ps)) := hown
  have hlen : ∃ a n cap, v = .slice a n cap ∧ n = ps.length := by
    rcases hown.2 with ⟨rfl, h0⟩ | ⟨g, cap, cur, rfl, _⟩
    · exact ⟨none, 0, 0, rfl, h0.symm⟩
    · exact ⟨_, _, _, rfl, rfl⟩
  obtain ⟨a, n, cap, rfl, rfl⟩ := hlen
  clear hown
  go_enter Tryd.func39, Tryd.ntmps39
  go_wp2
  go_loopw [8] (fun i wr => ∃ k : Nat, k ≤ ps.length ∧ i = .int .i64 k ∧ Below w.heap.size w wr ∧ (ps.take k).all isFix = true) (fun i _ => ps.length - (intOf i).toNat)
  case atStart => exact ⟨0, by omega, rfl, Below.refl _ _, by simp⟩
  case round =>
    obtain ⟨k, hk, rfl, hb, hall⟩ := hrel
    by_cases hlt : k < ps.length
    · obtain ⟨p, hp⟩ : ∃ p, ps[k]? = some p := ⟨_, List.getElem?_eq_getElem hlt⟩
      obtain ⟨g, cap', hv, hgl, ck, cs⟩ := Gl.part_at HO.out hb hp
      cases hv
      have hat := all_take ps k p hp
      rw [hall, Bool.true_and] at hat
      have hop := fun W => Tryd.open_any p W
      have hno : isFix p = false → ps.all isFix = false := fun h => by
        rw [List.all_eq_false]
        exact ⟨p, List.mem_of_getElem? hp, by rw [h]; simp⟩
      have HAT : Hid _ := hat
      have HNO : Hid _ := hno
      have b1 : (k : Int) < (ps.length : Int) := by omega
      clear hat hno hp hall HO
      cases hf : isFix p with
      | true =>
        rw [hf] at hop
        generalize p.kind = kk at *
        generalize p.sign = ss at *
        have Hf : Hid _ := hf
        clear hf
        go_wp2_with (first | (go_at_call 21; refine (hop _).mono ?_; clear hop; rintro e1 w1 ⟨rfl, hb1⟩) | fail)
        go_roundw
        case rel => exact ⟨k + 1, by omega, by go_num, hb.trans (hb1.mono hb.size), HAT.out.trans Hf.out⟩
        case measure => simp [intOf]; omega
      | false =>
        rw [hf] at hop
        generalize p.kind = kk at *
        generalize p.sign = ss at *
        have Hf : Hid _ := hf
        clear hf
        go_wp2_with (first | (go_at_call 21; refine (hop _).mono ?_; clear hop; rintro e1 w1 ⟨rfl, hb1⟩) | fail)
        go_ret
        exact ⟨k, rfl, by rw [HNO.out Hf.out]; simp, hb.trans (hb1.mono hb.size)⟩
    · have b1 : ¬ (k : Int) < (ps.length : Int) := by omega
      have hall' : ps.all isFix = true := by rw [List.take_of_length_le (by omega)] at hall; exact hall
      have HA : Hid _ := hall'
      clear hall hall'
      go_wp2
      go_ret
      exact ⟨-1, rfl, by rw [HA.out]; rfl, hb⟩
set_option maxHeartbeats 400000 in
theorem Tryd.contains_any (ps : List P) (v : Value) (w : World) (hown : w.ownsRow 0 45 2 v ps.length (cellsOf ps)) (hl : ps.length ≤ 100) :
    Calls Tryd.prog 20 #[v, .func (.func 21) #[] #[]] w fun e w' => e = .returned (.bool !(ps.all isFix)) ∧ Below w.heap.size w w' := by
  have hix := Tryd.indexFunc_any ps v w hown hl
  clear hown
  generalize (!(ps.all isFix)) = y at *
  go_enter Tryd.func20, Tryd.ntmps20
  go_wp2_with (first | (go_at_call 39; refine hix.mono ?_; clear hix; rintro e1 w1 ⟨i, rfl, hi, hb1⟩) | fail)
  go_ret
  exact ⟨rfl, hb1⟩
theorem Gl.fresh_builder {T e : TypeId} (w : World) : Lib.IsBuilderF T e w.heap.size w.heap.size (Lib.byteCells []) (w.alloc (.cells #[.pointer none, .slice none 0 0] T)) :=
  Lib.IsBuilderF.of (.inl ⟨Nat.le_refl _, _, heap_alloc_new w _, World.ownsRow_nil _ _ _ _, by simp [Value.ownBlock]⟩)
set_option maxHeartbeats 4000000 in
set_option maxRecDepth 100000 in
/-- G4. -/
theorem Tryd.front_any (ps : List P) (x : Nat) (w : World) (hG : Tryd.Gb w x ps) (hl : ps.length ≤ 100) (hbd : Bd ps) :
    Calls Tryd.prog 10 #[.pointer (some ⟨x, 0, none⟩)] w fun e w' => e = .returned (.string ⟨(front ps).toArray⟩) ∧ Below w.heap.size w w' := by
  obtain ⟨v, hvb, hvo⟩ := hG
  have hcv : w.cell? ⟨x, 0, none⟩ = some v := by simp [World.cell?, hvb]
  have hxl := (Array.getElem?_eq_some_iff.1 hvb).1
  have hcv' : ∀ o, (w.alloc o).cell? ⟨x, 0, none⟩ = some v := fun o => (((Below.refl w.heap.size w).alloc (Nat.le_refl _) o).cell (p := ⟨x, 0, none⟩) hxl).trans hcv
  have HO : Hid (w.ownsRow 0 45 2 v ps.length (cellsOf ps)) := hvo
  have hlen : ∃ a n cap, v = .slice a n cap ∧ n = ps.length := by
    rcases hvo.2 with ⟨rfl, h0⟩ | ⟨g, cap, cur, rfl, _⟩
    · exact ⟨none, 0, 0, rfl, h0.symm⟩
    · exact ⟨_, _, _, rfl, rfl⟩
  obtain ⟨a, n, cap, rfl, rfl⟩ := hlen
  have hbu := Gl.fresh_builder (T := 57) (e := 5) w
  have hb0 := (Below.refl w.heap.size w).alloc (Nat.le_refl _) (.cells #[.pointer none, .slice none 0 0] 57)
  have hs0 : w.heap.size < (w.alloc (.cells #[.pointer none, .slice none 0 0] 57)).heap.size := by simp
  clear hvo hvb hcv
  go_enter Tryd.func10, Tryd.ntmps10
  go_wp2
  go_loopw [11] (fun i wr => ∃ (k : Nat) (out : List UInt8), k ≤ ps.length ∧ i = .int .i64 k ∧ Below w.heap.size w wr ∧ Lib.IsBuilderF 57 5 w.heap.size w.heap.size (Lib.byteCells out) wr ∧ out ++ front (ps.drop k) = front ps ∧ out.length ≤ 4 * k) (fun i _ => ps.length - (intOf i).toNat)
  case atStart => exact ⟨0, [], by omega, rfl, hb0, hbu, by simp, by simp⟩
  case round =>
    obtain ⟨k, out, hk, rfl, hb, hI, hacc, hol⟩ := hrel
    have hsz := hb.size
    by_cases hlt : k < ps.length
    · obtain ⟨p, hp⟩ : ∃ p, ps[k]? = some p := ⟨_, List.getElem?_eq_getElem hlt⟩
      obtain ⟨g, cap', hv, hgl, ck, cs⟩ := Gl.part_at HO.out hb hp
      cases hv
      have hop := fun W => Tryd.open_any p W
      have hpb := hbd p (List.mem_of_getElem? hp)
      have b1 : (k : Int) < (ps.length : Int) := by omega
      cases hf : isFix p with
      | true =>
        rw [hf] at hop
        obtain ⟨r, rfl⟩ : ∃ r, p = .fix r := by
          cases p with
          | fix r => exact ⟨r, rfl⟩
          | one => cases hf
          | any => cases hf
        have hfd := front_drop ps k r hp
        have HFD : Hid _ := hfd
        have HP : Hid _ := hp
        have Hacc : Hid _ := hacc
        clear hfd hp hacc hf HO hbd
        simp only [P.kind, P.sign] at ck cs hpb hop
        go_wp2_with (first | (go_at_call 21; refine (hop _).mono ?_; clear hop; rintro e1 w1 ⟨rfl, hb1⟩; have hI1 := Sg.builder_below (hI.alloc (.cells #[.int .i64 0, .int .i32 r] 45)) hb1; have hs1 := hb1.size; simp only [World.size_alloc] at hs1; have hcs1 : w1.cell? ⟨wr.heap.size, 1, none⟩ = some (.int .i32 r) := (hb1.cell (by simp)).trans (cell_of_row _ _ 1 _ _ _ (heap_alloc_new wr _)); have hwr := Tryd.Builder_WriteRune_k w.heap.size w.heap.size _ (r : Int) (by omega) (by omega) _ hI1 (by rw [Lib.byteCells_length]; omega) (by omega)) | (go_at_call 22; refine hwr.mono ?_; clear hwr; rintro e2 w2 ⟨rfl, hI2, hb2, -⟩) | fail)
        have hs2 := hb2.size
        go_roundw
        case rel =>
          refine ⟨k + 1, out ++ Lib.encodeRune r, by omega, by go_num, (hb.alloc hb.size _).trans ((hb1.mono (by simp; omega)).trans hb2), ?_, ?_, ?_⟩
          · rw [Lib.byteCells_append, Lib.byteCells_encodeRune]; exact .inr hI2
          · rw [← Hacc.out, HFD.out, List.append_assoc]
          · have := (Lib.runeCells_le (r : Int)).2
            rw [Lib.runeCells_length] at this
            rw [List.length_append]; omega
        case measure => simp [intOf]; omega
      | false =>
        rw [hf] at hop
        have hfd := front_stop ps k p hp hf
        have Hacc : Hid (out = front ps) := by rw [hfd, List.append_nil] at hacc; exact hacc
        clear hfd hp hacc hf HO hbd hpb
        generalize p.kind = kk at *
        generalize p.sign = ss at *
        go_wp2_with (first | (go_at_call 21; refine (hop _).mono ?_; clear hop; rintro e1 w1 ⟨rfl, hb1⟩; have hI1 := Sg.builder_below (hI.alloc (.cells #[.int .i64 kk, .int .i32 ss] 45)) hb1; have hs1 := hb1.size; simp only [World.size_alloc] at hs1; have hst := Tryd.Builder_String_any_k w.heap.size w.heap.size out _ hI1 (by omega)) | (go_at_call 23; refine hst.mono ?_; clear hst; rintro e2 w2 ⟨rfl, -, hb2, -⟩) | fail)
        go_ret
        exact ⟨Sg.ret_str (by rw [Hacc.out]), (hb.alloc hb.size _).trans ((hb1.mono (by simp; omega)).trans hb2)⟩
    · have b1 : ¬ (k : Int) < (ps.length : Int) := by omega
      have hx : out = front ps := by rw [List.drop_eq_nil_of_le (by omega)] at hacc; rw [← hacc]; simp [front]
      have Hacc : Hid (out = front ps) := hx
      clear hx
      have hst := Tryd.Builder_String_any_k w.heap.size w.heap.size out _ hI (by omega)
      clear hacc
      go_wp2_with (first | (go_at_call 23; refine hst.mono ?_; clear hst; rintro e2 w2 ⟨rfl, -, hb2, -⟩) | fail)
      go_ret
      exact ⟨Sg.ret_str (by rw [Hacc.out]), hb.trans hb2⟩
/-- G4. -/
def Gl.lit (ps : List P) : ByteArray × Bool := if ps.all isFix = true then (⟨(front ps).toArray⟩, true) else (⟨#[]⟩, false)
set_option maxHeartbeats 1000000 in
theorem Tryd.literal_any (ps : List P) (x : Nat) (w : World) (hG : Tryd.Gb w x ps) (hl : ps.length ≤ 100) (hbd : Bd ps) :
    Calls Tryd.prog 8 #[.pointer (some ⟨x, 0, none⟩)] w fun e w' => e = .returned (.tuple #[.string (Gl.lit ps).1, .bool (Gl.lit ps).2]) ∧ Below w.heap.size w w' := by
  have HG : Hid (Tryd.Gb w x ps) := hG
  obtain ⟨v, hvb, hvo⟩ := hG
  have hcv : w.cell? ⟨x, 0, none⟩ = some v := by simp [World.cell?, hvb]
  have hco := Tryd.contains_any ps v w hvo hl
  clear hvb hvo
  unfold Gl.lit
  cases hall : ps.all isFix with
  | false =>
    rw [hall] at hco
    go_enter Tryd.func8, Tryd.ntmps8
    go_wp2_with (first | (go_at_call 20; refine hco.mono ?_; clear hco; rintro e1 w1 ⟨rfl, hb1⟩) | fail)
    go_ret2
    exact ⟨rfl, hb1⟩
  | true =>
    rw [hall] at hco
    go_enter Tryd.func8, Tryd.ntmps8
    go_wp2_with (first | (go_at_call 20; refine hco.mono ?_; clear hco; rintro e1 w1 ⟨rfl, hb1⟩; have hfr := Tryd.front_any ps x w1 (HG.out.keep hb1) hl hbd) | (go_at_call 10; refine hfr.mono ?_; clear hfr; rintro e2 w2 ⟨rfl, hb2⟩) | fail)
    go_ret2
    exact ⟨rfl, hb1.trans (hb2.mono hb1.size)⟩
end Go.Proofs
