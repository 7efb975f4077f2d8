/-
  The laws' lent, still, turned.
-/
import Derived.Test.YtkfmfdnfjeofiaaDoorHh
import Derived.Lib.LazyBuf
namespace Go.Dg
open Go.RowKit Go.Wi
theorem Ob.take {w : World} {B g n cap : Nat} {l : List UInt8} (h : Ob w B (.slice (some ⟨g, 0, none⟩) n cap) l) (m : Nat) (hm : m ≤ l.length) : Ob w B (.slice (some ⟨g, 0, none⟩) m cap) (l.take m) := by
  rcases h with ⟨e, _⟩ | ⟨g', cap', e, h1, h2, h3, h4, h5⟩
  · injection e with e1; cases e1
  · injection e with e1 e2 e3
    injection e1 with e1
    injection e1 with e1
    subst e1 e3
    have hl : (l.take m).length = m := by rw [List.length_take]; omega
    refine .inr ⟨g, cap, by rw [hl], h1, h2, by omega, fun j u hu => ?_, h5⟩
    refine h4 j u ?_
    simp only [Lib.byteCells, List.getElem?_map, List.getElem?_take] at hu ⊢
    split at hu
    · exact hu
    · cases hu
theorem Ob.spare {w : World} {B g n cap : Nat} {l : List UInt8} (h : Ob w B (.slice (some ⟨g, 0, none⟩) n cap) l) : ∀ j, j < cap → (w.cell? ⟨g, j, none⟩).isSome = true ∧ w.frozen? ⟨g, j, none⟩ = false := by
  rcases h with ⟨e, _⟩ | ⟨g', cap', e, h1, h2, h3, h4, h5⟩
  · injection e with e1; cases e1
  · injection e with e1 e2 e3
    injection e1 with e1
    injection e1 with e1
    subst e1 e3
    exact h5
/-- Bytes laid over the first ones. -/
theorem Ob.over {w : World} {B g n cap : Nat} {l : List UInt8} (h : Ob w B (.slice (some ⟨g, 0, none⟩) n cap) l) (xs : List UInt8) (hx : xs.length ≤ l.length) : Ob (w.setCells g 0 (Lib.byteCells xs)) B (.slice (some ⟨g, 0, none⟩) n cap) (xs ++ l.drop xs.length) := by
  rcases h with ⟨e, _⟩ | ⟨g', cap', e, h1, h2, h3, h4, h5⟩
  · injection e with e1; cases e1
  · injection e with e1 e2 e3
    injection e1 with e1
    injection e1 with e1
    subst e1 e3
    have hl : (xs ++ l.drop xs.length).length = l.length := by rw [List.length_append, List.length_drop]; omega
    have hbl := byteCells_len xs
    refine .inr ⟨g, cap, by rw [hl, e2], h1, Nat.lt_of_lt_of_le h2 (Go.Proofs.Dg.setCells_wo g (Lib.byteCells xs) 0 w).size, by rw [hl]; exact h3, fun j u hu => ?_, fun j hj => ⟨World.isSome_setCells g _ _ w _ (h5 j hj).1, by rw [World.frozen?_setCells]; exact (h5 j hj).2⟩⟩
    by_cases hj : j < xs.length
    · have := World.cell?_setCells_in g (Lib.byteCells xs) 0 w (fun i hi => (h5 _ (by omega)).1) j (by omega)
      rw [Nat.zero_add] at this
      rw [this, ← hu, byteCells_app, List.getElem?_append_left (by omega), List.getElem?_eq_getElem]
    · rw [World.cell?_setCells_out g _ _ w _ (fun _ _ => .inr (by show 0 + _ ≤ j; omega))]
      refine h4 j u ?_
      rw [byteCells_app, List.getElem?_append_right (by omega), byteCells_len] at hu
      simp only [Lib.byteCells, List.getElem?_map, List.getElem?_drop] at hu ⊢
      rw [show xs.length + (j - xs.length) = j by omega] at hu
      exact hu
end Go.Dg
namespace Go.Proofs
open Go.RowKit Go.Wi Go.Dg
theorem Tryd.szu8 : ∀ w, (Go.sizeOf 5).run Tryd.prog w = .ok 1 w := by
  have : (Tryd.prog.info? 5).map (·.size) = some 1 := by kernel_rfl
  intro w
  cases h : Tryd.prog.info? 5 with
  | none => rw [h] at this; cases this
  | some i =>
    rw [h] at this
    simp at this
    simp [Go.sizeOf, typeInfo, h, this]
theorem Tryd.copy_s {w : World} {B g N : Nat} {l : List UInt8} (h : Ob w B (.slice (some ⟨g, 0, none⟩) N N) l) {s : ByteArray} (hs : s.size ≤ N) (ty : TypeId) :
    (Builtin.copy_ #[24, 9] ty #[.slice (some ⟨g, 0, none⟩) N N, .string s]).run Tryd.prog w = .ok (goInt s.size) (w.setCells g 0 (Lib.byteCells s.toList)) := by
  rw [ByteArray.toList_eq]
  exact run_copy_string (P := Tryd.prog) w 24 9 ty 5 g 0 N N s Tryd.underlying24 Tryd.szu8 hs (fun j hj => by rw [Nat.zero_add]; exact (h.spare j (by omega)).1) (fun j hj => by rw [Nat.zero_add]; exact (h.spare j (by omega)).2)
theorem Dg.lent_next (s : ByteArray) (i N : Nat) (h1 : s.size ≤ i) (h2 : i < N) : (s.toList ++ (List.replicate (i - s.size) 201 ++ List.replicate (N - i) 0)).set i 201 = s.toList ++ (List.replicate (i + 1 - s.size) (201 : UInt8) ++ List.replicate (N - (i + 1)) 0) := by
  have hl := Dg.list_len s
  rw [List.set_append_right _ _ (by omega), hl, List.set_append_right _ _ (by rw [List.length_replicate]; omega), List.length_replicate, Nat.sub_self, show N - i = (N - (i + 1)) + 1 by omega, List.replicate_succ, List.set_cons_zero, show i + 1 - s.size = (i - s.size) + 1 by omega, List.replicate_succ', List.append_assoc]
  rfl
set_option maxRecDepth 20000 in
set_option maxHeartbeats 1000000 in
theorem Tryd.lent_any (s : ByteArray) (hs : s.size ≤ 140737488355000) (w : World) :
    Calls Tryd.prog 13 #[.string s] w fun e w' => e = .returned (.slice (some ⟨w.heap.size, 0, none⟩) (s.size + 80 : Nat) (s.size + 80 : Nat)) ∧ Ob w' w.heap.size (.slice (some ⟨w.heap.size, 0, none⟩) (s.size + 80 : Nat) (s.size + 80 : Nat)) (s.toList ++ List.replicate 80 201) ∧ Below w.heap.size w w' := by
  go_enter Tryd.func13, Tryd.ntmps13
  obtain ⟨N, hN⟩ : ∃ N : Nat, N = s.size + 80 := ⟨_, rfl⟩
  have e1 : IntKind.i64.wrap ((s.size : Int) + 80) = (N : Int) := by rw [IntKind.wrap_i64]; omega
  have HN : Hid (N = s.size + 80) := hN
  have hN2 : N ≤ 140737488355328 := by omega
  have hN3 : s.size ≤ N := by omega
  rw [← hN]
  clear hN
  go_wp2_with (first | (refine Tryd.makeZ rfl _ _ rfl _ N rfl rfl rfl hN2 ?_; intro w1 ho1 hb1; have hcp := Tryd.copy_s ho1 hN3; have HO1 : Hid _ := ho1; have HB1 : Hid _ := hb1; clear ho1 hb1) | fail)
  have HO2 : Hid (Ob (w1.setCells w.heap.size 0 (Lib.byteCells s.toList)) w.heap.size (.slice (some ⟨w.heap.size, 0, none⟩) N N) (s.toList ++ List.replicate (N - s.size) 0)) := (by
    have h1 := Ob.over HO1.out s.toList (by rw [Dg.list_len, List.length_replicate]; exact hN3)
    rw [List.drop_replicate, Dg.list_len] at h1
    exact h1)
  have HB2 : Hid (Below w.heap.size w (w1.setCells w.heap.size 0 (Lib.byteCells s.toList))) := below_setCells (Nat.le_refl _) _ _ _ HB1.out
  clear hcp HO1 HB1
  go_loopw [4] (fun iv wr => ∃ (i : Nat), iv = .int .i64 (i : Int) ∧ s.size ≤ i ∧ i ≤ N ∧ Hid (Ob wr w.heap.size (.slice (some ⟨w.heap.size, 0, none⟩) N N) (s.toList ++ (List.replicate (i - s.size) 201 ++ List.replicate (N - i) 0))) ∧ Hid (Below w.heap.size w wr)) (fun iv _ => N - (intOf iv).toNat)
  case atStart => exact ⟨s.size, rfl, Nat.le_refl _, hN3, by rw [Nat.sub_self]; exact HO2, HB2⟩
  case round =>
    clear HO2 HB2
    obtain ⟨i, rfl, hi1, hi2, Ho, Hw⟩ := hrel
    by_cases hlt : i < N
    · have q1 : (i : Int) < N := by omega
      have q2 : (0 : Int) ≤ i := by omega
      have hl : i < (s.toList ++ (List.replicate (i - s.size) 201 ++ List.replicate (N - i) 0)).length := by
        rw [List.length_append, List.length_append, List.length_replicate, List.length_replicate, Dg.list_len]
        omega
      obtain ⟨hc, hf⟩ := Ob.cell Ho.out hl
      obtain ⟨x, hx⟩ : ∃ x, x = (s.toList ++ (List.replicate (i - s.size) 201 ++ List.replicate (N - i) 0))[i]'hl := ⟨_, rfl⟩
      rw [← hx] at hc
      clear hx
      have Hl : Hid (i < (s.toList ++ (List.replicate (i - s.size) 201 ++ List.replicate (N - i) 0)).length) := hl
      clear hl
      go_wp2
      go_roundw
      case rel =>
        refine ⟨i + 1, by go_num, by omega, by omega, ?_, Hw.out.setCell (p := ⟨w.heap.size, i, none⟩) (Nat.le_refl _) _⟩
        have h1 := Ob.set Ho.out i 201 201 rfl Hl.out
        rw [Dg.lent_next s i N hi1 hlt] at h1
        exact h1
      case measure => simp [intOf]; omega
    · have q1 : ¬ (i : Int) < N := by omega
      obtain rfl : i = N := by omega
      go_wp2
      go_ret
      refine ⟨rfl, ?_, Hw.out⟩
      have h1 := Ho.out
      rw [Nat.sub_self, List.replicate_zero, List.append_nil, HN.out, show s.size + 80 - s.size = 80 by omega] at h1
      rw [HN.out]
      exact h1
theorem Dg.mid (a l : List UInt8) (i : Nat) (ha : a.length = i) (h : i < l.length) {hl : i < (a ++ l.drop i).length} : (a ++ l.drop i)[i]'hl = l[i] := by
  rw [List.getElem_append_right (by omega), List.getElem_drop]
  simp [ha]
theorem Dg.turn_next (l : List UInt8) (i : Nat) (h : i < l.length) (x : UInt8) {hl : i < ((l.take i).map (· + 1) ++ l.drop i).length} (hx : x = ((l.take i).map (· + 1) ++ l.drop i)[i]'hl) : ((l.take i).map (· + 1) ++ l.drop i).set i (x + 1) = (l.take (i + 1)).map (· + 1) ++ l.drop (i + 1) := by
  have e1 : ((l.take i).map (· + 1)).length = i := by rw [List.length_map, List.length_take]; omega
  have e2 : x = l[i] := hx.trans (Dg.mid _ l i e1 h)
  rw [List.set_append_right _ _ (by omega), e1, Nat.sub_self, List.drop_eq_getElem_cons h, List.set_cons_zero, List.take_add_one, List.getElem?_eq_getElem h, e2]
  simp only [List.map_append, Option.toList_some, List.map_cons, List.map_nil, List.append_assoc, List.cons_append, List.nil_append]
theorem Dg.plus8 (x : UInt8) : ((x.toNat : Int) + 1) % 256 = (((x + 1).toNat : Nat) : Int) := by
  rw [UInt8.toNat_add]
  simp
set_option maxRecDepth 20000 in
set_option maxHeartbeats 1000000 in
theorem Tryd.lturned_any {w : World} {B g cap : Nat} {l : List UInt8} (h : Ob w B (.slice (some ⟨g, 0, none⟩) l.length cap) l) (hlen : l.length ≤ 140737488355328) :
    Calls Tryd.prog 18 #[.slice (some ⟨g, 0, none⟩) l.length cap] w fun e w' => e = .returned (.string ⟨(l.map (· + 1)).toArray⟩) ∧ Ob w' B (.slice (some ⟨g, 0, none⟩) l.length cap) (l.map (· + 1)) ∧ Wo (fun k => k = g) w w' := by
  go_enter Tryd.func18, Tryd.ntmps18
  obtain ⟨N, hN⟩ : ∃ N : Nat, N = l.length := ⟨_, rfl⟩
  rw [← hN] at h ⊢
  have HN : Hid (N = l.length) := hN
  have HO : Hid (Ob w B (.slice (some ⟨g, 0, none⟩) N cap) l) := h
  have hN2 : N ≤ 140737488355328 := by omega
  clear hN h hlen
  go_wp2
  go_loopw [3] (fun iv wr => ∃ (i : Nat), iv = .int .i64 (i : Int) ∧ i ≤ N ∧ Hid (Ob wr B (.slice (some ⟨g, 0, none⟩) N cap) ((l.take i).map (· + 1) ++ l.drop i)) ∧ Hid (Wo (fun k => k = g) w wr)) (fun iv _ => N - (intOf iv).toNat)
  case atStart => exact ⟨0, rfl, by omega, HO, Wo.refl _ w⟩
  case round =>
    clear HO
    obtain ⟨i, rfl, hi, Ho, Hw⟩ := hrel
    by_cases hlt : i < N
    · have q1 : (i : Int) < N := by omega
      have q2 : (0 : Int) ≤ i := by omega
      have hl : i < ((l.take i).map (· + 1) ++ l.drop i).length := by
        have := HN.out
        rw [List.length_append, List.length_map, List.length_take, List.length_drop]
        omega
      obtain ⟨hc, hf⟩ := Ob.cell Ho.out hl
      obtain ⟨x, hx⟩ : ∃ x, x = ((l.take i).map (· + 1) ++ l.drop i)[i]'hl := ⟨_, rfl⟩
      rw [← hx] at hc
      have HS : Hid (Ob (wr.setCell ⟨g, i, none⟩ (.int .u8 (((x.toNat : Int) + 1) % 256))) B (.slice (some ⟨g, 0, none⟩) N cap) ((l.take (i + 1)).map (· + 1) ++ l.drop (i + 1))) := (by
        have h1 := Ob.set Ho.out i (x + 1) _ (Dg.plus8 x) hl
        rw [Dg.turn_next l i (by rw [← HN.out]; exact hlt) x hx] at h1
        exact h1)
      clear hx hl
      go_wp2
      go_roundw
      case rel =>
        refine ⟨i + 1, by go_num, by omega, HS, Hw.out.setCell g i _ (.inl rfl)⟩
      case measure => simp [intOf]; omega
    · have q1 : ¬ (i : Int) < N := by omega
      obtain rfl : i = N := by omega
      have hM : (l.take i).map (· + 1) ++ l.drop i = l.map (· + 1) := by rw [HN.out, List.take_length, List.drop_length, List.append_nil]
      rw [hM] at Ho
      clear hM
      have hcv := Tryd.conv_bs (Ob.bs Ho.out)
      go_wp2
      go_ret
      have h1 := Ho.out
      exact ⟨rfl, h1, Hw.out⟩
set_option maxRecDepth 20000 in
set_option maxHeartbeats 1000000 in
theorem Tryd.still_any {w : World} {B g cap : Nat} {s : ByteArray} {l : List UInt8} (k : Nat) (hl : l = s.toList ++ List.replicate k 201) (h : Ob w B (.slice (some ⟨g, 0, none⟩) l.length cap) l) (hlen : l.length ≤ 140737488355328) :
    Calls Tryd.prog 17 #[.slice (some ⟨g, 0, none⟩) l.length cap, .string s] w fun e w' => e = .returned (.bool true) ∧ ∃ m, w' = w.drewN m := by
  go_enter Tryd.func17, Tryd.ntmps17
  obtain ⟨N, hN⟩ : ∃ N : Nat, N = l.length := ⟨_, rfl⟩
  rw [← hN] at h ⊢
  have HN : Hid (N = l.length) := hN
  have HO : Hid (Ob w B (.slice (some ⟨g, 0, none⟩) N cap) l) := h
  have Hl : Hid (l = s.toList ++ List.replicate k 201) := hl
  have hN2 : N ≤ 140737488355328 := by omega
  have hs2 : s.size ≤ N := by rw [hN, hl, List.length_append, Dg.list_len]; omega
  clear hN h hlen hl
  go_wp2
  go_loopw [5] (fun iv wr => ∃ (i m : Nat), iv = .int .i64 (i : Int) ∧ i ≤ N ∧ wr = w.drewN m) (fun iv _ => N - (intOf iv).toNat)
  case atStart => exact ⟨0, 0, rfl, by omega, rfl⟩
  case round =>
    obtain ⟨i, m, rfl, hi, rfl⟩ := hrel
    by_cases hlt : i < N
    · have q1 : (i : Int) < N := by omega
      have q2 : (0 : Int) ≤ i := by omega
      have hil : i < l.length := by rw [← HN.out]; exact hlt
      by_cases hs : i < s.size
      · have q3 : (i : Int) < s.size := by omega
        have q5 : decide (s.size ≤ i) = false := by simp; omega
        have hc : w.cell? ⟨g, i, none⟩ = some (.int .u8 (s[i].toNat : Nat)) := by
          rw [(Ob.cell HO.out hil).1]
          have : l[i] = s[i] := by
            simp only [Hl.out]
            rw [List.getElem_append_left (by rw [Dg.list_len]; exact hs)]
            simp only [ByteArray.toList_eq]
            rfl
          rw [this]
        clear hil
        go_wp2
        go_quiet (fail)
        go_wp2
        go_roundw
        case rel => exact ⟨i + 1, _, by go_num, by omega, rfl⟩
        case measure => simp [intOf]; omega
      · have q3 : ¬ (i : Int) < s.size := by omega
        have q4 : (s.size : Int) ≤ i := by omega
        have hc : w.cell? ⟨g, i, none⟩ = some (.int .u8 201) := by
          rw [(Ob.cell HO.out hil).1]
          have : l[i] = 201 := by
            simp only [Hl.out]
            rw [List.getElem_append_right (by rw [Dg.list_len]; omega), List.getElem_replicate]
          rw [this]
          rfl
        clear hil
        go_wp2
        go_quiet (fail)
        go_wp2
        go_roundw
        case rel => exact ⟨i + 1, _, by go_num, by omega, rfl⟩
        case measure => simp [intOf]; omega
    · have q1 : ¬ (i : Int) < N := by omega
      go_wp2
      go_ret
      exact ⟨rfl, _, rfl⟩
end Go.Proofs
