/-
  Small letters of a text.
-/
import Derived.Test.YtogimcdjllhkcaaGreatDoorXq
namespace Go.Wb
open Go.RowKit Go.Proofs
/-- Bytes in a block of their own. -/
structure Tx (w wr : World) (g : Nat) (l : List UInt8) : Prop where
  bel : Below w.heap.size w wr
  cell : ∀ j (hj : j < l.length), wr.cell? ⟨g, j, none⟩ = some (.int .u8 (l[j].toNat : Nat))
  frz : ∀ j, j < l.length → wr.frozen? ⟨g, j, none⟩ = false
  ge : w.heap.size ≤ g
  lt : g < wr.heap.size
theorem Tx.set {w wr : World} {g : Nat} {l : List UInt8} (h : Tx w wr g l) (i : Nat) (hi : i < l.length) (c : UInt8) : Tx w (wr.setCell ⟨g, i, none⟩ (.int .u8 (c.toNat : Nat))) g (l.set i c) := by
  refine ⟨h.bel.setCell (p := ⟨g, i, none⟩) h.ge _, fun j hj => ?_, fun j hj => ?_, h.ge, by simpa using h.lt⟩
  · rw [List.length_set] at hj
    by_cases e : i = j
    · subst e
      rw [World.cell?_setCell_same' _ _ _ (by rw [h.cell i hi]; rfl)]
      simp
    · rw [World.cell?_setCell_other _ _ _ _ (fun e' => e (by injection e')), h.cell j hj, List.getElem_set_ne e]
  · rw [List.length_set] at hj
    rw [World.frozen?_setCell]; exact h.frz j hj
theorem Tx.start (w : World) (e : TypeId) (l : List UInt8) : Tx w (Lib.bytesWorld w e ⟨l.toArray⟩) w.heap.size l := by
  have hn := Lib.bytesWorld_at_new w e ⟨l.toArray⟩
  have hsz := text_size l
  refine ⟨⟨rfl, rfl, rfl, by rw [Lib.bytesWorld_size]; omega, fun k hk => Lib.bytesWorld_at_old w _ _ k hk⟩, fun j hj => ?_, fun j hj => ?_, Nat.le_refl _, by rw [Lib.bytesWorld_size]; omega⟩
  · rw [Lib.bytesWorld_cell w e ⟨l.toArray⟩ j (by rw [hsz]; exact hj)]
    simp [hj]
  · have hs : (Lib.bytesCells w e ⟨l.toArray⟩).size = grownCap w (⟨l.toArray⟩ : ByteArray).size 0 e := by
      have := grownCap_ge w (⟨l.toArray⟩ : ByteArray).size 0 e
      simp only [Lib.bytesCells, Array.size_append, Array.size_map, Array.size_replicate]
      show (⟨l.toArray⟩ : ByteArray).size + _ = _
      omega
    have := grownCap_ge w (⟨l.toArray⟩ : ByteArray).size 0 e
    simp [World.frozen?, hn]
    omega
/-- Small letters of the first i bytes. -/
def smUpto (l : List UInt8) (i : Nat) : List UInt8 := (l.take i).map sm ++ l.drop i
theorem smUpto_len (l : List UInt8) (i : Nat) : (smUpto l i).length = l.length := by simp [smUpto]; omega
theorem smUpto_at {l : List UInt8} {i : Nat} (hi : i < l.length) : (smUpto l i)[i]'(by rw [smUpto_len]; exact hi) = l[i] := by
  simp only [smUpto]
  rw [List.getElem_append_right (by simp; omega)]
  simp [List.length_take, Nat.min_eq_left (Nat.le_of_lt hi)]
theorem smUpto_next {l : List UInt8} {i : Nat} (hi : i < l.length) : (smUpto l i).set i (sm l[i]) = smUpto l (i + 1) := by
  unfold smUpto
  rw [List.set_append_right _ _ (by simp; omega), List.take_add_one, List.getElem?_eq_getElem hi, List.map_append, List.append_assoc, List.length_map, List.length_take, Nat.min_eq_left (Nat.le_of_lt hi), Nat.sub_self, List.drop_eq_getElem_cons hi]
  rfl
theorem smUpto_all {l : List UInt8} {i : Nat} (hi : l.length ≤ i) : smUpto l i = l.map sm := by
  unfold smUpto
  rw [List.take_of_length_le hi, List.drop_of_length_le hi, List.append_nil]
theorem Tx.bs {w wr : World} {g cap : Nat} {l : List UInt8} (h : Tx w wr g l) (hc : l.length ≤ cap) : Go.Wi.Bs wr (.slice (some ⟨g, 0, none⟩) l.length cap) l := by
  refine ⟨some ⟨g, 0, none⟩, cap, rfl, hc, (fun e => by cases e), .inr ⟨g, 0, rfl, h.lt, fun j u hu => ?_⟩⟩
  have hj : j < l.length := by have := (List.getElem?_eq_some_iff.1 hu).1; rwa [Go.Wi.byteCells_len] at this
  rw [Go.Wi.byteCell hj] at hu
  rw [Nat.zero_add, h.cell j hj, ← hu]
end Go.Wb
namespace Go.Proofs
open Go.RowKit Go.Wi Go.Wb
theorem Tryz.conv_sb (t : ByteArray) (W : World) : (convert 9 26 (.string t)).run Tryz.prog W = .ok (.slice (some ⟨W.heap.size, 0, none⟩) t.size (grownCap W t.size 0 5)) (Lib.bytesWorld W 5 t) :=
  Lib.run_convert_string_bytes (P := Tryz.prog) W 9 26 5 t (u := .string) Tryz.underlying9 Tryz.underlying26 Tryz.underlying5
set_option maxRecDepth 20000 in
set_option maxHeartbeats 400000 in
theorem Tryz.smallText_any (l : List UInt8) (hl : l.length ≤ 140737488355328) (w : World) :
    Calls Tryz.prog 46 #[.string ⟨l.toArray⟩] w fun e w' => e = .returned (.string ⟨(l.map sm).toArray⟩) ∧ Below w.heap.size w w' := by
  have hsz := text_size l
  have hcv := Tryz.conv_sb ⟨l.toArray⟩ w
  have hT := Tx.start w 5 l
  have hcap := grownCap_ge w (⟨l.toArray⟩ : ByteArray).size 0 5
  rw [hsz] at hcv hcap
  generalize grownCap w l.length 0 5 = C at *
  generalize Lib.bytesWorld w 5 ⟨l.toArray⟩ = W1 at *
  have HT : Hid (Tx w W1 w.heap.size l) := hT
  clear hT
  have hl63 : l.length ≤ 9223372036854775807 := by omega
  go_enter Tryz.func46, Tryz.ntmps46
  go_wp2
  go_loopw [4, 5, 10] (fun _ _ iv wr => ∃ i : Nat, iv = .int .i64 i ∧ i ≤ l.length ∧ Tx w wr w.heap.size (smUpto l i)) (fun _ _ iv _ => l.length - (intOf iv).toNat)
  case atStart => exact ⟨0, rfl, Nat.zero_le _, by have := HT.out; simpa [smUpto] using this⟩
  case round =>
    obtain ⟨i, rfl, hi, ht⟩ := hrel
    have HX : Hid (Tx w wr w.heap.size (smUpto l i)) := ht
    clear ht
    by_cases hlt : i < l.length
    · have q : (i : Int) < (l.length : Int) := by omega
      have c0 := HX.out.cell i (by rw [smUpto_len]; exact hlt)
      rw [smUpto_at hlt] at c0
      have f0 := HX.out.frz i (by rw [smUpto_len]; exact hlt)
      have ks := Tryz.small_any l[i]
      have HN : Hid (Tx w (wr.setCell ⟨w.heap.size, i, none⟩ (.int .u8 ((sm l[i]).toNat : Nat))) w.heap.size (smUpto l (i + 1))) := (by
        have := HX.out.set i (by rw [smUpto_len]; exact hlt) (sm l[i])
        rw [smUpto_next hlt] at this
        exact this)
      go_wp2_with (first | (go_at_call 62; refine (ks _).mono ?_; rintro e w1 ⟨rfl, rfl⟩) | fail)
      go_roundw
      case rel => exact ⟨i + 1, by simp, by omega, HN.out⟩
      case measure => simp [intOf]; omega
    · have q : ¬ (i : Int) < (l.length : Int) := by omega
      have hX := HX.out
      rw [smUpto_all (by omega)] at hX
      have hcb := Tryz.conv_bs (Tx.bs hX (cap := C) (by simpa using hcap))
      rw [List.length_map] at hcb
      have HB : Hid _ := hX.bel
      clear hX
      go_wp2
      go_ret
      exact ⟨rfl, HB.out⟩
end Go.Proofs
