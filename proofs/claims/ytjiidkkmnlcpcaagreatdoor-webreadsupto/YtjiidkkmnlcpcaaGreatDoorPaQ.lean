/-
  Laid together by packg.py of Xq Xr Xs.
-/
import Derived.Test.YtjiidkkmnlcpcaaGreatDoorPaI
namespace Go.Wb
theorem at_text {l : List UInt8} {i : Nat} (_hi : i < l.length) (h : i < (⟨l.toArray⟩ : ByteArray).size) : (⟨l.toArray⟩ : ByteArray)[i]'h = l[i] := by
  show l.toArray[i] = _
  simp
theorem text_size (l : List UInt8) : (⟨l.toArray⟩ : ByteArray).size = l.length := by show l.toArray.size = _; simp
theorem all_take {l : List UInt8} {p : UInt8 → Bool} {i : Nat} (hi : i < l.length) (h : (l.take i).all p = true) (hp : p l[i] = true) : (l.take (i + 1)).all p = true := by
  rw [List.take_add_one, List.getElem?_eq_getElem hi, List.all_append, h]
  simp [hp]
theorem all_not {l : List UInt8} {p : UInt8 → Bool} {i : Nat} (hi : i < l.length) (hp : p l[i] = false) : l.all p = false := by
  rw [Bool.eq_false_iff]
  intro h
  have := List.all_eq_true.1 h l[i] (List.getElem_mem hi)
  rw [hp] at this; cases this
end Go.Wb
namespace Go.Proofs
open Go.RowKit Go.Wi Go.Wb
set_option maxRecDepth 20000 in
set_option maxHeartbeats 400000 in
/-- Are all bytes of a text digits? -/
theorem Tryz.allDigits_any (l : List UInt8) (hl : l.length ≤ 9223372036854775807) (w : World) :
    Calls Tryz.prog 81 #[.string ⟨l.toArray⟩, .func (.func 57) #[] #[]] w fun e w' => e = .returned (.bool (l.all dig)) ∧ w' = w := by
  have hsz := text_size l
  go_enter Tryz.func81, Tryz.ntmps81
  go_wp2
  go_loopw [5, 8] (fun _ iv wr => ∃ i : Nat, iv = .int .i64 i ∧ i ≤ l.length ∧ (l.take i).all dig = true ∧ wr = w) (fun _ iv _ => l.length - (intOf iv).toNat)
  case atStart => exact ⟨0, rfl, Nat.zero_le _, by simp, rfl⟩
  case round =>
    obtain ⟨i, rfl, hi, ha, rfl⟩ := hrel
    by_cases hlt : i < l.length
    · have q : (i : Int) < (l.length : Int) := by omega
      have hix := at_text hlt
      have kd := Tryz.isDigit_any l[i] wr
      have HT : Hid ((l.take i).all dig = true) := ha
      clear ha
      cases hd : dig l[i] with
      | true =>
        rw [hd] at kd
        have HN : Hid ((l.take (i + 1)).all dig = true) := all_take hlt HT.out hd
        clear hd
        go_wp2_with (first | (go_at_call 57; refine kd.mono ?_; clear kd; rintro e w1 ⟨rfl, rfl⟩) | fail)
        go_roundw
        case rel => exact ⟨i + 1, by simp, by omega, HN.out, trivial⟩
        case measure => simp [intOf]; omega
      | false =>
        rw [hd] at kd
        have HN : Hid (l.all dig = false) := all_not hlt hd
        clear hd
        go_wp2_with (first | (go_at_call 57; refine kd.mono ?_; clear kd; rintro e w1 ⟨rfl, rfl⟩) | fail)
        go_ret
        exact ⟨by rw [HN.out]; rfl, rfl⟩
    · have q : ¬ (i : Int) < (l.length : Int) := by omega
      have e : l.all dig = true := by rw [List.take_of_length_le (by omega)] at ha; exact ha
      have HE : Hid (l.all dig = true) := e
      clear e ha
      go_wp2
      go_ret
      exact ⟨by rw [HE.out]; rfl, rfl⟩
set_option maxHeartbeats 400000 in
theorem Tryz.isNumber_any (l : List UInt8) (hl : l.length ≤ 9223372036854775807) (w : World) :
    Calls Tryz.prog 149 #[.string ⟨l.toArray⟩] w fun e w' => e = .returned (.bool (isNumber l)) ∧ w' = w := by
  have ka := Tryz.allDigits_any l hl w
  by_cases h0 : l = []
  · subst h0
    go_enter Tryz.func149, Tryz.ntmps149
    go_wp2
    go_ret
    exact ⟨rfl, rfl⟩
  · have q : l.isEmpty = false := by simpa using h0
    have e : isNumber l = l.all dig := by simp [isNumber, q]
    have HE : Hid (isNumber l = l.all dig) := e
    clear e h0
    go_enter Tryz.func149, Tryz.ntmps149
    go_wp2_with (first | (go_at_call 81; refine ka.mono ?_; clear ka; rintro e w1 ⟨rfl, rfl⟩) | fail)
    go_ret
    exact ⟨by rw [HE.out]; rfl, rfl⟩
set_option maxRecDepth 20000 in
set_option maxHeartbeats 400000 in
theorem Tryz.numberOf_any {T : TypeId} {w : World} {own : Nat → Prop} {b : Nat} {m : Msg} (h : Tryz.Ms T w own b m) (hm : m.most ≤ 999999999) (l : List UInt8) (hl : l.length ≤ 9223372036854775807) (hd : l.all dig = true) :
    Calls Tryz.prog 150 #[.pointer (some ⟨b, 0, none⟩), .string ⟨l.toArray⟩] w fun e w' => e = .returned (.int .i64 (numberOf m.most l : Nat)) ∧ w' = w := by
  have hsz := text_size l
  have HH : Hid _ := h
  clear h
  go_enter Tryz.func150, Tryz.ntmps150
  go_wp2
  go_loopw [5, 6, 9] (fun nv _ iv wr => ∃ i : Nat, iv = .int .i64 i ∧ i ≤ l.length ∧ nv = .int .i64 (numberOf m.most (l.take i) : Nat) ∧ wr = w) (fun _ _ iv _ => l.length - (intOf iv).toNat)
  case atStart => exact ⟨0, rfl, Nat.zero_le _, rfl, rfl⟩
  case round =>
    obtain ⟨i, rfl, hi, rfl, rfl⟩ := hrel
    by_cases hlt : i < l.length
    · have q : (i : Int) < (l.length : Int) := by omega
      have hix := at_text hlt
      have hc := List.all_eq_true.1 hd l[i] (List.getElem_mem hlt)
      obtain ⟨h9, h48⟩ := dig_sub hc
      have HN : Hid (numberOf m.most (l.take (i + 1)) = grown m.most (numberOf m.most (l.take i)) 10 (l[i].toNat - 48)) := (by
        show numberOf m.most (l.take (i + 1)) = _
        unfold numberOf
        rw [List.take_add_one, List.getElem?_eq_getElem hlt, List.foldl_append]
        rfl)
      clear hc
      have hc8 := toNat_lt l[i]
      generalize numberOf m.most (l.take i) = n at *
      have kg := Tryz.grown_any HH.out n 10 (l[i].toNat - 48) hm (by omega) (by omega)
      obtain ⟨d, hd2⟩ : ∃ d : Nat, l[i].toNat - 48 = d := ⟨_, rfl⟩
      have hde : ((l[i].toNat : Int) - 48) = (d : Int) := by omega
      rw [hd2] at kg HN
      clear hd2
      go_wp2_with (first | (go_at_call 154; refine kg.mono ?_; clear kg; rintro e w1 ⟨rfl, rfl⟩) | fail)
      go_roundw
      case rel => exact ⟨i + 1, by simp, by omega, by rw [HN.out], trivial⟩
      case measure => simp [intOf]; omega
    · have q : ¬ (i : Int) < (l.length : Int) := by omega
      have HE : Hid (l.take i = l) := List.take_of_length_le (by omega)
      go_wp2
      go_ret
      exact ⟨by rw [HE.out]; rfl, rfl⟩
end Go.Proofs
namespace Go.Wb
open Go.RowKit Go.Proofs
/-- Bytes in a block of their own. -/
structure Tx (w wr : World) (g : Nat) (l : List UInt8) : Prop where
  bel : Below w.heap.size w wr
  cell : ∀ j (hj : j < l.length), wr.cell? ⟨g, j, none⟩ = some (.int .u8 (l[j].toNat : Nat))
  frz : ∀ j, j < l.length → wr.frozen? ⟨g, j, none⟩ = false
  ge : w.heap.size ≤ g
  lt : g < wr.heap.size
theorem Tx.set {w wr : World} {g : Nat} {l : List UInt8} (h : Tx w wr g l) (i : Nat) (hi : i < l.length) (c : UInt8) : Tx w (wr.setCell ⟨g, i, none⟩ (.int .u8 (c.toNat : Nat))) g (l.set i c) := by
  refine ⟨h.bel.setCell (p := ⟨g, i, none⟩) h.ge _, fun j hj => ?_, fun j hj => ?_, h.ge, by simpa using h.lt⟩
  · rw [List.length_set] at hj
    by_cases e : i = j
    · subst e
      rw [World.cell?_setCell_same' _ _ _ (by rw [h.cell i hi]; rfl)]
      simp
    · rw [World.cell?_setCell_other _ _ _ _ (fun e' => e (by injection e')), h.cell j hj, List.getElem_set_ne e]
  · rw [List.length_set] at hj
    rw [World.frozen?_setCell]; exact h.frz j hj
theorem Tx.start (w : World) (e : TypeId) (l : List UInt8) : Tx w (Lib.bytesWorld w e ⟨l.toArray⟩) w.heap.size l := by
  have hn := Lib.bytesWorld_at_new w e ⟨l.toArray⟩
  have hsz := text_size l
  refine ⟨⟨rfl, rfl, rfl, by rw [Lib.bytesWorld_size]; omega, fun k hk => Lib.bytesWorld_at_old w _ _ k hk⟩, fun j hj => ?_, fun j hj => ?_, Nat.le_refl _, by rw [Lib.bytesWorld_size]; omega⟩
  · rw [Lib.bytesWorld_cell w e ⟨l.toArray⟩ j (by rw [hsz]; exact hj)]
    simp [hj]
  · have hs : (Lib.bytesCells w e ⟨l.toArray⟩).size = grownCap w (⟨l.toArray⟩ : ByteArray).size 0 e := by
      have := grownCap_ge w (⟨l.toArray⟩ : ByteArray).size 0 e
      simp only [Lib.bytesCells, Array.size_append, Array.size_map, Array.size_replicate]
      show (⟨l.toArray⟩ : ByteArray).size + _ = _
      omega
    have := grownCap_ge w (⟨l.toArray⟩ : ByteArray).size 0 e
    simp [World.frozen?, hn]
    omega
/-- Small letters of the first i bytes. -/
def smUpto (l : List UInt8) (i : Nat) : List UInt8 := (l.take i).map sm ++ l.drop i
theorem smUpto_len (l : List UInt8) (i : Nat) : (smUpto l i).length = l.length := by simp [smUpto]; omega
theorem smUpto_at {l : List UInt8} {i : Nat} (hi : i < l.length) : (smUpto l i)[i]'(by rw [smUpto_len]; exact hi) = l[i] := by
  simp only [smUpto]
  rw [List.getElem_append_right (by simp; omega)]
  simp [List.length_take, Nat.min_eq_left (Nat.le_of_lt hi)]
theorem smUpto_next {l : List UInt8} {i : Nat} (hi : i < l.length) : (smUpto l i).set i (sm l[i]) = smUpto l (i + 1) := by
  unfold smUpto
  rw [List.set_append_right _ _ (by simp; omega), List.take_add_one, List.getElem?_eq_getElem hi, List.map_append, List.append_assoc, List.length_map, List.length_take, Nat.min_eq_left (Nat.le_of_lt hi), Nat.sub_self, List.drop_eq_getElem_cons hi]
  rfl
theorem smUpto_all {l : List UInt8} {i : Nat} (hi : l.length ≤ i) : smUpto l i = l.map sm := by
  unfold smUpto
  rw [List.take_of_length_le hi, List.drop_of_length_le hi, List.append_nil]
theorem Tx.bs {w wr : World} {g cap : Nat} {l : List UInt8} (h : Tx w wr g l) (hc : l.length ≤ cap) : Go.Wi.Bs wr (.slice (some ⟨g, 0, none⟩) l.length cap) l := by
  refine ⟨some ⟨g, 0, none⟩, cap, rfl, hc, (fun e => by cases e), .inr ⟨g, 0, rfl, h.lt, fun j u hu => ?_⟩⟩
  have hj : j < l.length := by have := (List.getElem?_eq_some_iff.1 hu).1; rwa [Go.Wi.byteCells_len] at this
  rw [Go.Wi.byteCell hj] at hu
  rw [Nat.zero_add, h.cell j hj, ← hu]
end Go.Wb
namespace Go.Proofs
open Go.RowKit Go.Wi Go.Wb
theorem Tryz.conv_sb (t : ByteArray) (W : World) : (convert 9 23 (.string t)).run Tryz.prog W = .ok (.slice (some ⟨W.heap.size, 0, none⟩) t.size (grownCap W t.size 0 5)) (Lib.bytesWorld W 5 t) :=
  Lib.run_convert_string_bytes (P := Tryz.prog) W 9 23 5 t (u := .string) Tryz.underlying9 Tryz.underlying23 Tryz.underlying5
set_option maxRecDepth 20000 in
set_option maxHeartbeats 400000 in
theorem Tryz.smallText_any (l : List UInt8) (hl : l.length ≤ 140737488355328) (w : World) :
    Calls Tryz.prog 52 #[.string ⟨l.toArray⟩] w fun e w' => e = .returned (.string ⟨(l.map sm).toArray⟩) ∧ Below w.heap.size w w' := by
  have hsz := text_size l
  have hcv := Tryz.conv_sb ⟨l.toArray⟩ w
  have hT := Tx.start w 5 l
  have hcap := grownCap_ge w (⟨l.toArray⟩ : ByteArray).size 0 5
  rw [hsz] at hcv hcap
  generalize grownCap w l.length 0 5 = C at *
  generalize Lib.bytesWorld w 5 ⟨l.toArray⟩ = W1 at *
  have HT : Hid (Tx w W1 w.heap.size l) := hT
  clear hT
  have hl63 : l.length ≤ 9223372036854775807 := by omega
  go_enter Tryz.func52, Tryz.ntmps52
  go_wp2
  go_loopw [4, 5, 10] (fun _ _ iv wr => ∃ i : Nat, iv = .int .i64 i ∧ i ≤ l.length ∧ Tx w wr w.heap.size (smUpto l i)) (fun _ _ iv _ => l.length - (intOf iv).toNat)
  case atStart => exact ⟨0, rfl, Nat.zero_le _, by have := HT.out; simpa [smUpto] using this⟩
  case round =>
    obtain ⟨i, rfl, hi, ht⟩ := hrel
    have HX : Hid (Tx w wr w.heap.size (smUpto l i)) := ht
    clear ht
    by_cases hlt : i < l.length
    · have q : (i : Int) < (l.length : Int) := by omega
      have c0 := HX.out.cell i (by rw [smUpto_len]; exact hlt)
      rw [smUpto_at hlt] at c0
      have f0 := HX.out.frz i (by rw [smUpto_len]; exact hlt)
      have ks := Tryz.small_any l[i]
      have HN : Hid (Tx w (wr.setCell ⟨w.heap.size, i, none⟩ (.int .u8 ((sm l[i]).toNat : Nat))) w.heap.size (smUpto l (i + 1))) := (by
        have := HX.out.set i (by rw [smUpto_len]; exact hlt) (sm l[i])
        rw [smUpto_next hlt] at this
        exact this)
      go_wp2_with (first | (go_at_call 83; refine (ks _).mono ?_; rintro e w1 ⟨rfl, rfl⟩) | fail)
      go_roundw
      case rel => exact ⟨i + 1, by simp, by omega, HN.out⟩
      case measure => simp [intOf]; omega
    · have q : ¬ (i : Int) < (l.length : Int) := by omega
      have hX := HX.out
      rw [smUpto_all (by omega)] at hX
      have hcb := Tryz.conv_bs (Tx.bs hX (cap := C) (by simpa using hcap))
      rw [List.length_map] at hcb
      have HB : Hid _ := hX.bel
      clear hX
      go_wp2
      go_ret
      exact ⟨rfl, HB.out⟩
end Go.Proofs
namespace Go.Wb
open Go.RowKit Go.Proofs
def strCells (l : List (List UInt8)) : List Value := l.map fun x => .string ⟨x.toArray⟩
theorem strCells_len (l : List (List UInt8)) : (strCells l).length = l.length := by simp [strCells]
theorem hd_cell {l : List (List UInt8 × List UInt8)} {i : Nat} (hi : i < l.length) : (hdCells l)[i * 2]? = some (.string ⟨l[i].1.toArray⟩) ∧ (hdCells l)[i * 2 + 1]? = some (.string ⟨l[i].2.toArray⟩) := by
  induction l generalizing i with
  | nil => cases hi
  | cons h r ih =>
    have e : hdCells (h :: r) = .string ⟨h.1.toArray⟩ :: .string ⟨h.2.toArray⟩ :: hdCells r := rfl
    cases i with
    | zero => exact ⟨rfl, rfl⟩
    | succ i =>
      have := ih (i := i) (by simpa using hi)
      rw [e, show (i + 1) * 2 = i * 2 + 1 + 1 by omega]
      simpa using this
/-- Values of the first i headers. -/
def valsUpto (l : List (List UInt8 × List UInt8)) (nm : List UInt8) (i : Nat) : List (List UInt8) := ((l.take i).filter fun h => h.1 == nm).map (·.2)
theorem valsUpto_yes {l : List (List UInt8 × List UInt8)} {nm : List UInt8} {i : Nat} (hi : i < l.length) (h : (l[i].1 == nm) = true) : valsUpto l nm (i + 1) = valsUpto l nm i ++ [l[i].2] := by
  unfold valsUpto
  rw [List.take_add_one, List.getElem?_eq_getElem hi, List.filter_append, List.map_append]
  simp [h]
theorem valsUpto_no {l : List (List UInt8 × List UInt8)} {nm : List UInt8} {i : Nat} (hi : i < l.length) (h : (l[i].1 == nm) = false) : valsUpto l nm (i + 1) = valsUpto l nm i := by
  unfold valsUpto
  rw [List.take_add_one, List.getElem?_eq_getElem hi, List.filter_append, List.map_append]
  simp [h]
theorem valsUpto_len (l : List (List UInt8 × List UInt8)) (nm : List UInt8) (i : Nat) : (valsUpto l nm i).length ≤ l.length := by
  unfold valsUpto
  rw [List.length_map]
  exact Nat.le_trans (List.length_filter_le _ _) (by rw [List.length_take]; omega)
end Go.Wb
namespace Go.Proofs
open Go.RowKit Go.Wi Go.Wb
theorem Tryz.infoStr : (Tryz.prog.info? 9).map (fun i => (i.zero, i.size, i.bytes)) = some (some (.string ByteArray.empty), 1, 16) := by kernel_rfl
/-- 'append' of a text. -/
theorem Tryz.appStr {ops : Array Oper} {rest : List Oper} {o : Oper} {a : Act} {Q : Exit → Act → World → Prop} (hgd : o.guard = none) (s y : Operand)
    (ho : o.op = .call { callee := .builtin .append, args := #[s, y], argTypes := #[46, 46] })
    {w : World} {B : Nat} {V : Value} {n : Nat} {xs : List Value} (hrow : w.ownsRow B 9 1 V n xs) (hB : B ≤ w.heap.size) (hs : a.eval s = V) {H : Nat} (hy : a.eval y = .slice (some ⟨H, 0, none⟩) 1 1) (hH : H = w.heap.size) (x : ByteArray) (hlen : n + 1 ≤ 4398046511104)
    (hK : ∀ g cap w1, w1.ownsRow B 9 1 (.slice (some ⟨g, 0, none⟩) (n + 1) cap) (n + 1) (xs ++ [.string x]) → Below B w w1 → wpList Tryz.prog ops Q rest (a.put o.dst (.slice (some ⟨g, 0, none⟩) (n + 1) cap)) w1) : wpList Tryz.prog ops Q (o :: rest) a (w.alloc (.cells #[.string x] 9)) := by
  subst hH
  obtain ⟨i0, hi0, hz0, hz1, hz2⟩ := info_parts Tryz.infoStr
  have hn : (w.alloc (.cells #[.string x] 9)).heap[w.heap.size]? = some (.cells #[.string x] 9 (0, 0)) := heap_alloc_new w _
  have hb : Below w.heap.size w (w.alloc (.cells #[.string x] 9)) := (Below.refl w.heap.size w).alloc (Nat.le_refl _) _
  have hrow1 := row_keep hrow fun k e => hb.block k (hrow.lt k e).2
  have hsz : (w.alloc (.cells #[.string x] 9)).heap.size = w.heap.size + 1 := by simp
  refine wpList_append_lies _ hgd s y 46 ho B 9 i0 _ 1 16 Tryz.underlying46 hi0 hz0 hz1 hz2 rfl (by omega) V n xs hs hrow1 ⟨w.heap.size, 0, none⟩ 1 1 [.string x] hy rfl (World.news_of_block hn) (by simp [Value.oneCell']) (by omega) (by unfold maxLen; omega) (by omega) (by omega) _ rfl ?_
  intro g cap w' hown hg hat hlt
  exact hK g cap w' hown ((hb.mono hB).grown hg (by omega) fun k e => (hrow.lt k e).1)
set_option maxRecDepth 20000 in
set_option maxHeartbeats 1000000 in
theorem Tryz.values_any {T : TypeId} {w : World} {own : Nat → Prop} {b : Nat} {m : Msg} (h : Tryz.Ms T w own b m) (nm : List UInt8) (hh : m.headers.length ≤ 4398046511000) :
    Calls Tryz.prog 148 #[.pointer (some ⟨b, 0, none⟩), .string ⟨nm.toArray⟩] w fun e w' => ∃ ad cap, e = .returned (.slice ad (vals m nm).length cap) ∧ w'.ownsRow w.heap.size 9 1 (.slice ad (vals m nm).length cap) (vals m nm).length (strCells (vals m nm)) ∧ Below w.heap.size w w' := by
  obtain ⟨aw, cw, ah, ch, ab, cb, hmw⟩ := h.ex
  have c13 := cell_of_row _ _ 13 _ _ _ hmw.blk
  simp only [Tryz.mc, List.getElem?_toArray, List.getElem?_cons_succ, List.getElem?_cons_zero] at c13
  have HM : Hid _ := hmw
  clear hmw h
  have hl63 : m.headers.length ≤ 9223372036854775807 := by omega
  go_enter Tryz.func148, Tryz.ntmps148
  go_wp2
  go_loopw [5, 7, 13] (fun V _ iv wr => ∃ i : Nat, iv = .int .i64 i ∧ i ≤ m.headers.length ∧ ∃ ad cap, V = .slice ad (valsUpto m.headers nm i).length cap ∧ wr.ownsRow w.heap.size 9 1 V (valsUpto m.headers nm i).length (strCells (valsUpto m.headers nm i)) ∧ Below w.heap.size w wr) (fun _ _ iv _ => m.headers.length - (intOf iv).toNat)
  case atStart => exact ⟨0, rfl, Nat.zero_le _, none, 0, rfl, World.ownsRow_nil _ _ _ _, Below.refl _ _⟩
  case round =>
    obtain ⟨i, rfl, hi, ad, cap, rfl, hrow, hbel⟩ := hrel
    by_cases hlt : i < m.headers.length
    · have q : (i : Int) < (m.headers.length : Int) := by omega
      obtain ⟨gh, hgh, hc1, hc2⟩ : ∃ gh, ah = some ⟨gh, 0, none⟩ ∧ wr.cell? ⟨gh, i * 2, none⟩ = some (.string ⟨m.headers[i].1.toArray⟩) ∧ wr.cell? ⟨gh, i * 2 + 1, none⟩ = some (.string ⟨m.headers[i].2.toArray⟩) := by
        obtain ⟨e1, e2⟩ := hd_cell hlt
        rcases HM.out.heads.2 with ⟨e, e0⟩ | ⟨g, cap', cur, e, h1, h2, h3, h4, h5, h6⟩
        · omega
        · injection e with e3 e4 e5
          subst e3
          have hg := HM.out.lt g (HM.out.dh g rfl).1
          refine ⟨g, rfl, ?_, ?_⟩
          · rw [hbel.cell (p := ⟨g, i * 2, none⟩) hg, cell_of_row _ _ _ _ _ _ h2, ← e1, ← h6, List.getElem?_take, if_pos (by omega)]; simp
          · rw [hbel.cell (p := ⟨g, i * 2 + 1, none⟩) hg, cell_of_row _ _ _ _ _ _ h2, ← e2, ← h6, List.getElem?_take, if_pos (by omega)]; simp
      subst hgh
      have hvl := valsUpto_len m.headers nm i
      have HB2 : Hid (Below wr.heap.size wr (wr.alloc (.cells #[.string ⟨m.headers[i].1.toArray⟩, .string ⟨m.headers[i].2.toArray⟩] 57))) := (Below.refl _ wr).alloc (Nat.le_refl _) _
      have HR2 : Hid ((wr.alloc (.cells #[.string ⟨m.headers[i].1.toArray⟩, .string ⟨m.headers[i].2.toArray⟩] 57)).ownsRow w.heap.size 9 1 (.slice ad (valsUpto m.headers nm i).length cap) (valsUpto m.headers nm i).length (strCells (valsUpto m.headers nm i))) := row_keep hrow fun k e => HB2.out.block k (hrow.lt k e).2
      have HB3 : Hid (Below w.heap.size w (wr.alloc (.cells #[.string ⟨m.headers[i].1.toArray⟩, .string ⟨m.headers[i].2.toArray⟩] 57))) := hbel.trans (HB2.out.mono hbel.size)
      have HL : Hid ((valsUpto m.headers nm i).length + 1 ≤ 4398046511104) := (by show (valsUpto m.headers nm i).length + 1 ≤ _; omega)
      have HS : Hid (w.heap.size ≤ (wr.alloc (.cells #[.string ⟨m.headers[i].1.toArray⟩, .string ⟨m.headers[i].2.toArray⟩] 57)).heap.size) := HB3.out.size
      clear hrow hbel hvl
      cases hc : (m.headers[i].1 == nm) with
      | true =>
        have HV : Hid (valsUpto m.headers nm (i + 1) = valsUpto m.headers nm i ++ [m.headers[i].2]) := valsUpto_yes hlt hc
        go_wp2_with (first | (at_builtin; refine Tryz.appStr rfl _ _ rfl HR2.out HS.out rfl rfl (by simp) _ HL.out ?_; intro g1 cap1 w1 hr1 hb1) | fail)
        go_roundw
        case rel =>
          refine ⟨i + 1, by simp, by omega, some ⟨g1, 0, none⟩, cap1, ?_, ?_, HB3.out.trans hb1⟩
          · rw [HV.out]; simp
          · rw [HV.out]; simpa [strCells] using hr1
        case measure => simp [intOf]; omega
      | false =>
        have HV : Hid (valsUpto m.headers nm (i + 1) = valsUpto m.headers nm i) := valsUpto_no hlt hc
        go_wp2
        go_roundw
        case rel => exact ⟨i + 1, by simp, by omega, ad, cap, by rw [HV.out], by rw [HV.out]; exact HR2.out, HB3.out⟩
        case measure => simp [intOf]; omega
    · have q : ¬ (i : Int) < (m.headers.length : Int) := by omega
      have e : valsUpto m.headers nm i = vals m nm := by unfold valsUpto vals; rw [List.take_of_length_le (by omega)]
      have HR : Hid (wr.ownsRow w.heap.size 9 1 (.slice ad (vals m nm).length cap) (vals m nm).length (strCells (vals m nm))) := (by rw [← e]; exact hrow)
      have HE : Hid (valsUpto m.headers nm i = vals m nm) := e
      clear e hrow
      go_wp2
      go_ret
      exact ⟨ad, cap, by rw [← HE.out]; rfl, HR.out, hbel⟩
end Go.Proofs
