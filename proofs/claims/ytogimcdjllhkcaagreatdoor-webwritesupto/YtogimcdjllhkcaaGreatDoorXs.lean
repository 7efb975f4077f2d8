/-
  The values of headers of a name.
-/
import Derived.Test.YtogimcdjllhkcaaGreatDoorXr
namespace Go.Wb
open Go.RowKit Go.Proofs
def strCells (l : List (List UInt8)) : List Value := l.map fun x => .string ⟨x.toArray⟩
theorem strCells_len (l : List (List UInt8)) : (strCells l).length = l.length := by simp [strCells]
theorem hd_cell {l : List (List UInt8 × List UInt8)} {i : Nat} (hi : i < l.length) : (hdCells l)[i * 2]? = some (.string ⟨l[i].1.toArray⟩) ∧ (hdCells l)[i * 2 + 1]? = some (.string ⟨l[i].2.toArray⟩) := by
  induction l generalizing i with
  | nil => cases hi
  | cons h r ih =>
    have e : hdCells (h :: r) = .string ⟨h.1.toArray⟩ :: .string ⟨h.2.toArray⟩ :: hdCells r := rfl
    cases i with
    | zero => exact ⟨rfl, rfl⟩
    | succ i =>
      have := ih (i := i) (by simpa using hi)
      rw [e, show (i + 1) * 2 = i * 2 + 1 + 1 by omega]
      simpa using this
/-- Values of the first i headers. -/
def valsUpto (l : List (List UInt8 × List UInt8)) (nm : List UInt8) (i : Nat) : List (List UInt8) := ((l.take i).filter fun h => h.1 == nm).map (·.2)
theorem valsUpto_yes {l : List (List UInt8 × List UInt8)} {nm : List UInt8} {i : Nat} (hi : i < l.length) (h : (l[i].1 == nm) = true) : valsUpto l nm (i + 1) = valsUpto l nm i ++ [l[i].2] := by
  unfold valsUpto
  rw [List.take_add_one, List.getElem?_eq_getElem hi, List.filter_append, List.map_append]
  simp [h]
theorem valsUpto_no {l : List (List UInt8 × List UInt8)} {nm : List UInt8} {i : Nat} (hi : i < l.length) (h : (l[i].1 == nm) = false) : valsUpto l nm (i + 1) = valsUpto l nm i := by
  unfold valsUpto
  rw [List.take_add_one, List.getElem?_eq_getElem hi, List.filter_append, List.map_append]
  simp [h]
theorem valsUpto_len (l : List (List UInt8 × List UInt8)) (nm : List UInt8) (i : Nat) : (valsUpto l nm i).length ≤ l.length := by
  unfold valsUpto
  rw [List.length_map]
  exact Nat.le_trans (List.length_filter_le _ _) (by rw [List.length_take]; omega)
end Go.Wb
namespace Go.Proofs
open Go.RowKit Go.Wi Go.Wb
theorem Tryz.infoStr : (Tryz.prog.info? 9).map (fun i => (i.zero, i.size, i.bytes)) = some (some (.string ByteArray.empty), 1, 16) := by kernel_rfl
/-- 'append' of a text. -/
theorem Tryz.appStr {ops : Array Oper} {rest : List Oper} {o : Oper} {a : Act} {Q : Exit → Act → World → Prop} (hgd : o.guard = none) (s y : Operand)
    (ho : o.op = .call { callee := .builtin .append, args := #[s, y], argTypes := #[135, 135] })
    {w : World} {B : Nat} {V : Value} {n : Nat} {xs : List Value} (hrow : w.ownsRow B 9 1 V n xs) (hB : B ≤ w.heap.size) (hs : a.eval s = V) {H : Nat} (hy : a.eval y = .slice (some ⟨H, 0, none⟩) 1 1) (hH : H = w.heap.size) (x : ByteArray) (hlen : n + 1 ≤ 4398046511104)
    (hK : ∀ g cap w1, w1.ownsRow B 9 1 (.slice (some ⟨g, 0, none⟩) (n + 1) cap) (n + 1) (xs ++ [.string x]) → Below B w w1 → wpList Tryz.prog ops Q rest (a.put o.dst (.slice (some ⟨g, 0, none⟩) (n + 1) cap)) w1) : wpList Tryz.prog ops Q (o :: rest) a (w.alloc (.cells #[.string x] 9)) := by
  subst hH
  obtain ⟨i0, hi0, hz0, hz1, hz2⟩ := info_parts Tryz.infoStr
  have hn : (w.alloc (.cells #[.string x] 9)).heap[w.heap.size]? = some (.cells #[.string x] 9 (0, 0)) := heap_alloc_new w _
  have hb : Below w.heap.size w (w.alloc (.cells #[.string x] 9)) := (Below.refl w.heap.size w).alloc (Nat.le_refl _) _
  have hrow1 := row_keep hrow fun k e => hb.block k (hrow.lt k e).2
  have hsz : (w.alloc (.cells #[.string x] 9)).heap.size = w.heap.size + 1 := by simp
  refine wpList_append_lies _ hgd s y 135 ho B 9 i0 _ 1 16 Tryz.underlying135 hi0 hz0 hz1 hz2 rfl (by omega) V n xs hs hrow1 ⟨w.heap.size, 0, none⟩ 1 1 [.string x] hy rfl (World.news_of_block hn) (by simp [Value.oneCell']) (by omega) (by unfold maxLen; omega) (by omega) (by omega) _ rfl ?_
  intro g cap w' hown hg hat hlt
  exact hK g cap w' hown ((hb.mono hB).grown hg (by omega) fun k e => (hrow.lt k e).1)
set_option maxRecDepth 20000 in
set_option maxHeartbeats 1000000 in
theorem Tryz.values_any {T : TypeId} {w : World} {own : Nat → Prop} {b : Nat} {m : Msg} (h : Tryz.Ms T w own b m) (nm : List UInt8) (hh : m.headers.length ≤ 4398046511000) :
    Calls Tryz.prog 123 #[.pointer (some ⟨b, 0, none⟩), .string ⟨nm.toArray⟩] w fun e w' => ∃ ad cap, e = .returned (.slice ad (vals m nm).length cap) ∧ w'.ownsRow w.heap.size 9 1 (.slice ad (vals m nm).length cap) (vals m nm).length (strCells (vals m nm)) ∧ Below w.heap.size w w' := by
  obtain ⟨aw, cw, ah, ch, ab, cb, hmw⟩ := h.ex
  have c13 := cell_of_row _ _ 13 _ _ _ hmw.blk
  simp only [Tryz.mc, List.getElem?_toArray, List.getElem?_cons_succ, List.getElem?_cons_zero] at c13
  have HM : Hid _ := hmw
  clear hmw h
  have hl63 : m.headers.length ≤ 9223372036854775807 := by omega
  go_enter Tryz.func123, Tryz.ntmps123
  go_wp2
  go_loopw [5, 7, 13] (fun V _ iv wr => ∃ i : Nat, iv = .int .i64 i ∧ i ≤ m.headers.length ∧ ∃ ad cap, V = .slice ad (valsUpto m.headers nm i).length cap ∧ wr.ownsRow w.heap.size 9 1 V (valsUpto m.headers nm i).length (strCells (valsUpto m.headers nm i)) ∧ Below w.heap.size w wr) (fun _ _ iv _ => m.headers.length - (intOf iv).toNat)
  case atStart => exact ⟨0, rfl, Nat.zero_le _, none, 0, rfl, World.ownsRow_nil _ _ _ _, Below.refl _ _⟩
  case round =>
    obtain ⟨i, rfl, hi, ad, cap, rfl, hrow, hbel⟩ := hrel
    by_cases hlt : i < m.headers.length
    · have q : (i : Int) < (m.headers.length : Int) := by omega
      obtain ⟨gh, hgh, hc1, hc2⟩ : ∃ gh, ah = some ⟨gh, 0, none⟩ ∧ wr.cell? ⟨gh, i * 2, none⟩ = some (.string ⟨m.headers[i].1.toArray⟩) ∧ wr.cell? ⟨gh, i * 2 + 1, none⟩ = some (.string ⟨m.headers[i].2.toArray⟩) := by
        obtain ⟨e1, e2⟩ := hd_cell hlt
        rcases HM.out.heads.2 with ⟨e, e0⟩ | ⟨g, cap', cur, e, h1, h2, h3, h4, h5, h6⟩
        · omega
        · injection e with e3 e4 e5
          subst e3
          have hg := HM.out.lt g (HM.out.dh g rfl).1
          refine ⟨g, rfl, ?_, ?_⟩
          · rw [hbel.cell (p := ⟨g, i * 2, none⟩) hg, cell_of_row _ _ _ _ _ _ h2, ← e1, ← h6, List.getElem?_take, if_pos (by omega)]; simp
          · rw [hbel.cell (p := ⟨g, i * 2 + 1, none⟩) hg, cell_of_row _ _ _ _ _ _ h2, ← e2, ← h6, List.getElem?_take, if_pos (by omega)]; simp
      subst hgh
      have hvl := valsUpto_len m.headers nm i
      have HB2 : Hid (Below wr.heap.size wr (wr.alloc (.cells #[.string ⟨m.headers[i].1.toArray⟩, .string ⟨m.headers[i].2.toArray⟩] 52))) := (Below.refl _ wr).alloc (Nat.le_refl _) _
      have HR2 : Hid ((wr.alloc (.cells #[.string ⟨m.headers[i].1.toArray⟩, .string ⟨m.headers[i].2.toArray⟩] 52)).ownsRow w.heap.size 9 1 (.slice ad (valsUpto m.headers nm i).length cap) (valsUpto m.headers nm i).length (strCells (valsUpto m.headers nm i))) := row_keep hrow fun k e => HB2.out.block k (hrow.lt k e).2
      have HB3 : Hid (Below w.heap.size w (wr.alloc (.cells #[.string ⟨m.headers[i].1.toArray⟩, .string ⟨m.headers[i].2.toArray⟩] 52))) := hbel.trans (HB2.out.mono hbel.size)
      have HL : Hid ((valsUpto m.headers nm i).length + 1 ≤ 4398046511104) := (by show (valsUpto m.headers nm i).length + 1 ≤ _; omega)
      have HS : Hid (w.heap.size ≤ (wr.alloc (.cells #[.string ⟨m.headers[i].1.toArray⟩, .string ⟨m.headers[i].2.toArray⟩] 52)).heap.size) := HB3.out.size
      clear hrow hbel hvl
      cases hc : (m.headers[i].1 == nm) with
      | true =>
        have HV : Hid (valsUpto m.headers nm (i + 1) = valsUpto m.headers nm i ++ [m.headers[i].2]) := valsUpto_yes hlt hc
        go_wp2_with (first | (at_builtin; refine Tryz.appStr rfl _ _ rfl HR2.out HS.out rfl rfl (by simp) _ HL.out ?_; intro g1 cap1 w1 hr1 hb1) | fail)
        go_roundw
        case rel =>
          refine ⟨i + 1, by simp, by omega, some ⟨g1, 0, none⟩, cap1, ?_, ?_, HB3.out.trans hb1⟩
          · rw [HV.out]; simp
          · rw [HV.out]; simpa [strCells] using hr1
        case measure => simp [intOf]; omega
      | false =>
        have HV : Hid (valsUpto m.headers nm (i + 1) = valsUpto m.headers nm i) := valsUpto_no hlt hc
        go_wp2
        go_roundw
        case rel => exact ⟨i + 1, by simp, by omega, ad, cap, by rw [HV.out], by rw [HV.out]; exact HR2.out, HB3.out⟩
        case measure => simp [intOf]; omega
    · have q : ¬ (i : Int) < (m.headers.length : Int) := by omega
      have e : valsUpto m.headers nm i = vals m nm := by unfold valsUpto vals; rw [List.take_of_length_le (by omega)]
      have HR : Hid (wr.ownsRow w.heap.size 9 1 (.slice ad (vals m nm).length cap) (vals m nm).length (strCells (vals m nm))) := (by rw [← e]; exact hrow)
      have HE : Hid (valsUpto m.headers nm i = vals m nm) := e
      clear e hrow
      go_wp2
      go_ret
      exact ⟨ad, cap, by rw [← HE.out]; rfl, HR.out, hbel⟩
end Go.Proofs
