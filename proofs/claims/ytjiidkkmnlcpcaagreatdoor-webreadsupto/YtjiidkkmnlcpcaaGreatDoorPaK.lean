/-
  Laid together by packg.py of WsJ WsK WsKf.
-/
import Derived.Test.YtjiidkkmnlcpcaaGreatDoorPaU
namespace Go.Wb
open Go.RowKit Go.Wi Go.Proofs
/-- What stands between commas, one byte at a time. -/
def sp (acc : List UInt8) : List UInt8 → List (List UInt8)
  | [] => [acc]
  | c :: r => if c = 44 then acc :: sp [] r else sp (acc ++ [c]) r
theorem index_some : ∀ (x r : List UInt8), (44 : UInt8) ∉ x → Lib.index (x ++ 44 :: r) [44] = (x.length : Int)
  | [], r, _ => by unfold Lib.index; simp [List.isPrefixOf]
  | a :: t, r, h => by
    have h1 : ¬ a = 44 := fun e => h (by rw [e]; exact List.mem_cons_self)
    have ih := index_some t r (fun e => h (List.mem_cons_of_mem _ e))
    rw [List.cons_append]
    unfold Lib.index
    rw [ih]
    have : ([44] : List UInt8).isPrefixOf (a :: (t ++ 44 :: r)) = false := by simp [List.isPrefixOf]; exact fun e => h1 e.symm
    simp [this]
theorem items_none {l : List UInt8} (h : (44 : UInt8) ∉ l) : items l = [l] := by
  have hc : Lib.count l [44] = 0 := by rw [Lib.count_one]; exact List.count_eq_zero.2 h
  unfold items Lib.split
  rw [hc]; rfl
theorem items_some {x r : List UInt8} (h : (44 : UInt8) ∉ x) : items (x ++ 44 :: r) = x :: items r := by
  have hc : Lib.count (x ++ 44 :: r) [44] = Lib.count r [44] + 1 := by
    rw [Lib.count_one, Lib.count_one, List.count_append, List.count_eq_zero.2 h, List.count_cons_self]; omega
  unfold items Lib.split
  rw [hc]
  show (if Lib.index (x ++ 44 :: r) [44] == -1 then _ else _) = _
  rw [index_some x r h]
  have h1 : ((x.length : Int) == -1) = false := by simp only [beq_eq_false_iff_ne, ne_eq]; omega
  rw [h1, if_neg (by decide)]
  simp
theorem sp_is : ∀ (r acc : List UInt8), (44 : UInt8) ∉ acc → sp acc r = items (acc ++ r)
  | [], acc, h => by rw [List.append_nil, items_none h]; rfl
  | c :: r, acc, h => by
    show (if c = 44 then _ else _) = _
    by_cases hc : c = 44
    · rw [if_pos hc, hc, items_some h, sp_is r [] (by simp)]; rfl
    · rw [if_neg hc, sp_is r (acc ++ [c]) (by simp; exact ⟨h, fun e => hc e.symm⟩), List.append_assoc]; rfl
/-- In the midst of one value: what stands there between the last comma and here. -/
structure Itm (P : List UInt8 → Bool) (v : List UInt8) (frm k : Nat) : Prop where
  le : frm ≤ k
  kl : k ≤ v.length + 1
  has : k ≤ v.length → (items v).any P = (sp ((v.drop frm).take (k - frm)) (v.drop k)).any P
  no : ¬ k ≤ v.length → (items v).any P = false
theorem Itm.start (P : List UInt8 → Bool) (v : List UInt8) : Itm P v 0 0 := ⟨Nat.le_refl _, Nat.zero_le _, fun _ => by rw [sp_is _ _ (by simp)]; simp, fun h => absurd (Nat.zero_le _) h⟩
theorem itm_app {v : List UInt8} {k : Nat} (hk : k < v.length) (frm : Nat) (hf : frm ≤ k) : (v.drop frm).take (k + 1 - frm) = (v.drop frm).take (k - frm) ++ [v[k]] := by
  rw [show k + 1 - frm = (k - frm) + 1 by omega, List.take_add_one, List.getElem?_drop, show frm + (k - frm) = k by omega, List.getElem?_eq_getElem hk]; rfl
theorem Itm.step {P : List UInt8 → Bool} {v : List UInt8} {frm k : Nat} (h : Itm P v frm k) (hk : k < v.length) (hc : ¬ v[k] = 44) : Itm P v frm (k + 1) := by
  refine ⟨by have := h.le; omega, by omega, fun _ => ?_, fun e => absurd hk e⟩
  rw [h.has (by omega), itm_app hk _ h.le]
  have : v.drop k = v[k] :: v.drop (k + 1) := List.drop_eq_getElem_cons hk
  rw [this]
  show (if v[k] = 44 then _ else _ : List (List UInt8)).any P = _
  rw [if_neg hc]
theorem Itm.comma {P : List UInt8 → Bool} {v : List UInt8} {frm k : Nat} (h : Itm P v frm k) (hk : k < v.length) (hc : v[k] = 44) (hp : P ((v.drop frm).take (k - frm)) = false) : Itm P v (k + 1) (k + 1) := by
  refine ⟨Nat.le_refl _, by omega, fun _ => ?_, fun e => absurd hk e⟩
  rw [h.has (by omega)]
  have : v.drop k = v[k] :: v.drop (k + 1) := List.drop_eq_getElem_cons hk
  rw [this]
  show (if v[k] = 44 then _ else _ : List (List UInt8)).any P = _
  rw [if_pos hc, List.any_cons, hp, Nat.sub_self, List.take_zero, Bool.false_or]
theorem Itm.last {P : List UInt8 → Bool} {v : List UInt8} {frm : Nat} (h : Itm P v frm v.length) (hp : P ((v.drop frm).take (v.length - frm)) = false) : Itm P v (v.length + 1) (v.length + 1) := by
  refine ⟨Nat.le_refl _, Nat.le_refl _, fun e => by omega, fun _ => ?_⟩
  rw [h.has (Nat.le_refl _), List.drop_length]
  show ([_] : List (List UInt8)).any P = false
  rw [List.any_cons, hp]; rfl
theorem Itm.found {P : List UInt8 → Bool} {v : List UInt8} {frm k : Nat} (h : Itm P v frm k) (hk : k ≤ v.length) (hc : ∀ h : k < v.length, v[k] = 44) (hp : P ((v.drop frm).take (k - frm)) = true) : (items v).any P = true := by
  rw [h.has hk]
  by_cases hl : k < v.length
  · have : v.drop k = v[k] :: v.drop (k + 1) := List.drop_eq_getElem_cons hl
    rw [this]
    show (if v[k] = 44 then _ else _ : List (List UInt8)).any P = _
    rw [if_pos (hc hl), List.any_cons, hp]; rfl
  · have hz : v.drop k = [] := List.drop_eq_nil_iff.2 (by omega)
    rw [hz]
    show ([_] : List (List UInt8)).any P = true
    rw [List.any_cons, hp]; rfl
theorem sliceA (v : List UInt8) (frm k : Nat) (hk : k ≤ v.length) : (⟨(v ++ [44]).toArray⟩ : ByteArray).extract frm k = ⟨((v.drop frm).take (k - frm)).toArray⟩ := by
  rw [ext_two]
  congr 2
  by_cases hf : frm ≤ v.length
  · rw [List.drop_append_of_le_length hf, List.take_append_of_le_length (by rw [List.length_drop]; omega)]
  · rw [show k - frm = 0 by omega]; simp
theorem cat44 (a : List UInt8) : (⟨a.toArray⟩ : ByteArray) ++ ⟨#[44]⟩ = ⟨(a ++ [44]).toArray⟩ := by
  apply ByteArray.ext
  simp [ByteArray.data_append]
def itP (it o : List UInt8) : Bool := (trim o).map sm == it
theorem has_no {L : Hdl} {nm it : List UInt8} {i : Nat} (hi : i < L.length) (h : hasItem (valsD (L.take i) nm) it = false) (hn : (L[i].1 == nm) = false) : hasItem (valsD (L.take (i + 1)) nm) it = false := by rw [vals_next hi, hn, if_neg (by decide)]; exact h
theorem has_next {L : Hdl} {nm it : List UInt8} {i : Nat} (hi : i < L.length) (h : hasItem (valsD (L.take i) nm) it = false) (hp : (items L[i].2).any (itP it) = false) : hasItem (valsD (L.take (i + 1)) nm) it = false := by
  rw [vals_next hi]
  by_cases hc : (L[i].1 == nm) = true
  · rw [if_pos hc]
    unfold hasItem at h ⊢
    rw [List.any_append, h]
    show ([L[i].2].any fun l => (items l).any (itP it)) = false
    rw [List.any_cons, hp]; rfl
  · rw [if_neg hc]; exact h
theorem has_yes {L : Hdl} {nm it : List UInt8} {i : Nat} (hi : i < L.length) (hn : (L[i].1 == nm) = true) (hp : (items L[i].2).any (itP it) = true) : hasItem (valsD L nm) it = true := by
  unfold hasItem
  rw [List.any_eq_true]
  refine ⟨L[i].2, ?_, hp⟩
  unfold valsD
  exact List.mem_map.2 ⟨L[i], List.mem_filter.2 ⟨List.getElem_mem hi, hn⟩, rfl⟩
end Go.Wb
namespace Go.Proofs
open Go.RowKit Go.Wi Go.Wb
set_option maxRecDepth 20000 in
set_option maxHeartbeats 1000000 in
theorem Tryz.rCount_any {w : World} {V : Value} {L : Hdl} (h : Hs w V L) (hL : L.length ≤ 4611686018427387904) (me ta bo nm : List UInt8) (stt ver : Int) (la : Bool) :
    Calls Tryz.prog 94 #[.agg #[.string ⟨me.toArray⟩, .string ⟨ta.toArray⟩, .int .i64 stt, .int .i64 ver, V, .string ⟨bo.toArray⟩, .bool la], .string ⟨nm.toArray⟩] w fun e w' => e = .returned (.tuple #[.int .i64 (valsD L nm).length, .string ⟨(lastD (valsD L nm)).toArray⟩]) ∧ Below w.heap.size w w' := by
  obtain ⟨ad, cap, rfl, hx⟩ := h.ex
  clear h
  have HX : Hid (L = [] ∨ ∃ g o, ad = some ⟨g, o, none⟩ ∧ g < w.heap.size ∧ ∀ j (hj : j < L.length), w.cell? ⟨g, o + j * 2, none⟩ = some (.string ⟨L[j].1.toArray⟩) ∧ w.cell? ⟨g, o + j * 2 + 1, none⟩ = some (.string ⟨L[j].2.toArray⟩)) := hx
  clear hx
  have hW := heap_alloc_new w (.cells #[.string ⟨me.toArray⟩, .string ⟨ta.toArray⟩, .int .i64 stt, .int .i64 ver, .slice ad L.length cap, .string ⟨bo.toArray⟩, .bool la] 99)
  have hBe : Below w.heap.size w (w.alloc (.cells #[.string ⟨me.toArray⟩, .string ⟨ta.toArray⟩, .int .i64 stt, .int .i64 ver, .slice ad L.length cap, .string ⟨bo.toArray⟩, .bool la] 99)) := (Below.refl _ w).alloc (Nat.le_refl _) _
  have HB0 : Hid (Below w.heap.size w (w.alloc (.cells #[.string ⟨me.toArray⟩, .string ⟨ta.toArray⟩, .int .i64 stt, .int .i64 ver, .slice ad L.length cap, .string ⟨bo.toArray⟩, .bool la] 99))) := hBe
  have HC0 : Hid ((w.alloc (.cells #[.string ⟨me.toArray⟩, .string ⟨ta.toArray⟩, .int .i64 stt, .int .i64 ver, .slice ad L.length cap, .string ⟨bo.toArray⟩, .bool la] 99)).cell? ⟨w.heap.size, 4, none⟩ = some (.slice ad L.length cap)) := cell_of_row _ _ 4 _ _ _ hW
  clear hW hBe
  go_enter Tryz.func94, Tryz.ntmps94
  go_wp2
  go_loopw [6, 7, 8] (fun nv vv iv wr => ∃ (i n : Nat) (v : List UInt8), iv = .int .i64 i ∧ nv = .int .i64 n ∧ vv = .string ⟨v.toArray⟩ ∧ i ≤ L.length ∧ (valsD (L.take i) nm).length = n ∧ lastD (valsD (L.take i) nm) = v ∧ wr.cell? ⟨w.heap.size, 4, none⟩ = some (.slice ad L.length cap) ∧ Below w.heap.size w wr) (fun _ _ iv _ => L.length - (intOf iv).toNat)
  case atStart => exact ⟨0, 0, [], rfl, rfl, rfl, Nat.zero_le _, rfl, rfl, HC0.out, HB0.out⟩
  case round =>
    clear HC0 HB0
    obtain ⟨i, n, v, rfl, rfl, rfl, hi, hn, hv, hc4, hbel⟩ := hrel
    have HB : Hid (Below w.heap.size w wr) := hbel
    have hnl : n ≤ L.length := by rw [← hn]; exact Nat.le_trans (vals_len _ _) (by rw [List.length_take]; omega)
    have HN : Hid ((valsD (L.take i) nm).length = n) := hn
    have HV : Hid (lastD (valsD (L.take i) nm) = v) := hv
    clear hbel hn hv
    by_cases hlt : i < L.length
    · have q : (i : Int) < (L.length : Int) := by omega
      obtain ⟨g, o, rfl, c0, c1⟩ : ∃ g o, ad = some ⟨g, o, none⟩ ∧ wr.cell? ⟨g, o + i * 2, none⟩ = some (.string ⟨L[i].1.toArray⟩) ∧ wr.cell? ⟨g, o + i * 2 + 1, none⟩ = some (.string ⟨L[i].2.toArray⟩) := by
        rcases HX.out with e | ⟨g, o, e, hg, hc⟩
        · rw [e] at hlt; cases hlt
        · exact ⟨g, o, e, (HB.out.cell (p := ⟨g, o + i * 2, none⟩) hg).trans (hc i hlt).1, (HB.out.cell (p := ⟨g, o + i * 2 + 1, none⟩) hg).trans (hc i hlt).2⟩
      have HY : Hid (valsD (L.take (i + 1)) nm = if (L[i].1 == nm) = true then valsD (L.take i) nm ++ [L[i].2] else valsD (L.take i) nm) := vals_next hlt
      generalize L[i].1 = a at *
      generalize L[i].2 = b at *
      cases hc : (a == nm) with
      | true =>
        have HE : Hid (valsD (L.take (i + 1)) nm = valsD (L.take i) nm ++ [b]) := (by have := HY.out; rwa [if_pos hc] at this)
        clear HY
        go_wp2
        go_roundw
        case rel => exact ⟨i + 1, n + 1, b, by simp, by simp, rfl, by omega, by rw [HE.out, List.length_append, HN.out]; rfl, by rw [HE.out, lastD_app], hc4, HB.out⟩
        case measure => simp [intOf]; omega
      | false =>
        have HE : Hid (valsD (L.take (i + 1)) nm = valsD (L.take i) nm) := (by have := HY.out; rwa [hc, if_neg (by decide)] at this)
        clear HY
        go_wp2
        go_roundw
        case rel => exact ⟨i + 1, n, v, by simp, rfl, rfl, by omega, by rw [HE.out, HN.out], by rw [HE.out, HV.out], hc4, HB.out⟩
        case measure => simp [intOf]; omega
    · have q : ¬ (i : Int) < (L.length : Int) := by omega
      have ht : L.take i = L := List.take_of_length_le (by omega)
      have hn := HN.out
      have hv := HV.out
      rw [ht] at hn hv
      have HN2 : Hid ((valsD L nm).length = n) := hn
      have HV2 : Hid (lastD (valsD L nm) = v) := hv
      clear hn hv ht
      go_wp2
      go_ret2
      exact ⟨by rw [HN2.out, HV2.out]; rfl, HB.out⟩
set_option maxRecDepth 20000 in
set_option maxHeartbeats 2000000 in
theorem Tryz.rItem_any {w : World} {V : Value} {L : Hdl} (h : Hs w V L) (hL : L.length ≤ 4611686018427387904) (hl : ∀ x ∈ L, x.1.length ≤ 140737488355328 ∧ x.2.length ≤ 140737488355328) (me ta bo nm it : List UInt8) (stt ver : Int) (la : Bool) :
    Calls Tryz.prog 76 #[.agg #[.string ⟨me.toArray⟩, .string ⟨ta.toArray⟩, .int .i64 stt, .int .i64 ver, V, .string ⟨bo.toArray⟩, .bool la], .string ⟨nm.toArray⟩, .string ⟨it.toArray⟩] w fun e w' => e = .returned (.bool (hasItem (valsD L nm) it)) ∧ Below w.heap.size w w' := by
  obtain ⟨ad, cap, rfl, hx⟩ := h.ex
  clear h
  have HX : Hid (L = [] ∨ ∃ g o, ad = some ⟨g, o, none⟩ ∧ g < w.heap.size ∧ ∀ j (hj : j < L.length), w.cell? ⟨g, o + j * 2, none⟩ = some (.string ⟨L[j].1.toArray⟩) ∧ w.cell? ⟨g, o + j * 2 + 1, none⟩ = some (.string ⟨L[j].2.toArray⟩)) := hx
  clear hx
  have hW := heap_alloc_new w (.cells #[.string ⟨me.toArray⟩, .string ⟨ta.toArray⟩, .int .i64 stt, .int .i64 ver, .slice ad L.length cap, .string ⟨bo.toArray⟩, .bool la] 99)
  have HB0 : Hid (Below w.heap.size w (w.alloc (.cells #[.string ⟨me.toArray⟩, .string ⟨ta.toArray⟩, .int .i64 stt, .int .i64 ver, .slice ad L.length cap, .string ⟨bo.toArray⟩, .bool la] 99))) := (Below.refl _ w).alloc (Nat.le_refl _) _
  have HC0 : Hid ((w.alloc (.cells #[.string ⟨me.toArray⟩, .string ⟨ta.toArray⟩, .int .i64 stt, .int .i64 ver, .slice ad L.length cap, .string ⟨bo.toArray⟩, .bool la] 99)).cell? ⟨w.heap.size, 4, none⟩ = some (.slice ad L.length cap) ∧ w.heap.size < (w.alloc (.cells #[.string ⟨me.toArray⟩, .string ⟨ta.toArray⟩, .int .i64 stt, .int .i64 ver, .slice ad L.length cap, .string ⟨bo.toArray⟩, .bool la] 99)).heap.size) := ⟨cell_of_row _ _ 4 _ _ _ hW, block_lt hW⟩
  clear hW
  have HLL : Hid (∀ x ∈ L, x.1.length ≤ 140737488355328 ∧ x.2.length ≤ 140737488355328) := hl
  clear hl
  go_enter Tryz.func76, Tryz.ntmps76
  go_wp2
  go_loopw [7, 8, 9, 10] (fun iv _ _ _ wr => ∃ i : Nat, iv = .int .i64 i ∧ i ≤ L.length ∧ hasItem (valsD (L.take i) nm) it = false ∧ (wr.cell? ⟨w.heap.size, 4, none⟩ = some (.slice ad L.length cap) ∧ w.heap.size < wr.heap.size) ∧ Below w.heap.size w wr) (fun iv _ _ _ _ => L.length - (intOf iv).toNat)
  case atStart => exact ⟨0, rfl, Nat.zero_le _, rfl, HC0.out, HB0.out⟩
  case round =>
    clear HC0 HB0
    obtain ⟨i, rfl, hi, hno, ⟨hc4, hwz⟩, hbel⟩ := hrel
    have HB : Hid (Below w.heap.size w wr) := hbel
    have HNO : Hid (hasItem (valsD (L.take i) nm) it = false) := hno
    have HWZ : Hid (w.heap.size < wr.heap.size) := hwz
    clear hbel hno hwz
    by_cases hlt : i < L.length
    · have q : (i : Int) < (L.length : Int) := by omega
      obtain ⟨g, o, rfl, c0, c1⟩ : ∃ g o, ad = some ⟨g, o, none⟩ ∧ wr.cell? ⟨g, o + i * 2, none⟩ = some (.string ⟨L[i].1.toArray⟩) ∧ wr.cell? ⟨g, o + i * 2 + 1, none⟩ = some (.string ⟨L[i].2.toArray⟩) := by
        rcases HX.out with e | ⟨g, o, e, hg, hc⟩
        · rw [e] at hlt; cases hlt
        · exact ⟨g, o, e, (HB.out.cell (p := ⟨g, o + i * 2, none⟩) hg).trans (hc i hlt).1, (HB.out.cell (p := ⟨g, o + i * 2 + 1, none⟩) hg).trans (hc i hlt).2⟩
      have hb47 := (HLL.out _ (List.getElem_mem hlt)).2
      have HN : Hid ((L[i].1 == nm) = false → hasItem (valsD (L.take (i + 1)) nm) it = false) := fun e => has_no hlt HNO.out e
      have HM : Hid ((items L[i].2).any (itP it) = false → hasItem (valsD (L.take (i + 1)) nm) it = false) := fun e => has_next hlt HNO.out e
      have HY : Hid ((L[i].1 == nm) = true → (items L[i].2).any (itP it) = true → hasItem (valsD L nm) it = true) := fun e1 e2 => has_yes hlt e1 e2
      generalize L[i].1 = a at *
      generalize L[i].2 = b at *
      cases hc : (a == nm) with
      | false =>
        have q2 : (a != nm) = true := by simp [bne, hc]
        have HE : Hid (hasItem (valsD (L.take (i + 1)) nm) it = false) := HN.out hc
        clear HN HM HY
        go_wp2
        go_roundw
        case rel => exact ⟨i + 1, by simp, by omega, HE.out, ⟨hc4, HWZ.out⟩, HB.out⟩
        case measure => simp [intOf]; omega
      | true =>
        have q2 : (a != nm) = false := by simp [bne, hc]
        have HY2 : Hid ((items b).any (itP it) = true → hasItem (valsD L nm) it = true) := HY.out hc
        clear HN HY
        have hz0 : (⟨b.toArray⟩ : ByteArray).size = b.length := text_size b
        have hno : ¬ 9223372036854775807 < b.length + 1 := by omega
        go_upto_region 6 with (fail)
        rw [cat44]
        clear c0 c1 hz0 hno hc q2 q
        generalize wr = wa at *
        have hzv : (⟨(b ++ [44]).toArray⟩ : ByteArray).size = b.length + 1 := by rw [text_size, List.length_append]; rfl
        have hb63 : b.length ≤ 140737488355328 := hb47
        have hbx : b.length + 1 ≤ 9223372036854775807 := by omega
        go_wp2
        go_loopw [9, 10] (fun fv kv wz => ∃ f k : Nat, fv = .int .i64 f ∧ kv = .int .i64 k ∧ Itm (itP it) b f k ∧ (wz.cell? ⟨w.heap.size, 4, none⟩ = some (.slice (some ⟨g, o, none⟩) L.length cap) ∧ w.heap.size < wz.heap.size) ∧ Below w.heap.size w wz) (fun _ kv _ => b.length + 1 - (intOf kv).toNat)
        case atStart => exact ⟨0, 0, rfl, rfl, Itm.start _ _, ⟨hc4, HWZ.out⟩, HB.out⟩
        case round =>
          clear hc4 HWZ HB
          obtain ⟨f, k, rfl, rfl, hit, ⟨hc4, hwz⟩, hbel⟩ := hrel
          have HB : Hid (Below w.heap.size w wr) := hbel
          have HWZ : Hid (w.heap.size < wr.heap.size) := hwz
          have HI : Hid (Itm (itP it) b f k) := hit
          have hfk := hit.le
          clear hbel hwz hit
          by_cases hkl : k ≤ b.length
          · have q3 : (k : Int) < (b.length : Int) + 1 := by omega
            have hkv : k < (b ++ [44]).length := by rw [List.length_append]; simp; omega
            obtain ⟨d, hde⟩ : ∃ d, (b ++ [44])[k]'hkv = d := ⟨_, rfl⟩
            have hix : ∀ h : k < (⟨(b ++ [44]).toArray⟩ : ByteArray).size, (⟨(b ++ [44]).toArray⟩ : ByteArray)[k]'h = d := fun h => (at_text hkv h).trans hde
            have hdk : ∀ h : k < b.length, b[k] = d := fun h => by rw [← hde, List.getElem_append_left h]
            have hdl : k = b.length → d = 44 := fun e => by subst e; rw [← hde]; simp
            by_cases h44 : d = 44
            · have q4 : (((d.toNat : Nat) : Int) == 44) = true := by rw [h44]; rfl
              obtain ⟨seg, hseg⟩ : ∃ seg, (b.drop f).take (k - f) = seg := ⟨_, rfl⟩
              have hsl : seg.length ≤ b.length := by rw [← hseg, List.length_take, List.length_drop]; omega
              have k1 : ∀ W, Calls Tryz.prog 93 #[.string ((⟨(b ++ [44]).toArray⟩ : ByteArray).extract f k)] W fun e w' => e = .returned (.string ⟨(trim seg).toArray⟩) ∧ w' = W := fun W => by
                rw [sliceA b f k hkl, hseg]
                exact Tryz.rTrim_is seg (by omega) W
              have k2 := fun W => Tryz.rSmall_any (trim seg) (Nat.le_trans (trim_len seg) (by omega)) W
              obtain ⟨z, hz⟩ : ∃ z, (trim seg).map sm = z := ⟨_, rfl⟩
              rw [hz] at k2
              have hP : itP it seg = (z == it) := by unfold itP; rw [hz]
              have HP : Hid (itP it ((b.drop f).take (k - f)) = (z == it)) := (by show _ = _; rw [hseg]; exact hP)
              have HK44 : Hid (∀ h : k < b.length, b[k] = 44) := fun h => (hdk h).trans h44
              have qfk : (f : Int) ≤ (k : Int) := by omega
              have qkl : (k : Int) ≤ (b.length : Int) + 1 := by omega
              clear hde hdk hdl h44 hseg hz hP
              cases hzi : (z == it) with
              | true =>
                have HE : Hid (hasItem (valsD L nm) it = true) := HY2.out (HI.out.found hkl HK44.out (by rw [HP.out, hzi]))
                clear HP HK44 HM HY2 HI
                go_wp2_with (first | (go_at_call 93; refine (k1 _).mono ?_; clear k1; rintro e w1 ⟨rfl, rfl⟩) | (go_at_call 92; refine (k2 _).mono ?_; clear k2; rintro e w2 ⟨rfl, hb2⟩; have HB2 : Hid (Below w.heap.size w w2) := (Below.trans HB.out (Below.mono hb2 (Nat.le_of_lt HWZ.out))); clear hb2 hc4) | fail)
                go_ret
                exact ⟨by rw [HE.out]; rfl, HB2.out⟩
              | false =>
                have HN2 : Hid (Itm (itP it) b (k + 1) (k + 1)) := (by
                  by_cases hkb : k < b.length
                  · exact HI.out.comma hkb (HK44.out hkb) (by rw [HP.out, hzi])
                  · obtain rfl : k = b.length := by omega
                    exact HI.out.last (by rw [HP.out, hzi]))
                clear HP HK44 HM HY2 HI
                go_wp2_with (first | (go_at_call 93; refine (k1 _).mono ?_; clear k1; rintro e w1 ⟨rfl, rfl⟩) | (go_at_call 92; refine (k2 _).mono ?_; clear k2; rintro e w2 ⟨rfl, hb2⟩; have HB2 : Hid (Below w.heap.size w w2) := (Below.trans HB.out (Below.mono hb2 (Nat.le_of_lt HWZ.out))); have HC2 : Hid (w2.cell? ⟨w.heap.size, 4, none⟩ = some (.slice (some ⟨g, o, none⟩) L.length cap) ∧ w.heap.size < w2.heap.size) := ⟨(hb2.cell (p := ⟨w.heap.size, 4, none⟩) HWZ.out).trans hc4, Nat.lt_of_lt_of_le HWZ.out hb2.size⟩; clear hb2 hc4) | fail)
                go_roundw
                case rel => exact ⟨k + 1, k + 1, by simp, by simp, HN2.out, HC2.out, HB2.out⟩
                case measure => simp [intOf]; omega
            · have q4 : (((d.toNat : Nat) : Int) == 44) = false := by
                simp only [beq_eq_false_iff_ne, ne_eq]
                exact fun e => h44 (UInt8.toNat_inj.1 (by show d.toNat = 44; omega))
              have hkb : k < b.length := by
                rcases Nat.lt_or_ge k b.length with e | e
                · exact e
                · exact absurd (hdl (by omega)) h44
              have HN2 : Hid (Itm (itP it) b f (k + 1)) := HI.out.step hkb (by rw [hdk hkb]; exact h44)
              clear hde hdk hdl h44 HM HY2 HI
              go_wp2
              go_roundw
              case rel => exact ⟨f, k + 1, rfl, by simp, HN2.out, ⟨hc4, HWZ.out⟩, HB.out⟩
              case measure => simp [intOf]; omega
          · have q3 : ¬ (k : Int) < (b.length : Int) + 1 := by omega
            have HE : Hid (hasItem (valsD (L.take (i + 1)) nm) it = false) := HM.out (HI.out.no hkl)
            clear HM HY2 HI
            go_wp2
            go_roundw
            case rel => exact ⟨i + 1, by simp, by omega, HE.out, ⟨hc4, HWZ.out⟩, HB.out⟩
            case measure => simp [intOf]; omega
    · have q : ¬ (i : Int) < (L.length : Int) := by omega
      have ht : L.take i = L := List.take_of_length_le (by omega)
      have hn := HNO.out
      rw [ht] at hn
      have HN2 : Hid (hasItem (valsD L nm) it = false) := hn
      clear hn ht
      go_wp2
      go_ret
      exact ⟨by rw [HN2.out]; rfl, HB.out⟩
end Go.Proofs
namespace Go.Wb
open Go.RowKit Go.Wi Go.Proofs
theorem lengthI_none {most : Nat} {l : List UInt8} : lengthI most l < 0 ↔ lengthD most l = none := by
  unfold lengthI
  cases lengthD most l with
  | none => simp
  | some n => simp
theorem lengthI_some {most : Nat} {l : List UInt8} (h : ¬ lengthI most l < 0) : lengthI most l = (((lengthD most l).getD 0 : Nat) : Int) := by
  unfold lengthI at h ⊢
  cases hl : lengthD most l with
  | none => rw [hl] at h; exact absurd (by decide) h
  | some n => rfl
theorem lengthI_le (most : Nat) (l : List UInt8) : -1 ≤ lengthI most l ∧ lengthI most l ≤ (most : Int) + 1 := by
  unfold lengthI lengthD
  split
  · rename_i n h
    split at h
    · injection h with h
      have := len_fold most l
      omega
    · cases h
  · omega
/-- What is so behind the rules. -/
def rulesR {α : Type} (a : α) (r : List UInt8) (i : Nat) (x : Nat × Option Nat) : Re α := if x.1 = 0 then .ok a r i else .bad i x.1
def rulesN : Option Nat → Int
  | none => -1
  | some n => (n : Int)
end Go.Wb
namespace Go.Proofs
open Go.RowKit Go.Wi Go.Wb
end Go.Proofs
namespace Go.Wb
open Go.RowKit Go.Wi Go.Proofs
end Go.Wb
namespace Go.Proofs
open Go.RowKit Go.Wi Go.Wb
set_option maxRecDepth 20000 in
set_option maxHeartbeats 20000000 in
theorem Tryz.ssRulesF {α : Type} {w : World} {p : Nat} {s : List UInt8} {st li : Nat} {a : α} {r : List UInt8} {i : Nat} (h : Tryz.SS w p s st li (.ok a r i : Re α)) {V : Value} {H : Hdl} (hV : Hs w V H) (hH : H.length ≤ 32) (hl : ∀ x ∈ H, x.1.length ≤ 140737488355328 ∧ x.2.length ≤ 140737488355328) (me ta bo : List UInt8) (stt : Int) (ver : Nat) (hver : ver = 10 ∨ ver = 11) (la : Bool) (most : Nat) (hm : most ≤ 999999999) :
    Calls Tryz.prog 73 #[.pointer (some ⟨p, 0, none⟩), .agg #[.string ⟨me.toArray⟩, .string ⟨ta.toArray⟩, .int .i64 stt, .int .i64 ver, V, .string ⟨bo.toArray⟩, .bool la], .bool false, .int .i64 most] w fun e w' => ∃ N : Int, e = .returned (.int .i64 N) ∧ ((rulesD H false (decide (ver = 11)) most).1 = 0 → N = rulesN (rulesD H false (decide (ver = 11)) most).2) ∧ (-1 ≤ N ∧ N ≤ (most : Int) + 1) ∧ Tryz.SS w' p s st li (rulesR a r i (rulesD H false (decide (ver = 11)) most)) ∧ Wo (fun k => k = p) w w' := by
  obtain ⟨ad, cap, eV, -⟩ := hV.ex
  subst eV
  obtain ⟨B, hB⟩ : ∃ B : Obj, Obj.cells #[.string ⟨me.toArray⟩, .string ⟨ta.toArray⟩, .int .i64 stt, .int .i64 ver, .slice ad H.length cap, .string ⟨bo.toArray⟩, .bool la] 99 (0, 0) = B := ⟨_, rfl⟩
  have hA : Below w.heap.size w (w.alloc B) := (Below.refl _ w).alloc (Nat.le_refl _) _
  have hV1 := hV.below hA
  have hn : (w.alloc B).heap[w.heap.size]? = some B := heap_alloc_new w B
  have hsz : (w.alloc B).heap.size = w.heap.size + 1 := by simp
  obtain ⟨c0, c1, fz, hil, hsl, hdr⟩ := Tryz.SS.c h
  have hp := Tryz.SS.lt h
  have h1 : ∀ W, Below (w.alloc B).heap.size (w.alloc B) W → W.cell? ⟨w.heap.size, 3, none⟩ = some (.int .i64 ver) ∧ W.cell? ⟨p, 1, none⟩ = some (.int .i64 i) ∧ Tryz.SS W p s st li (.ok a r i : Re α) ∧ Wo (fun k => k = p) w W ∧ Hs W (.slice ad H.length cap) H ∧ W.heap[w.heap.size]? = some B := fun W hW => by
    have e0 : W.heap[w.heap.size]? = some B := by rw [hW.block _ (by rw [hsz]; omega), hn]
    have e1 : Tryz.SS W p s st li (.ok a r i : Re α) := Tryz.SS.keep h (by rw [hW.block _ (by rw [hsz]; omega), hA.block _ hp])
    refine ⟨?_, (Tryz.SS.c e1).2.1, e1, Wo.below ((Wo.refl _ w).alloc B) hW (by rw [hsz]; omega), hV1.below hW, e0⟩
    rw [← hB] at e0
    exact cell_of_row _ _ 3 _ _ _ e0
  have H1 : Hid (∀ W, Below (w.alloc B).heap.size (w.alloc B) W → W.cell? ⟨w.heap.size, 3, none⟩ = some (.int .i64 ver) ∧ W.cell? ⟨p, 1, none⟩ = some (.int .i64 i) ∧ Tryz.SS W p s st li (.ok a r i : Re α) ∧ Wo (fun k => k = p) w W ∧ Hs W (.slice ad H.length cap) H ∧ W.heap[w.heap.size]? = some B) := h1
  have kc : ∀ (nm : List UInt8) W, Below (w.alloc B).heap.size (w.alloc B) W → Calls Tryz.prog 94 #[.agg #[.string ⟨me.toArray⟩, .string ⟨ta.toArray⟩, .int .i64 stt, .int .i64 ver, .slice ad H.length cap, .string ⟨bo.toArray⟩, .bool la], .string ⟨nm.toArray⟩] W fun e w' => e = .returned (.tuple #[.int .i64 (valsD H nm).length, .string ⟨(lastD (valsD H nm)).toArray⟩]) ∧ Below (w.alloc B).heap.size (w.alloc B) w' := fun nm W hW => by
    refine (Tryz.rCount_any (h1 W hW).2.2.2.2.1 (by omega) me ta bo nm stt ver la).mono ?_
    rintro e w1 ⟨rfl, hb⟩
    exact ⟨rfl, hW.trans (Below.mono hb hW.size)⟩
  have ka : ∀ W, Below (w.alloc B).heap.size (w.alloc B) W → Calls Tryz.prog 94 #[.agg #[.string ⟨me.toArray⟩, .string ⟨ta.toArray⟩, .int .i64 stt, .int .i64 ver, .slice ad H.length cap, .string ⟨bo.toArray⟩, .bool la], .string ⟨#[104, 111, 115, 116]⟩] W fun e w' => e = .returned (.tuple #[.int .i64 (valsD H wHost).length, .string ⟨(lastD (valsD H wHost)).toArray⟩]) ∧ Below (w.alloc B).heap.size (w.alloc B) w' := fun W hW => kc wHost W hW
  have kb : ∀ W, Below (w.alloc B).heap.size (w.alloc B) W → Calls Tryz.prog 94 #[.agg #[.string ⟨me.toArray⟩, .string ⟨ta.toArray⟩, .int .i64 stt, .int .i64 ver, .slice ad H.length cap, .string ⟨bo.toArray⟩, .bool la], .string ⟨#[116, 114, 97, 110, 115, 102, 101, 114, 45, 101, 110, 99, 111, 100, 105, 110, 103]⟩] W fun e w' => e = .returned (.tuple #[.int .i64 (valsD H wCoding).length, .string ⟨(lastD (valsD H wCoding)).toArray⟩]) ∧ Below (w.alloc B).heap.size (w.alloc B) w' := fun W hW => kc wCoding W hW
  have kl : ∀ W, Below (w.alloc B).heap.size (w.alloc B) W → Calls Tryz.prog 94 #[.agg #[.string ⟨me.toArray⟩, .string ⟨ta.toArray⟩, .int .i64 stt, .int .i64 ver, .slice ad H.length cap, .string ⟨bo.toArray⟩, .bool la], .string ⟨#[99, 111, 110, 116, 101, 110, 116, 45, 108, 101, 110, 103, 116, 104]⟩] W fun e w' => e = .returned (.tuple #[.int .i64 (valsD H wLength).length, .string ⟨(lastD (valsD H wLength)).toArray⟩]) ∧ Below (w.alloc B).heap.size (w.alloc B) w' := fun W hW => kc wLength W hW
  have hcl : (lastD (valsD H wCoding)).length ≤ 140737488355328 := lastD_mem (vals_mem hl)
  have hll : (lastD (valsD H wLength)).length ≤ 140737488355328 := lastD_mem (vals_mem hl)
  have hva := vals_len H wHost
  have hvb := vals_len H wCoding
  have hvl := vals_len H wLength
  have hni := lengthI_le most (lastD (valsD H wLength))
  have hnn := @lengthI_none most (lastD (valsD H wLength))
  have hns := @lengthI_some most (lastD (valsD H wLength))
  have ksm := Tryz.rSmall_any (lastD (valsD H wCoding)) hcl
  have kln := Tryz.rLength_any (lastD (valsD H wLength)) (by omega) most hm
  obtain ⟨X, hX⟩ : ∃ X, rulesD H false (decide (ver = 11)) most = X := ⟨_, rfl⟩
  have hrd := hX.symm
  rw [hX]
  unfold rulesD at hrd
  clear hX hV hV1 hA h kc
  generalize (valsD H wHost).length = ha at *
  generalize (valsD H wCoding).length = hb at *
  generalize (valsD H wLength).length = hc at *
  generalize lastD (valsD H wHost) = ta0 at *
  generalize lastD (valsD H wCoding) = tc at *
  generalize hlen : lastD (valsD H wLength) = tl at *
  generalize lengthI most tl = n at *
  generalize hgd : (lengthD most tl).getD 0 = gd at *
  have HSM : Hid ((tc.map sm = wChunked) ↔ ((tc.map sm) == [99, 104, 117, 110, 107, 101, 100]) = true) := (by show _ ↔ _; rw [beq_iff_eq]; rfl)
  obtain ⟨z, hz⟩ : ∃ z, tc.map sm = z := ⟨_, rfl⟩
  rw [hz] at ksm HSM hrd
  have HV10 : Hid (ver = 10 ∨ ver = 11) := hver
  have HLO : Hid (∀ W, Below (w.alloc B).heap.size (w.alloc B) W → W.cell? ⟨w.heap.size, 0, none⟩ = some (.string ⟨me.toArray⟩) ∧ W.cell? ⟨w.heap.size, 1, none⟩ = some (.string ⟨ta.toArray⟩) ∧ W.cell? ⟨w.heap.size, 2, none⟩ = some (.int .i64 stt) ∧ W.cell? ⟨w.heap.size, 3, none⟩ = some (.int .i64 ver) ∧ W.cell? ⟨w.heap.size, 4, none⟩ = some (.slice ad H.length cap) ∧ W.cell? ⟨w.heap.size, 5, none⟩ = some (.string ⟨bo.toArray⟩) ∧ W.cell? ⟨w.heap.size, 6, none⟩ = some (.bool la)) := fun W hW => (by
    have e0 := (h1 W hW).2.2.2.2.2
    rw [← hB] at e0
    exact ⟨cell_of_row _ _ 0 _ _ _ e0, cell_of_row _ _ 1 _ _ _ e0, cell_of_row _ _ 2 _ _ _ e0, cell_of_row _ _ 3 _ _ _ e0, cell_of_row _ _ 4 _ _ _ e0, cell_of_row _ _ 5 _ _ _ e0, cell_of_row _ _ 6 _ _ _ e0⟩)
  have HBB : Hid (Obj.cells #[.string ⟨me.toArray⟩, .string ⟨ta.toArray⟩, .int .i64 stt, .int .i64 ver, .slice ad H.length cap, .string ⟨bo.toArray⟩, .bool la] 99 (0, 0) = B) := hB
  obtain ⟨W1, hW1⟩ : ∃ W1, w.alloc B = W1 := ⟨_, rfl⟩
  have HW1 : Hid (w.alloc B = W1) := hW1
  rw [hW1] at ka kb kl H1 HLO
  obtain ⟨g, hg⟩ : ∃ g, w.heap.size = g := ⟨_, rfl⟩
  have HGG : Hid (w.heap.size = g) := hg
  rw [hg] at H1 HLO
  have hk0 := ka W1 (Below.refl _ _)
  clear hz hlen h1 hll hcl hl hn hdr c0 c1 fz hB hW1 hg hsz ka hp
  by_cases ha2 : 1 < ha
  · have qa : (ha : Int) > 1 := by omega
    have HX : Hid (X = (180, none)) := (by show X = _; rw [hrd]; rw [if_pos ⟨rfl, .inl ha2⟩])
    clear hrd hnn hns hgd
    try clear hv
    try clear hb0
    try clear hc0
    try clear ha0
    try clear hver
    try clear n1
    try clear n2
    try clear n3
    try clear n4
    try clear n5
    try clear hb2
    try clear hc2
    try clear ha2
    try clear hn0
    try clear hnm
    try clear hng
    go_enter Tryz.func73, Tryz.ntmps73
    go_upto_region 1 with (fail)
    rw [HBB.out, HW1.out, HGG.out]
    obtain ⟨r0, r1, r2, r3, r4, r5, r6⟩ := HLO.out W1 (Below.refl _ _)
    go_wp2_with (first | (go_at_call 94; refine hk0.mono ?_; clear hk0 r0 r1 r2 r3 r4 r5 r6; rintro e w1 ⟨rfl, b1⟩; have k2 := kb w1 b1; clear kb; obtain ⟨r0, r1, r2, r3, r4, r5, r6⟩ := HLO.out w1 b1) | (go_at_call 94; refine k2.mono ?_; clear k2 b1 r0 r1 r2 r3 r4 r5 r6; rintro e w2 ⟨rfl, b2⟩; have k3 := kl w2 b2; clear kl; obtain ⟨r0, r1, r2, r3, r4, r5, r6⟩ := HLO.out w2 b2) | (go_at_call 94; refine k3.mono ?_; clear k3 b2 r0 r1 r2 r3 r4 r5 r6; rintro e w3 ⟨rfl, b3⟩; obtain ⟨d1, d2, d3, d4, d5⟩ := H1.out w3 b3; have HS3 : Hid (Tryz.SS w3 p s st li (.ok a r i : Re α)) := d3; have HW3 : Hid (Wo (fun k => k = p) w w3) := d4; clear d3 d4 d5) | (go_at_call 95; refine (kln _).mono ?_; clear kln; rintro e w4 ⟨rfl, rfl⟩) | (go_at_call 67; refine (Tryz.ssFail α HS3.out i 180 (by decide)).mono ?_; rintro e w6 ⟨⟨v6, rfl⟩, g6, hw6, hc6⟩; clear hc6) | fail)
    all_goals go_ret
    all_goals exact ⟨_, rfl, fun e => (by rw [HX.out] at e; cases e), by omega, by rw [HX.out]; exact g6, HW3.out.trans hw6⟩
  · rcases HV10.out with hv | hv
    · have n1 : ¬ (false = false ∧ (1 < ha ∨ decide (ver = 11) = true ∧ ha = 0)) := fun e => (by
        rcases e.2 with e | e
        · exact ha2 e
        · simp at e; omega)
      by_cases hb0 : hb = 0
      · have n2 : ¬ (0 < hb ∧ (0 < hc ∨ decide (ver = 11) = false)) := fun e => by omega
        have n3 : ¬ (1 < hb ∨ hb = 1 ∧ z ≠ wChunked) := fun e => by omega
        by_cases hc0 : hc = 0
        · have n4 : ¬ (1 < hc ∨ hc = 1 ∧ lengthD most tl = none) := fun e => by omega
          have n5 : ¬ (hc = 1 ∧ most < gd) := fun e => by omega
          have qv : ((ver : Int) == 10) = true := by simp; omega
          have qv2 : ((ver : Int) == 11) = false := by simp; omega
          have qa : ¬ (ha : Int) > 1 := by omega
          have qb1 : ¬ (hb : Int) > 0 := by omega
          have qb2 : ((hb : Int) == 1) = false := by simp; omega
          have qb3 : ¬ (hb : Int) > 1 := by omega
          have qc1 : ¬ (hc : Int) > 0 := by omega
          have qc2 : ((hc : Int) == 1) = false := by simp; omega
          have qc3 : ¬ (hc : Int) > 1 := by omega
          have qc4 : ((hc : Int) == 0) = true := by simp; omega
          have HX : Hid (X = (0, some 0)) := (by show X = _; rw [hrd]; rw [if_neg (n1), if_neg n2, if_neg n3, if_neg n4, if_neg n5, if_neg (by omega), if_pos hc0])
          clear hrd hnn hns hgd
          try clear hv
          try clear hb0
          try clear hc0
          try clear ha0
          try clear hver
          try clear n1
          try clear n2
          try clear n3
          try clear n4
          try clear n5
          try clear hb2
          try clear hc2
          try clear ha2
          try clear hn0
          try clear hnm
          try clear hng
          go_enter Tryz.func73, Tryz.ntmps73
          go_upto_region 1 with (fail)
          rw [HBB.out, HW1.out, HGG.out]
          obtain ⟨r0, r1, r2, r3, r4, r5, r6⟩ := HLO.out W1 (Below.refl _ _)
          go_wp2_with (first | (go_at_call 94; refine hk0.mono ?_; clear hk0 r0 r1 r2 r3 r4 r5 r6; rintro e w1 ⟨rfl, b1⟩; have k2 := kb w1 b1; clear kb; obtain ⟨r0, r1, r2, r3, r4, r5, r6⟩ := HLO.out w1 b1) | (go_at_call 94; refine k2.mono ?_; clear k2 b1 r0 r1 r2 r3 r4 r5 r6; rintro e w2 ⟨rfl, b2⟩; have k3 := kl w2 b2; clear kl; obtain ⟨r0, r1, r2, r3, r4, r5, r6⟩ := HLO.out w2 b2) | (go_at_call 94; refine k3.mono ?_; clear k3 b2 r0 r1 r2 r3 r4 r5 r6; rintro e w3 ⟨rfl, b3⟩; obtain ⟨d1, d2, d3, d4, d5⟩ := H1.out w3 b3; have HS3 : Hid (Tryz.SS w3 p s st li (.ok a r i : Re α)) := d3; have HW3 : Hid (Wo (fun k => k = p) w w3) := d4; clear d3 d4 d5) | (go_at_call 95; refine (kln _).mono ?_; clear kln; rintro e w4 ⟨rfl, rfl⟩) | fail)
          all_goals go_ret
          all_goals exact ⟨0, rfl, fun _ => by rw [HX.out]; rfl, by omega, by rw [HX.out]; exact HS3.out, HW3.out⟩
        · by_cases hc2 : 1 < hc
          · have qv : ((ver : Int) == 10) = true := by simp; omega
            have qv2 : ((ver : Int) == 11) = false := by simp; omega
            have qa : ¬ (ha : Int) > 1 := by omega
            have qb1 : ¬ (hb : Int) > 0 := by omega
            have qb2 : ((hb : Int) == 1) = false := by simp; omega
            have qb3 : ¬ (hb : Int) > 1 := by omega
            have qc1 : (hc : Int) > 0 := by omega
            have qc3 : (hc : Int) > 1 := by omega
            have qc2 : ((hc : Int) == 1) = false := by simp; omega
            have qc4 : ((hc : Int) == 0) = false := by simp; omega
            have HX : Hid (X = (180, none)) := (by show X = _; rw [hrd]; rw [if_neg (n1), if_neg n2, if_neg n3, if_pos (.inl hc2)])
            clear hrd hnn hns hgd
            try clear hv
            try clear hb0
            try clear hc0
            try clear ha0
            try clear hver
            try clear n1
            try clear n2
            try clear n3
            try clear n4
            try clear n5
            try clear hb2
            try clear hc2
            try clear ha2
            try clear hn0
            try clear hnm
            try clear hng
            go_enter Tryz.func73, Tryz.ntmps73
            go_upto_region 1 with (fail)
            rw [HBB.out, HW1.out, HGG.out]
            obtain ⟨r0, r1, r2, r3, r4, r5, r6⟩ := HLO.out W1 (Below.refl _ _)
            go_wp2_with (first | (go_at_call 94; refine hk0.mono ?_; clear hk0 r0 r1 r2 r3 r4 r5 r6; rintro e w1 ⟨rfl, b1⟩; have k2 := kb w1 b1; clear kb; obtain ⟨r0, r1, r2, r3, r4, r5, r6⟩ := HLO.out w1 b1) | (go_at_call 94; refine k2.mono ?_; clear k2 b1 r0 r1 r2 r3 r4 r5 r6; rintro e w2 ⟨rfl, b2⟩; have k3 := kl w2 b2; clear kl; obtain ⟨r0, r1, r2, r3, r4, r5, r6⟩ := HLO.out w2 b2) | (go_at_call 94; refine k3.mono ?_; clear k3 b2 r0 r1 r2 r3 r4 r5 r6; rintro e w3 ⟨rfl, b3⟩; obtain ⟨d1, d2, d3, d4, d5⟩ := H1.out w3 b3; have HS3 : Hid (Tryz.SS w3 p s st li (.ok a r i : Re α)) := d3; have HW3 : Hid (Wo (fun k => k = p) w w3) := d4; clear d3 d4 d5) | (go_at_call 95; refine (kln _).mono ?_; clear kln; rintro e w4 ⟨rfl, rfl⟩) | (go_at_call 67; refine (Tryz.ssFail α HS3.out i 180 (by decide)).mono ?_; rintro e w6 ⟨⟨v6, rfl⟩, g6, hw6, hc6⟩; clear hc6) | fail)
            all_goals go_ret
            all_goals exact ⟨_, rfl, fun e => (by rw [HX.out] at e; cases e), by omega, by rw [HX.out]; exact g6, HW3.out.trans hw6⟩
          · by_cases hn0 : n < 0
            · have qv : ((ver : Int) == 10) = true := by simp; omega
              have qv2 : ((ver : Int) == 11) = false := by simp; omega
              have qa : ¬ (ha : Int) > 1 := by omega
              have qb1 : ¬ (hb : Int) > 0 := by omega
              have qb2 : ((hb : Int) == 1) = false := by simp; omega
              have qb3 : ¬ (hb : Int) > 1 := by omega
              have qc1 : (hc : Int) > 0 := by omega
              have qc2 : ((hc : Int) == 1) = true := by simp; omega
              have qc3 : ¬ (hc : Int) > 1 := by omega
              have qc4 : ((hc : Int) == 0) = false := by simp; omega
              have qn : (n : Int) < 0 := hn0
              have HX : Hid (X = (180, none)) := (by show X = _; rw [hrd]; rw [if_neg (n1), if_neg n2, if_neg n3, if_pos (.inr ⟨by omega, hnn.1 hn0⟩)])
              clear hrd hnn hns hgd
              try clear hv
              try clear hb0
              try clear hc0
              try clear ha0
              try clear hver
              try clear n1
              try clear n2
              try clear n3
              try clear n4
              try clear n5
              try clear hb2
              try clear hc2
              try clear ha2
              try clear hn0
              try clear hnm
              try clear hng
              go_enter Tryz.func73, Tryz.ntmps73
              go_upto_region 1 with (fail)
              rw [HBB.out, HW1.out, HGG.out]
              obtain ⟨r0, r1, r2, r3, r4, r5, r6⟩ := HLO.out W1 (Below.refl _ _)
              go_wp2_with (first | (go_at_call 94; refine hk0.mono ?_; clear hk0 r0 r1 r2 r3 r4 r5 r6; rintro e w1 ⟨rfl, b1⟩; have k2 := kb w1 b1; clear kb; obtain ⟨r0, r1, r2, r3, r4, r5, r6⟩ := HLO.out w1 b1) | (go_at_call 94; refine k2.mono ?_; clear k2 b1 r0 r1 r2 r3 r4 r5 r6; rintro e w2 ⟨rfl, b2⟩; have k3 := kl w2 b2; clear kl; obtain ⟨r0, r1, r2, r3, r4, r5, r6⟩ := HLO.out w2 b2) | (go_at_call 94; refine k3.mono ?_; clear k3 b2 r0 r1 r2 r3 r4 r5 r6; rintro e w3 ⟨rfl, b3⟩; obtain ⟨d1, d2, d3, d4, d5⟩ := H1.out w3 b3; have HS3 : Hid (Tryz.SS w3 p s st li (.ok a r i : Re α)) := d3; have HW3 : Hid (Wo (fun k => k = p) w w3) := d4; clear d3 d4 d5) | (go_at_call 95; refine (kln _).mono ?_; clear kln; rintro e w4 ⟨rfl, rfl⟩) | (go_at_call 67; refine (Tryz.ssFail α HS3.out i 180 (by decide)).mono ?_; rintro e w6 ⟨⟨v6, rfl⟩, g6, hw6, hc6⟩; clear hc6) | fail)
              all_goals go_ret
              all_goals exact ⟨_, rfl, fun e => (by rw [HX.out] at e; cases e), by omega, by rw [HX.out]; exact g6, HW3.out.trans hw6⟩
            · have n4 : ¬ (1 < hc ∨ hc = 1 ∧ lengthD most tl = none) := fun e => (by
                rcases e with e | ⟨_, e⟩
                · exact hc2 e
                · exact hn0 (hnn.2 e))
              have hng : n = ((gd : Nat) : Int) := hns hn0
              have HNG : Hid (n = ((gd : Nat) : Int)) := hng
              by_cases hnm : (most : Int) < n
              · have qv : ((ver : Int) == 10) = true := by simp; omega
                have qv2 : ((ver : Int) == 11) = false := by simp; omega
                have qa : ¬ (ha : Int) > 1 := by omega
                have qb1 : ¬ (hb : Int) > 0 := by omega
                have qb2 : ((hb : Int) == 1) = false := by simp; omega
                have qb3 : ¬ (hb : Int) > 1 := by omega
                have qc1 : (hc : Int) > 0 := by omega
                have qc2 : ((hc : Int) == 1) = true := by simp; omega
                have qc3 : ¬ (hc : Int) > 1 := by omega
                have qc4 : ((hc : Int) == 0) = false := by simp; omega
                have qn : ¬ (n : Int) < 0 := hn0
                have qm : (most : Int) < n := hnm
                have HX : Hid (X = (182, none)) := (by show X = _; rw [hrd]; rw [if_neg (n1), if_neg n2, if_neg n3, if_neg n4, if_pos ⟨by omega, by omega⟩])
                clear hrd hnn hns hgd
                try clear hv
                try clear hb0
                try clear hc0
                try clear ha0
                try clear hver
                try clear n1
                try clear n2
                try clear n3
                try clear n4
                try clear n5
                try clear hb2
                try clear hc2
                try clear ha2
                try clear hn0
                try clear hnm
                try clear hng
                go_enter Tryz.func73, Tryz.ntmps73
                go_upto_region 1 with (fail)
                rw [HBB.out, HW1.out, HGG.out]
                obtain ⟨r0, r1, r2, r3, r4, r5, r6⟩ := HLO.out W1 (Below.refl _ _)
                go_wp2_with (first | (go_at_call 94; refine hk0.mono ?_; clear hk0 r0 r1 r2 r3 r4 r5 r6; rintro e w1 ⟨rfl, b1⟩; have k2 := kb w1 b1; clear kb; obtain ⟨r0, r1, r2, r3, r4, r5, r6⟩ := HLO.out w1 b1) | (go_at_call 94; refine k2.mono ?_; clear k2 b1 r0 r1 r2 r3 r4 r5 r6; rintro e w2 ⟨rfl, b2⟩; have k3 := kl w2 b2; clear kl; obtain ⟨r0, r1, r2, r3, r4, r5, r6⟩ := HLO.out w2 b2) | (go_at_call 94; refine k3.mono ?_; clear k3 b2 r0 r1 r2 r3 r4 r5 r6; rintro e w3 ⟨rfl, b3⟩; obtain ⟨d1, d2, d3, d4, d5⟩ := H1.out w3 b3; have HS3 : Hid (Tryz.SS w3 p s st li (.ok a r i : Re α)) := d3; have HW3 : Hid (Wo (fun k => k = p) w w3) := d4; clear d3 d4 d5) | (go_at_call 95; refine (kln _).mono ?_; clear kln; rintro e w4 ⟨rfl, rfl⟩) | (go_at_call 67; refine (Tryz.ssFail α HS3.out i 182 (by decide)).mono ?_; rintro e w6 ⟨⟨v6, rfl⟩, g6, hw6, hc6⟩; clear hc6) | fail)
                all_goals go_ret
                all_goals exact ⟨_, rfl, fun e => (by rw [HX.out] at e; cases e), by omega, by rw [HX.out]; exact g6, HW3.out.trans hw6⟩
              · have qv : ((ver : Int) == 10) = true := by simp; omega
                have qv2 : ((ver : Int) == 11) = false := by simp; omega
                have qa : ¬ (ha : Int) > 1 := by omega
                have qb1 : ¬ (hb : Int) > 0 := by omega
                have qb2 : ((hb : Int) == 1) = false := by simp; omega
                have qb3 : ¬ (hb : Int) > 1 := by omega
                have qc1 : (hc : Int) > 0 := by omega
                have qc2 : ((hc : Int) == 1) = true := by simp; omega
                have qc3 : ¬ (hc : Int) > 1 := by omega
                have qc4 : ((hc : Int) == 0) = false := by simp; omega
                have qn : ¬ (n : Int) < 0 := hn0
                have qm : ¬ (most : Int) < n := hnm
                have HX : Hid (X = (0, some gd)) := (by show X = _; rw [hrd]; rw [if_neg (n1), if_neg n2, if_neg n3, if_neg n4, if_neg (by omega), if_neg (by omega), if_neg (by omega)])
                clear hrd hnn hns hgd
                try clear hv
                try clear hb0
                try clear hc0
                try clear ha0
                try clear hver
                try clear n1
                try clear n2
                try clear n3
                try clear n4
                try clear n5
                try clear hb2
                try clear hc2
                try clear ha2
                try clear hn0
                try clear hnm
                try clear hng
                go_enter Tryz.func73, Tryz.ntmps73
                go_upto_region 1 with (fail)
                rw [HBB.out, HW1.out, HGG.out]
                obtain ⟨r0, r1, r2, r3, r4, r5, r6⟩ := HLO.out W1 (Below.refl _ _)
                go_wp2_with (first | (go_at_call 94; refine hk0.mono ?_; clear hk0 r0 r1 r2 r3 r4 r5 r6; rintro e w1 ⟨rfl, b1⟩; have k2 := kb w1 b1; clear kb; obtain ⟨r0, r1, r2, r3, r4, r5, r6⟩ := HLO.out w1 b1) | (go_at_call 94; refine k2.mono ?_; clear k2 b1 r0 r1 r2 r3 r4 r5 r6; rintro e w2 ⟨rfl, b2⟩; have k3 := kl w2 b2; clear kl; obtain ⟨r0, r1, r2, r3, r4, r5, r6⟩ := HLO.out w2 b2) | (go_at_call 94; refine k3.mono ?_; clear k3 b2 r0 r1 r2 r3 r4 r5 r6; rintro e w3 ⟨rfl, b3⟩; obtain ⟨d1, d2, d3, d4, d5⟩ := H1.out w3 b3; have HS3 : Hid (Tryz.SS w3 p s st li (.ok a r i : Re α)) := d3; have HW3 : Hid (Wo (fun k => k = p) w w3) := d4; clear d3 d4 d5) | (go_at_call 95; refine (kln _).mono ?_; clear kln; rintro e w4 ⟨rfl, rfl⟩) | fail)
                all_goals go_ret
                all_goals exact ⟨n, rfl, fun _ => by rw [HX.out]; exact HNG.out, by omega, by rw [HX.out]; exact HS3.out, HW3.out⟩
      · by_cases hc0 : hc = 0
        · have qv : ((ver : Int) == 10) = true := by simp; omega
          have qv2 : ((ver : Int) == 11) = false := by simp; omega
          have qa : ¬ (ha : Int) > 1 := by omega
          have qb1 : (hb : Int) > 0 := by omega
          have qc1 : ¬ (hc : Int) > 0 := by omega
          have qc2 : ((hc : Int) == 1) = false := by simp; omega
          have qc3 : ¬ (hc : Int) > 1 := by omega
          have qc4 : ((hc : Int) == 0) = true := by simp; omega
          have HX : Hid (X = (180, none)) := (by show X = _; rw [hrd]; rw [if_neg (n1), if_pos ⟨by omega, .inr (by simp; omega)⟩])
          clear hrd hnn hns hgd
          try clear hv
          try clear hb0
          try clear hc0
          try clear ha0
          try clear hver
          try clear n1
          try clear n2
          try clear n3
          try clear n4
          try clear n5
          try clear hb2
          try clear hc2
          try clear ha2
          try clear hn0
          try clear hnm
          try clear hng
          go_enter Tryz.func73, Tryz.ntmps73
          go_upto_region 1 with (fail)
          rw [HBB.out, HW1.out, HGG.out]
          obtain ⟨r0, r1, r2, r3, r4, r5, r6⟩ := HLO.out W1 (Below.refl _ _)
          go_wp2_with (first | (go_at_call 94; refine hk0.mono ?_; clear hk0 r0 r1 r2 r3 r4 r5 r6; rintro e w1 ⟨rfl, b1⟩; have k2 := kb w1 b1; clear kb; obtain ⟨r0, r1, r2, r3, r4, r5, r6⟩ := HLO.out w1 b1) | (go_at_call 94; refine k2.mono ?_; clear k2 b1 r0 r1 r2 r3 r4 r5 r6; rintro e w2 ⟨rfl, b2⟩; have k3 := kl w2 b2; clear kl; obtain ⟨r0, r1, r2, r3, r4, r5, r6⟩ := HLO.out w2 b2) | (go_at_call 94; refine k3.mono ?_; clear k3 b2 r0 r1 r2 r3 r4 r5 r6; rintro e w3 ⟨rfl, b3⟩; obtain ⟨d1, d2, d3, d4, d5⟩ := H1.out w3 b3; have HS3 : Hid (Tryz.SS w3 p s st li (.ok a r i : Re α)) := d3; have HW3 : Hid (Wo (fun k => k = p) w w3) := d4; clear d3 d4 d5) | (go_at_call 95; refine (kln _).mono ?_; clear kln; rintro e w4 ⟨rfl, rfl⟩) | (go_at_call 67; refine (Tryz.ssFail α HS3.out i 180 (by decide)).mono ?_; rintro e w6 ⟨⟨v6, rfl⟩, g6, hw6, hc6⟩; clear hc6) | fail)
          all_goals go_ret
          all_goals exact ⟨_, rfl, fun e => (by rw [HX.out] at e; cases e), by omega, by rw [HX.out]; exact g6, HW3.out.trans hw6⟩
        · have qv : ((ver : Int) == 10) = true := by simp; omega
          have qv2 : ((ver : Int) == 11) = false := by simp; omega
          have qa : ¬ (ha : Int) > 1 := by omega
          have qb1 : (hb : Int) > 0 := by omega
          have qc1 : (hc : Int) > 0 := by omega
          have qc4 : ((hc : Int) == 0) = false := by simp; omega
          have HX : Hid (X = (180, none)) := (by show X = _; rw [hrd]; rw [if_neg (n1), if_pos ⟨by omega, .inl (by omega)⟩])
          clear hrd hnn hns hgd
          try clear hv
          try clear hb0
          try clear hc0
          try clear ha0
          try clear hver
          try clear n1
          try clear n2
          try clear n3
          try clear n4
          try clear n5
          try clear hb2
          try clear hc2
          try clear ha2
          try clear hn0
          try clear hnm
          try clear hng
          go_enter Tryz.func73, Tryz.ntmps73
          go_upto_region 1 with (fail)
          rw [HBB.out, HW1.out, HGG.out]
          obtain ⟨r0, r1, r2, r3, r4, r5, r6⟩ := HLO.out W1 (Below.refl _ _)
          go_wp2_with (first | (go_at_call 94; refine hk0.mono ?_; clear hk0 r0 r1 r2 r3 r4 r5 r6; rintro e w1 ⟨rfl, b1⟩; have k2 := kb w1 b1; clear kb; obtain ⟨r0, r1, r2, r3, r4, r5, r6⟩ := HLO.out w1 b1) | (go_at_call 94; refine k2.mono ?_; clear k2 b1 r0 r1 r2 r3 r4 r5 r6; rintro e w2 ⟨rfl, b2⟩; have k3 := kl w2 b2; clear kl; obtain ⟨r0, r1, r2, r3, r4, r5, r6⟩ := HLO.out w2 b2) | (go_at_call 94; refine k3.mono ?_; clear k3 b2 r0 r1 r2 r3 r4 r5 r6; rintro e w3 ⟨rfl, b3⟩; obtain ⟨d1, d2, d3, d4, d5⟩ := H1.out w3 b3; have HS3 : Hid (Tryz.SS w3 p s st li (.ok a r i : Re α)) := d3; have HW3 : Hid (Wo (fun k => k = p) w w3) := d4; clear d3 d4 d5) | (go_at_call 95; refine (kln _).mono ?_; clear kln; rintro e w4 ⟨rfl, rfl⟩) | (go_at_call 67; refine (Tryz.ssFail α HS3.out i 180 (by decide)).mono ?_; rintro e w6 ⟨⟨v6, rfl⟩, g6, hw6, hc6⟩; clear hc6) | fail)
          all_goals go_ret
          all_goals exact ⟨_, rfl, fun e => (by rw [HX.out] at e; cases e), by omega, by rw [HX.out]; exact g6, HW3.out.trans hw6⟩
    · by_cases ha0 : ha = 0
      · have qv : ((ver : Int) == 10) = false := by simp; omega
        have qv2 : ((ver : Int) == 11) = true := by simp; omega
        have qa : ¬ (ha : Int) > 1 := by omega
        have qa0 : ((ha : Int) == 0) = true := by simp; omega
        have HX : Hid (X = (180, none)) := (by show X = _; rw [hrd]; rw [if_pos ⟨rfl, .inr ⟨by simp; omega, ha0⟩⟩])
        clear hrd hnn hns hgd
        try clear hv
        try clear hb0
        try clear hc0
        try clear ha0
        try clear hver
        try clear n1
        try clear n2
        try clear n3
        try clear n4
        try clear n5
        try clear hb2
        try clear hc2
        try clear ha2
        try clear hn0
        try clear hnm
        try clear hng
        go_enter Tryz.func73, Tryz.ntmps73
        go_upto_region 1 with (fail)
        rw [HBB.out, HW1.out, HGG.out]
        obtain ⟨r0, r1, r2, r3, r4, r5, r6⟩ := HLO.out W1 (Below.refl _ _)
        go_wp2_with (first | (go_at_call 94; refine hk0.mono ?_; clear hk0 r0 r1 r2 r3 r4 r5 r6; rintro e w1 ⟨rfl, b1⟩; have k2 := kb w1 b1; clear kb; obtain ⟨r0, r1, r2, r3, r4, r5, r6⟩ := HLO.out w1 b1) | (go_at_call 94; refine k2.mono ?_; clear k2 b1 r0 r1 r2 r3 r4 r5 r6; rintro e w2 ⟨rfl, b2⟩; have k3 := kl w2 b2; clear kl; obtain ⟨r0, r1, r2, r3, r4, r5, r6⟩ := HLO.out w2 b2) | (go_at_call 94; refine k3.mono ?_; clear k3 b2 r0 r1 r2 r3 r4 r5 r6; rintro e w3 ⟨rfl, b3⟩; obtain ⟨d1, d2, d3, d4, d5⟩ := H1.out w3 b3; have HS3 : Hid (Tryz.SS w3 p s st li (.ok a r i : Re α)) := d3; have HW3 : Hid (Wo (fun k => k = p) w w3) := d4; clear d3 d4 d5) | (go_at_call 95; refine (kln _).mono ?_; clear kln; rintro e w4 ⟨rfl, rfl⟩) | (go_at_call 67; refine (Tryz.ssFail α HS3.out i 180 (by decide)).mono ?_; rintro e w6 ⟨⟨v6, rfl⟩, g6, hw6, hc6⟩; clear hc6) | fail)
        all_goals go_ret
        all_goals exact ⟨_, rfl, fun e => (by rw [HX.out] at e; cases e), by omega, by rw [HX.out]; exact g6, HW3.out.trans hw6⟩
      · have n1 : ¬ (false = false ∧ (1 < ha ∨ decide (ver = 11) = true ∧ ha = 0)) := fun e => (by
          rcases e.2 with e | e
          · exact ha2 e
          · exact ha0 e.2)
        by_cases hb0 : hb = 0
        · have n2 : ¬ (0 < hb ∧ (0 < hc ∨ decide (ver = 11) = false)) := fun e => by omega
          have n3 : ¬ (1 < hb ∨ hb = 1 ∧ z ≠ wChunked) := fun e => by omega
          by_cases hc0 : hc = 0
          · have n4 : ¬ (1 < hc ∨ hc = 1 ∧ lengthD most tl = none) := fun e => by omega
            have n5 : ¬ (hc = 1 ∧ most < gd) := fun e => by omega
            have qv : ((ver : Int) == 10) = false := by simp; omega
            have qv2 : ((ver : Int) == 11) = true := by simp; omega
            have qa : ¬ (ha : Int) > 1 := by omega
            have qa0 : ((ha : Int) == 0) = false := by simp; omega
            have qb1 : ¬ (hb : Int) > 0 := by omega
            have qb2 : ((hb : Int) == 1) = false := by simp; omega
            have qb3 : ¬ (hb : Int) > 1 := by omega
            have qc1 : ¬ (hc : Int) > 0 := by omega
            have qc2 : ((hc : Int) == 1) = false := by simp; omega
            have qc3 : ¬ (hc : Int) > 1 := by omega
            have qc4 : ((hc : Int) == 0) = true := by simp; omega
            have HX : Hid (X = (0, some 0)) := (by show X = _; rw [hrd]; rw [if_neg (n1), if_neg n2, if_neg n3, if_neg n4, if_neg n5, if_neg (by omega), if_pos hc0])
            clear hrd hnn hns hgd
            try clear hv
            try clear hb0
            try clear hc0
            try clear ha0
            try clear hver
            try clear n1
            try clear n2
            try clear n3
            try clear n4
            try clear n5
            try clear hb2
            try clear hc2
            try clear ha2
            try clear hn0
            try clear hnm
            try clear hng
            go_enter Tryz.func73, Tryz.ntmps73
            go_upto_region 1 with (fail)
            rw [HBB.out, HW1.out, HGG.out]
            obtain ⟨r0, r1, r2, r3, r4, r5, r6⟩ := HLO.out W1 (Below.refl _ _)
            go_wp2_with (first | (go_at_call 94; refine hk0.mono ?_; clear hk0 r0 r1 r2 r3 r4 r5 r6; rintro e w1 ⟨rfl, b1⟩; have k2 := kb w1 b1; clear kb; obtain ⟨r0, r1, r2, r3, r4, r5, r6⟩ := HLO.out w1 b1) | (go_at_call 94; refine k2.mono ?_; clear k2 b1 r0 r1 r2 r3 r4 r5 r6; rintro e w2 ⟨rfl, b2⟩; have k3 := kl w2 b2; clear kl; obtain ⟨r0, r1, r2, r3, r4, r5, r6⟩ := HLO.out w2 b2) | (go_at_call 94; refine k3.mono ?_; clear k3 b2 r0 r1 r2 r3 r4 r5 r6; rintro e w3 ⟨rfl, b3⟩; obtain ⟨d1, d2, d3, d4, d5⟩ := H1.out w3 b3; have HS3 : Hid (Tryz.SS w3 p s st li (.ok a r i : Re α)) := d3; have HW3 : Hid (Wo (fun k => k = p) w w3) := d4; clear d3 d4 d5) | (go_at_call 95; refine (kln _).mono ?_; clear kln; rintro e w4 ⟨rfl, rfl⟩) | fail)
            all_goals go_ret
            all_goals exact ⟨0, rfl, fun _ => by rw [HX.out]; rfl, by omega, by rw [HX.out]; exact HS3.out, HW3.out⟩
          · by_cases hc2 : 1 < hc
            · have qv : ((ver : Int) == 10) = false := by simp; omega
              have qv2 : ((ver : Int) == 11) = true := by simp; omega
              have qa : ¬ (ha : Int) > 1 := by omega
              have qa0 : ((ha : Int) == 0) = false := by simp; omega
              have qb1 : ¬ (hb : Int) > 0 := by omega
              have qb2 : ((hb : Int) == 1) = false := by simp; omega
              have qb3 : ¬ (hb : Int) > 1 := by omega
              have qc1 : (hc : Int) > 0 := by omega
              have qc3 : (hc : Int) > 1 := by omega
              have qc2 : ((hc : Int) == 1) = false := by simp; omega
              have qc4 : ((hc : Int) == 0) = false := by simp; omega
              have HX : Hid (X = (180, none)) := (by show X = _; rw [hrd]; rw [if_neg (n1), if_neg n2, if_neg n3, if_pos (.inl hc2)])
              clear hrd hnn hns hgd
              try clear hv
              try clear hb0
              try clear hc0
              try clear ha0
              try clear hver
              try clear n1
              try clear n2
              try clear n3
              try clear n4
              try clear n5
              try clear hb2
              try clear hc2
              try clear ha2
              try clear hn0
              try clear hnm
              try clear hng
              go_enter Tryz.func73, Tryz.ntmps73
              go_upto_region 1 with (fail)
              rw [HBB.out, HW1.out, HGG.out]
              obtain ⟨r0, r1, r2, r3, r4, r5, r6⟩ := HLO.out W1 (Below.refl _ _)
              go_wp2_with (first | (go_at_call 94; refine hk0.mono ?_; clear hk0 r0 r1 r2 r3 r4 r5 r6; rintro e w1 ⟨rfl, b1⟩; have k2 := kb w1 b1; clear kb; obtain ⟨r0, r1, r2, r3, r4, r5, r6⟩ := HLO.out w1 b1) | (go_at_call 94; refine k2.mono ?_; clear k2 b1 r0 r1 r2 r3 r4 r5 r6; rintro e w2 ⟨rfl, b2⟩; have k3 := kl w2 b2; clear kl; obtain ⟨r0, r1, r2, r3, r4, r5, r6⟩ := HLO.out w2 b2) | (go_at_call 94; refine k3.mono ?_; clear k3 b2 r0 r1 r2 r3 r4 r5 r6; rintro e w3 ⟨rfl, b3⟩; obtain ⟨d1, d2, d3, d4, d5⟩ := H1.out w3 b3; have HS3 : Hid (Tryz.SS w3 p s st li (.ok a r i : Re α)) := d3; have HW3 : Hid (Wo (fun k => k = p) w w3) := d4; clear d3 d4 d5) | (go_at_call 95; refine (kln _).mono ?_; clear kln; rintro e w4 ⟨rfl, rfl⟩) | (go_at_call 67; refine (Tryz.ssFail α HS3.out i 180 (by decide)).mono ?_; rintro e w6 ⟨⟨v6, rfl⟩, g6, hw6, hc6⟩; clear hc6) | fail)
              all_goals go_ret
              all_goals exact ⟨_, rfl, fun e => (by rw [HX.out] at e; cases e), by omega, by rw [HX.out]; exact g6, HW3.out.trans hw6⟩
            · by_cases hn0 : n < 0
              · have qv : ((ver : Int) == 10) = false := by simp; omega
                have qv2 : ((ver : Int) == 11) = true := by simp; omega
                have qa : ¬ (ha : Int) > 1 := by omega
                have qa0 : ((ha : Int) == 0) = false := by simp; omega
                have qb1 : ¬ (hb : Int) > 0 := by omega
                have qb2 : ((hb : Int) == 1) = false := by simp; omega
                have qb3 : ¬ (hb : Int) > 1 := by omega
                have qc1 : (hc : Int) > 0 := by omega
                have qc2 : ((hc : Int) == 1) = true := by simp; omega
                have qc3 : ¬ (hc : Int) > 1 := by omega
                have qc4 : ((hc : Int) == 0) = false := by simp; omega
                have qn : (n : Int) < 0 := hn0
                have HX : Hid (X = (180, none)) := (by show X = _; rw [hrd]; rw [if_neg (n1), if_neg n2, if_neg n3, if_pos (.inr ⟨by omega, hnn.1 hn0⟩)])
                clear hrd hnn hns hgd
                try clear hv
                try clear hb0
                try clear hc0
                try clear ha0
                try clear hver
                try clear n1
                try clear n2
                try clear n3
                try clear n4
                try clear n5
                try clear hb2
                try clear hc2
                try clear ha2
                try clear hn0
                try clear hnm
                try clear hng
                go_enter Tryz.func73, Tryz.ntmps73
                go_upto_region 1 with (fail)
                rw [HBB.out, HW1.out, HGG.out]
                obtain ⟨r0, r1, r2, r3, r4, r5, r6⟩ := HLO.out W1 (Below.refl _ _)
                go_wp2_with (first | (go_at_call 94; refine hk0.mono ?_; clear hk0 r0 r1 r2 r3 r4 r5 r6; rintro e w1 ⟨rfl, b1⟩; have k2 := kb w1 b1; clear kb; obtain ⟨r0, r1, r2, r3, r4, r5, r6⟩ := HLO.out w1 b1) | (go_at_call 94; refine k2.mono ?_; clear k2 b1 r0 r1 r2 r3 r4 r5 r6; rintro e w2 ⟨rfl, b2⟩; have k3 := kl w2 b2; clear kl; obtain ⟨r0, r1, r2, r3, r4, r5, r6⟩ := HLO.out w2 b2) | (go_at_call 94; refine k3.mono ?_; clear k3 b2 r0 r1 r2 r3 r4 r5 r6; rintro e w3 ⟨rfl, b3⟩; obtain ⟨d1, d2, d3, d4, d5⟩ := H1.out w3 b3; have HS3 : Hid (Tryz.SS w3 p s st li (.ok a r i : Re α)) := d3; have HW3 : Hid (Wo (fun k => k = p) w w3) := d4; clear d3 d4 d5) | (go_at_call 95; refine (kln _).mono ?_; clear kln; rintro e w4 ⟨rfl, rfl⟩) | (go_at_call 67; refine (Tryz.ssFail α HS3.out i 180 (by decide)).mono ?_; rintro e w6 ⟨⟨v6, rfl⟩, g6, hw6, hc6⟩; clear hc6) | fail)
                all_goals go_ret
                all_goals exact ⟨_, rfl, fun e => (by rw [HX.out] at e; cases e), by omega, by rw [HX.out]; exact g6, HW3.out.trans hw6⟩
              · have n4 : ¬ (1 < hc ∨ hc = 1 ∧ lengthD most tl = none) := fun e => (by
                  rcases e with e | ⟨_, e⟩
                  · exact hc2 e
                  · exact hn0 (hnn.2 e))
                have hng : n = ((gd : Nat) : Int) := hns hn0
                have HNG : Hid (n = ((gd : Nat) : Int)) := hng
                by_cases hnm : (most : Int) < n
                · have qv : ((ver : Int) == 10) = false := by simp; omega
                  have qv2 : ((ver : Int) == 11) = true := by simp; omega
                  have qa : ¬ (ha : Int) > 1 := by omega
                  have qa0 : ((ha : Int) == 0) = false := by simp; omega
                  have qb1 : ¬ (hb : Int) > 0 := by omega
                  have qb2 : ((hb : Int) == 1) = false := by simp; omega
                  have qb3 : ¬ (hb : Int) > 1 := by omega
                  have qc1 : (hc : Int) > 0 := by omega
                  have qc2 : ((hc : Int) == 1) = true := by simp; omega
                  have qc3 : ¬ (hc : Int) > 1 := by omega
                  have qc4 : ((hc : Int) == 0) = false := by simp; omega
                  have qn : ¬ (n : Int) < 0 := hn0
                  have qm : (most : Int) < n := hnm
                  have HX : Hid (X = (182, none)) := (by show X = _; rw [hrd]; rw [if_neg (n1), if_neg n2, if_neg n3, if_neg n4, if_pos ⟨by omega, by omega⟩])
                  clear hrd hnn hns hgd
                  try clear hv
                  try clear hb0
                  try clear hc0
                  try clear ha0
                  try clear hver
                  try clear n1
                  try clear n2
                  try clear n3
                  try clear n4
                  try clear n5
                  try clear hb2
                  try clear hc2
                  try clear ha2
                  try clear hn0
                  try clear hnm
                  try clear hng
                  go_enter Tryz.func73, Tryz.ntmps73
                  go_upto_region 1 with (fail)
                  rw [HBB.out, HW1.out, HGG.out]
                  obtain ⟨r0, r1, r2, r3, r4, r5, r6⟩ := HLO.out W1 (Below.refl _ _)
                  go_wp2_with (first | (go_at_call 94; refine hk0.mono ?_; clear hk0 r0 r1 r2 r3 r4 r5 r6; rintro e w1 ⟨rfl, b1⟩; have k2 := kb w1 b1; clear kb; obtain ⟨r0, r1, r2, r3, r4, r5, r6⟩ := HLO.out w1 b1) | (go_at_call 94; refine k2.mono ?_; clear k2 b1 r0 r1 r2 r3 r4 r5 r6; rintro e w2 ⟨rfl, b2⟩; have k3 := kl w2 b2; clear kl; obtain ⟨r0, r1, r2, r3, r4, r5, r6⟩ := HLO.out w2 b2) | (go_at_call 94; refine k3.mono ?_; clear k3 b2 r0 r1 r2 r3 r4 r5 r6; rintro e w3 ⟨rfl, b3⟩; obtain ⟨d1, d2, d3, d4, d5⟩ := H1.out w3 b3; have HS3 : Hid (Tryz.SS w3 p s st li (.ok a r i : Re α)) := d3; have HW3 : Hid (Wo (fun k => k = p) w w3) := d4; clear d3 d4 d5) | (go_at_call 95; refine (kln _).mono ?_; clear kln; rintro e w4 ⟨rfl, rfl⟩) | (go_at_call 67; refine (Tryz.ssFail α HS3.out i 182 (by decide)).mono ?_; rintro e w6 ⟨⟨v6, rfl⟩, g6, hw6, hc6⟩; clear hc6) | fail)
                  all_goals go_ret
                  all_goals exact ⟨_, rfl, fun e => (by rw [HX.out] at e; cases e), by omega, by rw [HX.out]; exact g6, HW3.out.trans hw6⟩
                · have qv : ((ver : Int) == 10) = false := by simp; omega
                  have qv2 : ((ver : Int) == 11) = true := by simp; omega
                  have qa : ¬ (ha : Int) > 1 := by omega
                  have qa0 : ((ha : Int) == 0) = false := by simp; omega
                  have qb1 : ¬ (hb : Int) > 0 := by omega
                  have qb2 : ((hb : Int) == 1) = false := by simp; omega
                  have qb3 : ¬ (hb : Int) > 1 := by omega
                  have qc1 : (hc : Int) > 0 := by omega
                  have qc2 : ((hc : Int) == 1) = true := by simp; omega
                  have qc3 : ¬ (hc : Int) > 1 := by omega
                  have qc4 : ((hc : Int) == 0) = false := by simp; omega
                  have qn : ¬ (n : Int) < 0 := hn0
                  have qm : ¬ (most : Int) < n := hnm
                  have HX : Hid (X = (0, some gd)) := (by show X = _; rw [hrd]; rw [if_neg (n1), if_neg n2, if_neg n3, if_neg n4, if_neg (by omega), if_neg (by omega), if_neg (by omega)])
                  clear hrd hnn hns hgd
                  try clear hv
                  try clear hb0
                  try clear hc0
                  try clear ha0
                  try clear hver
                  try clear n1
                  try clear n2
                  try clear n3
                  try clear n4
                  try clear n5
                  try clear hb2
                  try clear hc2
                  try clear ha2
                  try clear hn0
                  try clear hnm
                  try clear hng
                  go_enter Tryz.func73, Tryz.ntmps73
                  go_upto_region 1 with (fail)
                  rw [HBB.out, HW1.out, HGG.out]
                  obtain ⟨r0, r1, r2, r3, r4, r5, r6⟩ := HLO.out W1 (Below.refl _ _)
                  go_wp2_with (first | (go_at_call 94; refine hk0.mono ?_; clear hk0 r0 r1 r2 r3 r4 r5 r6; rintro e w1 ⟨rfl, b1⟩; have k2 := kb w1 b1; clear kb; obtain ⟨r0, r1, r2, r3, r4, r5, r6⟩ := HLO.out w1 b1) | (go_at_call 94; refine k2.mono ?_; clear k2 b1 r0 r1 r2 r3 r4 r5 r6; rintro e w2 ⟨rfl, b2⟩; have k3 := kl w2 b2; clear kl; obtain ⟨r0, r1, r2, r3, r4, r5, r6⟩ := HLO.out w2 b2) | (go_at_call 94; refine k3.mono ?_; clear k3 b2 r0 r1 r2 r3 r4 r5 r6; rintro e w3 ⟨rfl, b3⟩; obtain ⟨d1, d2, d3, d4, d5⟩ := H1.out w3 b3; have HS3 : Hid (Tryz.SS w3 p s st li (.ok a r i : Re α)) := d3; have HW3 : Hid (Wo (fun k => k = p) w w3) := d4; clear d3 d4 d5) | (go_at_call 95; refine (kln _).mono ?_; clear kln; rintro e w4 ⟨rfl, rfl⟩) | fail)
                  all_goals go_ret
                  all_goals exact ⟨n, rfl, fun _ => by rw [HX.out]; exact HNG.out, by omega, by rw [HX.out]; exact HS3.out, HW3.out⟩
        · by_cases hc0 : hc = 0
          · have n2 : ¬ (0 < hb ∧ (0 < hc ∨ decide (ver = 11) = false)) := fun e => (by
              rcases e.2 with e | e
              · omega
              · simp at e; omega)
            by_cases hb2 : 1 < hb
            · have qv : ((ver : Int) == 10) = false := by simp; omega
              have qv2 : ((ver : Int) == 11) = true := by simp; omega
              have qa : ¬ (ha : Int) > 1 := by omega
              have qa0 : ((ha : Int) == 0) = false := by simp; omega
              have qb1 : (hb : Int) > 0 := by omega
              have qb2 : ((hb : Int) == 1) = false := by simp; omega
              have qb3 : (hb : Int) > 1 := by omega
              have qc1 : ¬ (hc : Int) > 0 := by omega
              have qc2 : ((hc : Int) == 1) = false := by simp; omega
              have qc3 : ¬ (hc : Int) > 1 := by omega
              have qc4 : ((hc : Int) == 0) = true := by simp; omega
              have HX : Hid (X = (183, none)) := (by show X = _; rw [hrd]; rw [if_neg (n1), if_neg n2, if_pos (.inl hb2)])
              clear hrd hnn hns hgd
              try clear hv
              try clear hb0
              try clear hc0
              try clear ha0
              try clear hver
              try clear n1
              try clear n2
              try clear n3
              try clear n4
              try clear n5
              try clear hb2
              try clear hc2
              try clear ha2
              try clear hn0
              try clear hnm
              try clear hng
              go_enter Tryz.func73, Tryz.ntmps73
              go_upto_region 1 with (fail)
              rw [HBB.out, HW1.out, HGG.out]
              obtain ⟨r0, r1, r2, r3, r4, r5, r6⟩ := HLO.out W1 (Below.refl _ _)
              go_wp2_with (first | (go_at_call 94; refine hk0.mono ?_; clear hk0 r0 r1 r2 r3 r4 r5 r6; rintro e w1 ⟨rfl, b1⟩; have k2 := kb w1 b1; clear kb; obtain ⟨r0, r1, r2, r3, r4, r5, r6⟩ := HLO.out w1 b1) | (go_at_call 94; refine k2.mono ?_; clear k2 b1 r0 r1 r2 r3 r4 r5 r6; rintro e w2 ⟨rfl, b2⟩; have k3 := kl w2 b2; clear kl; obtain ⟨r0, r1, r2, r3, r4, r5, r6⟩ := HLO.out w2 b2) | (go_at_call 94; refine k3.mono ?_; clear k3 b2 r0 r1 r2 r3 r4 r5 r6; rintro e w3 ⟨rfl, b3⟩; obtain ⟨d1, d2, d3, d4, d5⟩ := H1.out w3 b3; have HS3 : Hid (Tryz.SS w3 p s st li (.ok a r i : Re α)) := d3; have HW3 : Hid (Wo (fun k => k = p) w w3) := d4; clear d3 d4 d5) | (go_at_call 95; refine (kln _).mono ?_; clear kln; rintro e w4 ⟨rfl, rfl⟩) | (go_at_call 67; refine (Tryz.ssFail α HS3.out i 183 (by decide)).mono ?_; rintro e w6 ⟨⟨v6, rfl⟩, g6, hw6, hc6⟩; clear hc6) | fail)
              all_goals go_ret
              all_goals exact ⟨_, rfl, fun e => (by rw [HX.out] at e; cases e), by omega, by rw [HX.out]; exact g6, HW3.out.trans hw6⟩
            · by_cases hzc : z = wChunked
              · have n3 : ¬ (1 < hb ∨ hb = 1 ∧ z ≠ wChunked) := fun e => (by
                  rcases e with e | e
                  · exact hb2 e
                  · exact e.2 hzc)
                have n4 : ¬ (1 < hc ∨ hc = 1 ∧ lengthD most tl = none) := fun e => by omega
                have n5 : ¬ (hc = 1 ∧ most < gd) := fun e => by omega
                have qv : ((ver : Int) == 10) = false := by simp; omega
                have qv2 : ((ver : Int) == 11) = true := by simp; omega
                have qa : ¬ (ha : Int) > 1 := by omega
                have qa0 : ((ha : Int) == 0) = false := by simp; omega
                have qb1 : (hb : Int) > 0 := by omega
                have qb2 : ((hb : Int) == 1) = true := by simp; omega
                have qb3 : ¬ (hb : Int) > 1 := by omega
                have qc1 : ¬ (hc : Int) > 0 := by omega
                have qc2 : ((hc : Int) == 1) = false := by simp; omega
                have qc3 : ¬ (hc : Int) > 1 := by omega
                have qc4 : ((hc : Int) == 0) = true := by simp; omega
                have qz : (z == [99, 104, 117, 110, 107, 101, 100]) = true := HSM.out.1 hzc
                have qb4 : decide (1 < (hb : Int)) = false := decide_eq_false (by omega)
                have HX : Hid (X = (0, none)) := (by show X = _; rw [hrd]; rw [if_neg (n1), if_neg n2, if_neg n3, if_neg n4, if_neg n5, if_pos (by omega)])
                clear hzc hrd hnn hns hgd
                try clear hv
                try clear hb0
                try clear hc0
                try clear ha0
                try clear hver
                try clear n1
                try clear n2
                try clear n3
                try clear n4
                try clear n5
                try clear hb2
                try clear hc2
                try clear ha2
                try clear hn0
                try clear hnm
                try clear hng
                go_enter Tryz.func73, Tryz.ntmps73
                go_upto_region 1 with (fail)
                rw [HBB.out, HW1.out, HGG.out]
                obtain ⟨r0, r1, r2, r3, r4, r5, r6⟩ := HLO.out W1 (Below.refl _ _)
                go_wp2_with (first | (go_at_call 94; refine hk0.mono ?_; clear hk0 r0 r1 r2 r3 r4 r5 r6; rintro e w1 ⟨rfl, b1⟩; have k2 := kb w1 b1; clear kb; obtain ⟨r0, r1, r2, r3, r4, r5, r6⟩ := HLO.out w1 b1) | (go_at_call 94; refine k2.mono ?_; clear k2 b1 r0 r1 r2 r3 r4 r5 r6; rintro e w2 ⟨rfl, b2⟩; have k3 := kl w2 b2; clear kl; obtain ⟨r0, r1, r2, r3, r4, r5, r6⟩ := HLO.out w2 b2) | (go_at_call 94; refine k3.mono ?_; clear k3 b2 r0 r1 r2 r3 r4 r5 r6; rintro e w3 ⟨rfl, b3⟩; obtain ⟨d1, d2, d3, d4, d5⟩ := H1.out w3 b3; have HS3 : Hid (Tryz.SS w3 p s st li (.ok a r i : Re α)) := d3; have HW3 : Hid (Wo (fun k => k = p) w w3) := d4; clear d3 d4 d5) | (go_at_call 95; refine (kln _).mono ?_; clear kln; rintro e w4 ⟨rfl, rfl⟩) | (go_at_call 92; refine (ksm _).mono ?_; clear ksm; rintro e w5 ⟨rfl, b5⟩; have hb5 := b3.trans (Below.mono b5 b3.size); obtain ⟨f1, f2, f3, f4, f5⟩ := H1.out _ hb5; have HS5 : Hid (Tryz.SS w5 p s st li (.ok a r i : Re α)) := f3; have HW5 : Hid (Wo (fun k => k = p) w w5) := f4; clear f3 f4 f5 d1 d2 b5) | fail)
                all_goals go_ret
                all_goals exact ⟨-1, rfl, fun _ => by rw [HX.out]; rfl, by omega, by rw [HX.out]; exact HS5.out, HW5.out⟩
              · have qv : ((ver : Int) == 10) = false := by simp; omega
                have qv2 : ((ver : Int) == 11) = true := by simp; omega
                have qa : ¬ (ha : Int) > 1 := by omega
                have qa0 : ((ha : Int) == 0) = false := by simp; omega
                have qb1 : (hb : Int) > 0 := by omega
                have qb2 : ((hb : Int) == 1) = true := by simp; omega
                have qb3 : ¬ (hb : Int) > 1 := by omega
                have qc1 : ¬ (hc : Int) > 0 := by omega
                have qc2 : ((hc : Int) == 1) = false := by simp; omega
                have qc3 : ¬ (hc : Int) > 1 := by omega
                have qc4 : ((hc : Int) == 0) = true := by simp; omega
                have qz : (z == [99, 104, 117, 110, 107, 101, 100]) = false := (by rw [Bool.eq_false_iff]; exact fun e => hzc (HSM.out.2 e))
                have qb4 : decide (1 < (hb : Int)) = false := decide_eq_false (by omega)
                have HX : Hid (X = (183, none)) := (by show X = _; rw [hrd]; rw [if_neg (n1), if_neg n2, if_pos (.inr ⟨by omega, hzc⟩)])
                clear hrd hnn hns hgd
                try clear hv
                try clear hb0
                try clear hc0
                try clear ha0
                try clear hver
                try clear n1
                try clear n2
                try clear n3
                try clear n4
                try clear n5
                try clear hb2
                try clear hc2
                try clear ha2
                try clear hn0
                try clear hnm
                try clear hng
                go_enter Tryz.func73, Tryz.ntmps73
                go_upto_region 1 with (fail)
                rw [HBB.out, HW1.out, HGG.out]
                obtain ⟨r0, r1, r2, r3, r4, r5, r6⟩ := HLO.out W1 (Below.refl _ _)
                go_wp2_with (first | (go_at_call 94; refine hk0.mono ?_; clear hk0 r0 r1 r2 r3 r4 r5 r6; rintro e w1 ⟨rfl, b1⟩; have k2 := kb w1 b1; clear kb; obtain ⟨r0, r1, r2, r3, r4, r5, r6⟩ := HLO.out w1 b1) | (go_at_call 94; refine k2.mono ?_; clear k2 b1 r0 r1 r2 r3 r4 r5 r6; rintro e w2 ⟨rfl, b2⟩; have k3 := kl w2 b2; clear kl; obtain ⟨r0, r1, r2, r3, r4, r5, r6⟩ := HLO.out w2 b2) | (go_at_call 94; refine k3.mono ?_; clear k3 b2 r0 r1 r2 r3 r4 r5 r6; rintro e w3 ⟨rfl, b3⟩; obtain ⟨d1, d2, d3, d4, d5⟩ := H1.out w3 b3; have HS3 : Hid (Tryz.SS w3 p s st li (.ok a r i : Re α)) := d3; have HW3 : Hid (Wo (fun k => k = p) w w3) := d4; clear d3 d4 d5) | (go_at_call 95; refine (kln _).mono ?_; clear kln; rintro e w4 ⟨rfl, rfl⟩) | (go_at_call 92; refine (ksm _).mono ?_; clear ksm; rintro e w5 ⟨rfl, b5⟩; have hb5 := b3.trans (Below.mono b5 b3.size); obtain ⟨f1, f2, f3, f4, f5⟩ := H1.out _ hb5; have HS5 : Hid (Tryz.SS w5 p s st li (.ok a r i : Re α)) := f3; have HW5 : Hid (Wo (fun k => k = p) w w5) := f4; clear f3 f4 f5 d1 d2 b5) | (go_at_call 67; refine (Tryz.ssFail α HS5.out i 183 (by decide)).mono ?_; rintro e w6 ⟨⟨v6, rfl⟩, g6, hw6, hc6⟩; clear hc6) | fail)
                all_goals go_ret
                all_goals exact ⟨_, rfl, fun e => (by rw [HX.out] at e; cases e), by omega, by rw [HX.out]; exact g6, HW5.out.trans hw6⟩
          · have qv : ((ver : Int) == 10) = false := by simp; omega
            have qv2 : ((ver : Int) == 11) = true := by simp; omega
            have qa : ¬ (ha : Int) > 1 := by omega
            have qa0 : ((ha : Int) == 0) = false := by simp; omega
            have qb1 : (hb : Int) > 0 := by omega
            have qc1 : (hc : Int) > 0 := by omega
            have qc4 : ((hc : Int) == 0) = false := by simp; omega
            have HX : Hid (X = (180, none)) := (by show X = _; rw [hrd]; rw [if_neg (n1), if_pos ⟨by omega, .inl (by omega)⟩])
            clear hrd hnn hns hgd
            try clear hv
            try clear hb0
            try clear hc0
            try clear ha0
            try clear hver
            try clear n1
            try clear n2
            try clear n3
            try clear n4
            try clear n5
            try clear hb2
            try clear hc2
            try clear ha2
            try clear hn0
            try clear hnm
            try clear hng
            go_enter Tryz.func73, Tryz.ntmps73
            go_upto_region 1 with (fail)
            rw [HBB.out, HW1.out, HGG.out]
            obtain ⟨r0, r1, r2, r3, r4, r5, r6⟩ := HLO.out W1 (Below.refl _ _)
            go_wp2_with (first | (go_at_call 94; refine hk0.mono ?_; clear hk0 r0 r1 r2 r3 r4 r5 r6; rintro e w1 ⟨rfl, b1⟩; have k2 := kb w1 b1; clear kb; obtain ⟨r0, r1, r2, r3, r4, r5, r6⟩ := HLO.out w1 b1) | (go_at_call 94; refine k2.mono ?_; clear k2 b1 r0 r1 r2 r3 r4 r5 r6; rintro e w2 ⟨rfl, b2⟩; have k3 := kl w2 b2; clear kl; obtain ⟨r0, r1, r2, r3, r4, r5, r6⟩ := HLO.out w2 b2) | (go_at_call 94; refine k3.mono ?_; clear k3 b2 r0 r1 r2 r3 r4 r5 r6; rintro e w3 ⟨rfl, b3⟩; obtain ⟨d1, d2, d3, d4, d5⟩ := H1.out w3 b3; have HS3 : Hid (Tryz.SS w3 p s st li (.ok a r i : Re α)) := d3; have HW3 : Hid (Wo (fun k => k = p) w w3) := d4; clear d3 d4 d5) | (go_at_call 95; refine (kln _).mono ?_; clear kln; rintro e w4 ⟨rfl, rfl⟩) | (go_at_call 67; refine (Tryz.ssFail α HS3.out i 180 (by decide)).mono ?_; rintro e w6 ⟨⟨v6, rfl⟩, g6, hw6, hc6⟩; clear hc6) | fail)
            all_goals go_ret
            all_goals exact ⟨_, rfl, fun e => (by rw [HX.out] at e; cases e), by omega, by rw [HX.out]; exact g6, HW3.out.trans hw6⟩
end Go.Proofs
