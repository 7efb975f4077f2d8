/-
  Laid together by packg.py of Yt Yu Yv Nl Nm.
-/
import Derived.Test.YtogimcdjllhkcaaGreatDoorPvE
import Derived.Lib.LazyBuf
namespace Go.Wb
def isTgt (l : List UInt8) : Bool := Lib.hasPrefix l [47] && decide (l.length ≤ 512) && l.all tgt
def countOf (L : List (List UInt8 × List UInt8)) (nm : List UInt8) : Nat := (L.filter fun h => h.1 == nm).length
theorem count_yes {L : List (List UInt8 × List UInt8)} {nm : List UInt8} {i : Nat} (hi : i < L.length) (h : (L[i].1 == nm) = true) : countOf (L.take (i + 1)) nm = countOf (L.take i) nm + 1 := by
  unfold countOf
  rw [List.take_add_one, List.getElem?_eq_getElem hi, List.filter_append, List.length_append]
  simp [h]
theorem count_no {L : List (List UInt8 × List UInt8)} {nm : List UInt8} {i : Nat} (hi : i < L.length) (h : (L[i].1 == nm) = false) : countOf (L.take (i + 1)) nm = countOf (L.take i) nm := by
  unfold countOf
  rw [List.take_add_one, List.getElem?_eq_getElem hi, List.filter_append, List.length_append]
  simp [h]
theorem count_le (L : List (List UInt8 × List UInt8)) (nm : List UInt8) (i : Nat) : countOf (L.take i) nm ≤ L.length := by
  unfold countOf
  exact Nat.le_trans (List.length_filter_le _ _) (by rw [List.length_take]; omega)
end Go.Wb
namespace Go.Proofs
open Go.RowKit Go.Wi Go.Wb
set_option maxRecDepth 20000 in
set_option maxHeartbeats 400000 in
theorem Tryz.countOf_any {w : World} {V : Value} {L : List (List UInt8 × List UInt8)} (h : Hs w V L) (nm : List UInt8) (hL : L.length ≤ 4611686018427387904) :
    Calls Tryz.prog 17 #[V, .string ⟨nm.toArray⟩] w fun e w' => e = .returned (.int .i64 (countOf L nm)) ∧ Below w.heap.size w w' := by
  obtain ⟨ad, cap, rfl, hx⟩ := h.ex
  clear h
  have HX : Hid (L = [] ∨ ∃ g o, ad = some ⟨g, o, none⟩ ∧ g < w.heap.size ∧ ∀ j (hj : j < L.length), w.cell? ⟨g, o + j * 2, none⟩ = some (.string ⟨L[j].1.toArray⟩) ∧ w.cell? ⟨g, o + j * 2 + 1, none⟩ = some (.string ⟨L[j].2.toArray⟩)) := hx
  clear hx
  go_enter Tryz.func17, Tryz.ntmps17
  go_wp2
  go_loopw [5, 7, 10] (fun nv _ iv wr => ∃ i : Nat, iv = .int .i64 i ∧ i ≤ L.length ∧ nv = .int .i64 (countOf (L.take i) nm) ∧ Below w.heap.size w wr) (fun _ _ iv _ => L.length - (intOf iv).toNat)
  case atStart => exact ⟨0, rfl, Nat.zero_le _, rfl, Below.refl _ _⟩
  case round =>
    obtain ⟨i, rfl, hi, rfl, hbel⟩ := hrel
    have HB : Hid (Below w.heap.size w wr) := hbel
    clear hbel
    by_cases hlt : i < L.length
    · have q : (i : Int) < (L.length : Int) := by omega
      obtain ⟨g, o, rfl, c0, c1⟩ : ∃ g o, ad = some ⟨g, o, none⟩ ∧ wr.cell? ⟨g, o + i * 2, none⟩ = some (.string ⟨L[i].1.toArray⟩) ∧ wr.cell? ⟨g, o + i * 2 + 1, none⟩ = some (.string ⟨L[i].2.toArray⟩) := by
        rcases HX.out with e | ⟨g, o, e, hg, hc⟩
        · rw [e] at hlt; cases hlt
        · exact ⟨g, o, e, (HB.out.cell (p := ⟨g, o + i * 2, none⟩) hg).trans (hc i hlt).1, (HB.out.cell (p := ⟨g, o + i * 2 + 1, none⟩) hg).trans (hc i hlt).2⟩
      have hcl := count_le L nm i
      have HY : Hid ((L[i].1 == nm) = true → countOf (L.take (i + 1)) nm = countOf (L.take i) nm + 1) := fun e => count_yes hlt e
      have HN : Hid ((L[i].1 == nm) = false → countOf (L.take (i + 1)) nm = countOf (L.take i) nm) := fun e => count_no hlt e
      generalize L[i].1 = n at *
      generalize L[i].2 = v at *
      have HA : Hid (Below w.heap.size w (wr.alloc (.cells #[.string ⟨n.toArray⟩, .string ⟨v.toArray⟩] 52))) := HB.out.alloc HB.out.size _
      cases hc : (n == nm) with
      | true =>
        have HE := HY.out hc
        have HEE : Hid _ := HE
        clear HE HY HN
        generalize countOf (L.take i) nm = s0 at *
        go_wp2
        go_roundw
        case rel => exact ⟨i + 1, by simp, by omega, by rw [HEE.out]; simp, HA.out⟩
        case measure => simp [intOf]; omega
      | false =>
        have HE := HN.out hc
        have HEE : Hid _ := HE
        clear HE HY HN
        generalize countOf (L.take i) nm = s0 at *
        go_wp2
        go_roundw
        case rel => exact ⟨i + 1, by simp, by omega, by rw [HEE.out], HA.out⟩
        case measure => simp [intOf]; omega
    · have q : ¬ (i : Int) < (L.length : Int) := by omega
      have HE : Hid (L.take i = L) := List.take_of_length_le (by omega)
      rw [HE.out]
      go_wp2
      go_ret
      exact ⟨rfl, HB.out⟩
set_option maxRecDepth 20000 in
set_option maxHeartbeats 400000 in
theorem Tryz.isTarget_any (l : List UInt8) (hl : l.length ≤ 9223372036854775807) (w : World) :
    Calls Tryz.prog 19 #[.string ⟨l.toArray⟩] w fun e w' => e = .returned (.bool (isTgt l)) ∧ w' = w := by
  have hp : Calls Tryz.prog 44 #[.string ⟨l.toArray⟩, .string ⟨#[47]⟩] w fun e w' => e = .returned (.bool (Lib.hasPrefix l [47])) ∧ w' = w := by
    have := Tryz.strings_HasPrefix ⟨l.toArray⟩ ⟨#[47]⟩ w
    simpa using this
  have ka := Tryz.allTgt_any l hl w
  have hsz := text_size l
  unfold isTgt
  cases h1 : Lib.hasPrefix l [47] with
  | false =>
    rw [h1] at hp
    go_enter Tryz.func19, Tryz.ntmps19
    go_wp2_with (first
      | (go_at_call 44; refine hp.mono ?_; clear hp; rintro e w1 ⟨rfl, rfl⟩)
      | fail)
    go_ret
    exact ⟨rfl, rfl⟩
  | true =>
    rw [h1] at hp
    by_cases h2 : l.length ≤ 512
    · have q : (l.length : Int) ≤ 512 := by omega
      rw [decide_eq_true h2]
      go_enter Tryz.func19, Tryz.ntmps19
      go_wp2_with (first
        | (go_at_call 44; refine hp.mono ?_; clear hp; rintro e w1 ⟨rfl, rfl⟩)
        | (go_at_call 42; refine ka.mono ?_; clear ka; rintro e w1 ⟨rfl, rfl⟩)
        | fail)
      go_ret
      exact ⟨rfl, rfl⟩
    · have q : ¬ (l.length : Int) ≤ 512 := by omega
      rw [decide_eq_false h2]
      go_enter Tryz.func19, Tryz.ntmps19
      go_wp2_with (first
        | (go_at_call 44; refine hp.mono ?_; clear hp; rintro e w1 ⟨rfl, rfl⟩)
        | fail)
      go_ret
      exact ⟨rfl, rfl⟩
end Go.Proofs
namespace Go.Wb
def sHome : List UInt8 := [104, 111, 109, 101]
def okReq (meth tg : List UInt8) (L : List (List UInt8 × List UInt8)) : Bool := isTok meth && isTgt tg && mayStand L && decide (countOf L wHost ≤ 1)
def hostH (L : List (List UInt8 × List UInt8)) : List (List UInt8 × List UInt8) := if countOf L wHost = 0 then [(wHost, sHome)] else []
def bodyH (dec : Int → List UInt8) (body : List UInt8) : List (List UInt8 × List UInt8) := if body = [] then [] else [(sCL, dec body.length)]
def rqHeads (dec : Int → List UInt8) (L : List (List UInt8 × List UInt8)) (body : List UInt8) (last : Bool) : List (List UInt8 × List UInt8) := hostH L ++ L ++ bodyH dec body ++ (if last then [(sCo, wClose)] else [])
def rqLine (meth tg : List UInt8) : List UInt8 := meth ++ [32] ++ tg ++ [32] ++ wNewer
theorem cat5 (a b : List UInt8) : (⟨a.toArray⟩ : ByteArray) ++ ⟨#[32]⟩ ++ ⟨b.toArray⟩ ++ ⟨#[32]⟩ ++ ⟨#[72, 84, 84, 80, 47, 49, 46, 49]⟩ = ⟨(rqLine a b).toArray⟩ := by
  apply ByteArray.ext
  simp [ByteArray.data_append, rqLine, wNewer]
end Go.Wb
namespace Go.Proofs
open Go.RowKit Go.Wi Go.Wb
set_option maxHeartbeats 400000 in
/-- slices.Concat of a row of four. -/
theorem Tryz.concat4 {w : World} {V1 V2 V3 V4 : Value} {A L K M : List (List UInt8 × List UInt8)} (h0 : Hs w V1 A) (h1 : Hs w V2 L) (h2 : Hs w V3 K) (h3 : Hs w V4 M) (ht : A.length + L.length + K.length + M.length ≤ 4398046511104) :
    Calls Tryz.prog 23 #[.slice (some ⟨w.heap.size, 0, none⟩) 4 4] (w.alloc (.cells #[V1, V2, V3, V4] 22)) fun e w' => ∃ R, e = .returned R ∧ Hs w' R (A ++ L ++ K ++ M) ∧ Below w.heap.size w w' := by
  have hn : (w.alloc (.cells #[V1, V2, V3, V4] 22)).heap[w.heap.size]? = some (.cells #[V1, V2, V3, V4] 22 (0, 0)) := heap_alloc_new w _
  have hb : Below w.heap.size w (w.alloc (.cells #[V1, V2, V3, V4] 22)) := (Below.refl _ w).alloc (Nat.le_refl _) _
  have e1 : cat [(V1, A), (V2, L), (V3, K), (V4, M)] = A ++ L ++ K ++ M := by simp [cat]
  have e2 : tot [(V1, A), (V2, L), (V3, K), (V4, M)] = A.length + L.length + K.length + M.length := by simp [tot]; omega
  refine (Tryz.concat_any (c := 4) (block_lt hn) [(V1, A), (V2, L), (V3, K), (V4, M)] (by simp) ?_ ?_ (by rw [e2]; exact ht)).mono ?_
  · intro j hj
    rw [cell_of_row _ _ _ _ _ _ hn]
    match j, hj with
    | 0, _ => rfl
    | 1, _ => rfl
    | 2, _ => rfl
    | 3, _ => rfl
  · intro p hp
    simp only [List.mem_cons, List.not_mem_nil, or_false] at hp
    rcases hp with rfl | rfl | rfl | rfl
    · exact h0.below hb
    · exact h1.below hb
    · exact h2.below hb
    · exact h3.below hb
  · rintro e w' ⟨R, rfl, hr, hb'⟩
    rw [e1] at hr
    exact ⟨R, rfl, Hs.ofRow hr, hb.trans (hb'.mono hb.size)⟩
set_option maxRecDepth 20000 in
set_option maxHeartbeats 2000000 in
theorem Tryz.printRequest_no {w : World} {V Y : Value} {L : List (List UInt8 × List UInt8)} {body : List UInt8} (meth tg : List UInt8) (last : Bool) (hV : Hs w V L) (hY : Bs w Y body) (hm : meth.length ≤ 140737488355328) (htg : tg.length ≤ 140737488355328) (hl : ∀ x ∈ L, x.1.length ≤ 140737488355328 ∧ x.2.length ≤ 140737488355328) (hL : L.length ≤ 4398046511000) (hno : okReq meth tg L = false) :
    Calls Tryz.prog 6 #[.agg #[.string ⟨meth.toArray⟩, .string ⟨tg.toArray⟩, V, Y, .bool last]] w fun e w' => e = .returned (.tuple #[.slice none 0 0, .int .i64 180]) ∧ Below w.heap.size w w' := by
  obtain ⟨adV, capV, eV, -⟩ := hV.ex
  subst eV
  obtain ⟨adY, capY, eY, -⟩ := hY.ex
  subst eY
  have hA : Below w.heap.size w (w.alloc (.cells #[.string ⟨meth.toArray⟩, .string ⟨tg.toArray⟩, .slice adV L.length capV, .slice adY body.length capY, .bool last] 28)) := (Below.refl _ w).alloc (Nat.le_refl _) _
  have hsz : (w.alloc (.cells #[.string ⟨meth.toArray⟩, .string ⟨tg.toArray⟩, .slice adV L.length capV, .slice adY body.length capY, .bool last] 28)).heap.size = w.heap.size + 1 := by simp
  have kc := Tryz.countOf_any (hV.below hA) wHost (by omega)
  have HC : Hid (∀ W, Below (w.heap.size + 1) (w.alloc (.cells #[.string ⟨meth.toArray⟩, .string ⟨tg.toArray⟩, .slice adV L.length capV, .slice adY body.length capY, .bool last] 28)) W → W.cell? ⟨w.heap.size, 0, none⟩ = some (.string ⟨meth.toArray⟩) ∧ W.cell? ⟨w.heap.size, 1, none⟩ = some (.string ⟨tg.toArray⟩) ∧ W.cell? ⟨w.heap.size, 2, none⟩ = some (.slice adV L.length capV)) := fun W hW => by
    have hn := heap_alloc_new w (.cells #[.string ⟨meth.toArray⟩, .string ⟨tg.toArray⟩, .slice adV L.length capV, .slice adY body.length capY, .bool last] 28)
    exact ⟨(hW.cell (p := ⟨w.heap.size, 0, none⟩) (Nat.lt_succ_self _)).trans (cell_of_row _ _ 0 _ _ _ hn), (hW.cell (p := ⟨w.heap.size, 1, none⟩) (Nat.lt_succ_self _)).trans (cell_of_row _ _ 1 _ _ _ hn), (hW.cell (p := ⟨w.heap.size, 2, none⟩) (Nat.lt_succ_self _)).trans (cell_of_row _ _ 2 _ _ _ hn)⟩
  have KM : Hid (∀ W, Below w.heap.size w W → Calls Tryz.prog 20 #[.slice adV L.length capV] W fun e w' => e = .returned (.bool (mayStand L)) ∧ Below W.heap.size W w') := fun W hW => Tryz.mayStand_any (hV.below hW) (by omega) hl
  have k1 := Tryz.isToken_any meth (by omega)
  have k2 := Tryz.isTarget_any tg (by omega)
  have HA : Hid _ := hA
  have HS : Hid _ := hsz
  have HNO : Hid (okReq meth tg L = (isTok meth && isTgt tg && mayStand L && decide (countOf L wHost ≤ 1))) := rfl
  have hno2 := hno
  rw [HNO.out] at hno2
  have hcl : countOf L wHost ≤ L.length := by have := count_le L wHost L.length; rw [List.take_length] at this; exact this
  clear hA hsz hV hY hl HNO hno
  generalize isTok meth = b1 at *
  generalize isTgt tg = b2 at *
  generalize mayStand L = b3 at *
  generalize countOf L wHost = n at *
  cases b1 with
  | false =>
    go_enter Tryz.func6, Tryz.ntmps6
    go_wp2_with (first
      | (go_at_call 17; refine kc.mono ?_; clear kc; rintro e w1 ⟨rfl, hb1⟩; rw [HS.out] at hb1; obtain ⟨c0, c1, c2⟩ := HC.out w1 hb1; have hB1 := HA.out.trans (hb1.mono (Nat.le_succ _)); have km := KM.out w1 hB1)
      | (go_at_call 18; refine (k1 _).mono ?_; rintro e w2 ⟨rfl, rfl⟩)
      | (go_at_call 19; refine (k2 _).mono ?_; rintro e w2 ⟨rfl, rfl⟩)
      | (go_at_call 20; refine km.mono ?_; clear km; rintro e w3 ⟨rfl, hb3⟩)
      | fail)
    go_ret2
    exact ⟨rfl, hB1⟩
  | true =>
  cases b2 with
  | false =>
    go_enter Tryz.func6, Tryz.ntmps6
    go_wp2_with (first
      | (go_at_call 17; refine kc.mono ?_; clear kc; rintro e w1 ⟨rfl, hb1⟩; rw [HS.out] at hb1; obtain ⟨c0, c1, c2⟩ := HC.out w1 hb1; have hB1 := HA.out.trans (hb1.mono (Nat.le_succ _)); have km := KM.out w1 hB1)
      | (go_at_call 18; refine (k1 _).mono ?_; rintro e w2 ⟨rfl, rfl⟩)
      | (go_at_call 19; refine (k2 _).mono ?_; rintro e w2 ⟨rfl, rfl⟩)
      | (go_at_call 20; refine km.mono ?_; clear km; rintro e w3 ⟨rfl, hb3⟩)
      | fail)
    go_ret2
    exact ⟨rfl, hB1⟩
  | true =>
  cases b3 with
  | false =>
    go_enter Tryz.func6, Tryz.ntmps6
    go_wp2_with (first
      | (go_at_call 17; refine kc.mono ?_; clear kc; rintro e w1 ⟨rfl, hb1⟩; rw [HS.out] at hb1; obtain ⟨c0, c1, c2⟩ := HC.out w1 hb1; have hB1 := HA.out.trans (hb1.mono (Nat.le_succ _)); have km := KM.out w1 hB1)
      | (go_at_call 18; refine (k1 _).mono ?_; rintro e w2 ⟨rfl, rfl⟩)
      | (go_at_call 19; refine (k2 _).mono ?_; rintro e w2 ⟨rfl, rfl⟩)
      | (go_at_call 20; refine km.mono ?_; clear km; rintro e w3 ⟨rfl, hb3⟩)
      | fail)
    go_ret2
    exact ⟨rfl, hB1.trans (hb3.mono hB1.size)⟩
  | true =>
    have hn : ¬ n ≤ 1 := by simpa using hno2
    have qn : (n : Int) > 1 := by omega
    go_enter Tryz.func6, Tryz.ntmps6
    go_wp2_with (first
      | (go_at_call 17; refine kc.mono ?_; clear kc; rintro e w1 ⟨rfl, hb1⟩; rw [HS.out] at hb1; obtain ⟨c0, c1, c2⟩ := HC.out w1 hb1; have hB1 := HA.out.trans (hb1.mono (Nat.le_succ _)); have km := KM.out w1 hB1)
      | (go_at_call 18; refine (k1 _).mono ?_; rintro e w2 ⟨rfl, rfl⟩)
      | (go_at_call 19; refine (k2 _).mono ?_; rintro e w2 ⟨rfl, rfl⟩)
      | (go_at_call 20; refine km.mono ?_; clear km; rintro e w3 ⟨rfl, hb3⟩)
      | fail)
    go_ret2
    exact ⟨rfl, hB1.trans (hb3.mono hB1.size)⟩
end Go.Proofs
namespace Go.Proofs
open Go.RowKit Go.Wi Go.Wb
set_option maxRecDepth 20000 in
set_option maxHeartbeats 2000000 in
theorem Tryz.printRequest_big {w : World} {V Y : Value} {L : List (List UInt8 × List UInt8)} {body : List UInt8} (meth tg : List UInt8) (last : Bool) (hV : Hs w V L) (hY : Bs w Y body) (hm : meth.length ≤ 140737488355328) (htg : tg.length ≤ 140737488355328) (hl : ∀ x ∈ L, x.1.length ≤ 140737488355328 ∧ x.2.length ≤ 140737488355328) (hL : L.length ≤ 4398046511000) (hb0 : body.length ≤ 9223372036854775807) (hyes : okReq meth tg L = true) (hbig : 6000 < body.length) :
    Calls Tryz.prog 6 #[.agg #[.string ⟨meth.toArray⟩, .string ⟨tg.toArray⟩, V, Y, .bool last]] w fun e w' => e = .returned (.tuple #[.slice none 0 0, .int .i64 182]) ∧ Below w.heap.size w w' := by
  obtain ⟨adV, capV, eV, -⟩ := hV.ex
  subst eV
  obtain ⟨adY, capY, eY, -⟩ := hY.ex
  subst eY
  have hA : Below w.heap.size w (w.alloc (.cells #[.string ⟨meth.toArray⟩, .string ⟨tg.toArray⟩, .slice adV L.length capV, .slice adY body.length capY, .bool last] 28)) := (Below.refl _ w).alloc (Nat.le_refl _) _
  have hsz : (w.alloc (.cells #[.string ⟨meth.toArray⟩, .string ⟨tg.toArray⟩, .slice adV L.length capV, .slice adY body.length capY, .bool last] 28)).heap.size = w.heap.size + 1 := by simp
  have kc := Tryz.countOf_any (hV.below hA) wHost (by omega)
  have HC : Hid (∀ W, Below (w.heap.size + 1) (w.alloc (.cells #[.string ⟨meth.toArray⟩, .string ⟨tg.toArray⟩, .slice adV L.length capV, .slice adY body.length capY, .bool last] 28)) W → W.cell? ⟨w.heap.size, 0, none⟩ = some (.string ⟨meth.toArray⟩) ∧ W.cell? ⟨w.heap.size, 1, none⟩ = some (.string ⟨tg.toArray⟩) ∧ W.cell? ⟨w.heap.size, 2, none⟩ = some (.slice adV L.length capV) ∧ W.cell? ⟨w.heap.size, 3, none⟩ = some (.slice adY body.length capY) ∧ W.cell? ⟨w.heap.size, 4, none⟩ = some (.bool last)) := fun W hW => by
    have hn := heap_alloc_new w (.cells #[.string ⟨meth.toArray⟩, .string ⟨tg.toArray⟩, .slice adV L.length capV, .slice adY body.length capY, .bool last] 28)
    exact ⟨(hW.cell (p := ⟨w.heap.size, 0, none⟩) (Nat.lt_succ_self _)).trans (cell_of_row _ _ 0 _ _ _ hn), (hW.cell (p := ⟨w.heap.size, 1, none⟩) (Nat.lt_succ_self _)).trans (cell_of_row _ _ 1 _ _ _ hn), (hW.cell (p := ⟨w.heap.size, 2, none⟩) (Nat.lt_succ_self _)).trans (cell_of_row _ _ 2 _ _ _ hn), (hW.cell (p := ⟨w.heap.size, 3, none⟩) (Nat.lt_succ_self _)).trans (cell_of_row _ _ 3 _ _ _ hn), (hW.cell (p := ⟨w.heap.size, 4, none⟩) (Nat.lt_succ_self _)).trans (cell_of_row _ _ 4 _ _ _ hn)⟩
  have KM : Hid (∀ W, Below w.heap.size w W → Calls Tryz.prog 20 #[.slice adV L.length capV] W fun e w' => e = .returned (.bool (mayStand L)) ∧ Below W.heap.size W w') := fun W hW => Tryz.mayStand_any (hV.below hW) (by omega) hl
  have k1 := Tryz.isToken_any meth (by omega)
  have k2 := Tryz.isTarget_any tg (by omega)
  have HA : Hid _ := hA
  have HS : Hid _ := hsz
  have hn0 := hyes
  unfold okReq at hn0
  simp only [Bool.and_eq_true, decide_eq_true_eq] at hn0
  obtain ⟨⟨⟨e1, e2⟩, e3⟩, e4⟩ := hn0
  rw [e1] at k1
  rw [e2] at k2
  rw [e3] at KM
  have qn : ¬ ((countOf L wHost : Nat) : Int) > 1 := by omega
  have qb : (body.length : Int) > 6000 := by omega
  clear hA hsz hV hY hl hyes e1 e2 e3
  generalize countOf L wHost = n at *
  go_enter Tryz.func6, Tryz.ntmps6
  go_wp2_with (first
    | (go_at_call 17; refine kc.mono ?_; clear kc; rintro e w1 ⟨rfl, hb1⟩; rw [HS.out] at hb1; obtain ⟨c0, c1, c2, c3, c4⟩ := HC.out w1 hb1; have hB1 := HA.out.trans (hb1.mono (Nat.le_succ _)); have km := KM.out w1 hB1)
    | (go_at_call 18; refine (k1 _).mono ?_; rintro e w2 ⟨rfl, rfl⟩)
    | (go_at_call 19; refine (k2 _).mono ?_; rintro e w2 ⟨rfl, rfl⟩)
    | (go_at_call 20; refine km.mono ?_; clear km; rintro e w3 ⟨rfl, hb3⟩; have hX3 := hb1.trans (hb3.mono (by have := hb1.size; rw [HS.out] at this; exact this)); have hB3 := hB1.trans (hb3.mono hB1.size); obtain ⟨d0, d1, d2, d3, d4⟩ := HC.out w3 hX3)
    | fail)
  go_ret2
  exact ⟨rfl, hB3⟩
set_option maxRecDepth 20000 in
set_option maxHeartbeats 4000000 in
theorem Tryz.printRequest_yes {w : World} {V Y : Value} {L : List (List UInt8 × List UInt8)} {body : List UInt8} (dec : Int → List UInt8) (meth tg : List UInt8) (last : Bool) (hV : Hs w V L) (hY : Bs w Y body) (hm : meth.length ≤ 140737488351232) (htg : tg.length ≤ 140737488355328) (hl : ∀ x ∈ L, x.1.length ≤ 140737488355328 ∧ x.2.length ≤ 140737488355328) (hL : L.length ≤ 4398046511000) (hYl : ∀ k, Y.ownBlock = some k → k < w.heap.size)
    (hI : ∀ (n : Int) W, 0 ≤ n → n ≤ 9223372036854775807 → Below w.heap.size w W → Calls Tryz.prog 32 #[.int .i64 n] W fun e w' => e = .returned (.string ⟨(dec n).toArray⟩) ∧ Below W.heap.size W w') (hd : ∀ n : Int, 0 ≤ n → n ≤ 9223372036854775807 → (dec n).length ≤ 30) (hyes : okReq meth tg L = true) (hbig : body.length ≤ 6000) :
    Calls Tryz.prog 6 #[.agg #[.string ⟨meth.toArray⟩, .string ⟨tg.toArray⟩, V, Y, .bool last]] w fun e w' => Tryz.Prd w w' (rqLine meth tg) (rqHeads dec L body last) body e := by
  obtain ⟨adV, capV, eV, -⟩ := hV.ex
  subst eV
  obtain ⟨adY, capY, eY, -⟩ := hY.ex
  subst eY
  have hA : Below w.heap.size w (w.alloc (.cells #[.string ⟨meth.toArray⟩, .string ⟨tg.toArray⟩, .slice adV L.length capV, .slice adY body.length capY, .bool last] 28)) := (Below.refl _ w).alloc (Nat.le_refl _) _
  have hsz : (w.alloc (.cells #[.string ⟨meth.toArray⟩, .string ⟨tg.toArray⟩, .slice adV L.length capV, .slice adY body.length capY, .bool last] 28)).heap.size = w.heap.size + 1 := by simp
  have kc := Tryz.countOf_any (hV.below hA) wHost (by omega)
  have HC : Hid (∀ W, Below (w.heap.size + 1) (w.alloc (.cells #[.string ⟨meth.toArray⟩, .string ⟨tg.toArray⟩, .slice adV L.length capV, .slice adY body.length capY, .bool last] 28)) W → W.cell? ⟨w.heap.size, 0, none⟩ = some (.string ⟨meth.toArray⟩) ∧ W.cell? ⟨w.heap.size, 1, none⟩ = some (.string ⟨tg.toArray⟩) ∧ W.cell? ⟨w.heap.size, 2, none⟩ = some (.slice adV L.length capV) ∧ W.cell? ⟨w.heap.size, 3, none⟩ = some (.slice adY body.length capY) ∧ W.cell? ⟨w.heap.size, 4, none⟩ = some (.bool last)) := fun W hW => by
    have hn := heap_alloc_new w (.cells #[.string ⟨meth.toArray⟩, .string ⟨tg.toArray⟩, .slice adV L.length capV, .slice adY body.length capY, .bool last] 28)
    exact ⟨(hW.cell (p := ⟨w.heap.size, 0, none⟩) (Nat.lt_succ_self _)).trans (cell_of_row _ _ 0 _ _ _ hn), (hW.cell (p := ⟨w.heap.size, 1, none⟩) (Nat.lt_succ_self _)).trans (cell_of_row _ _ 1 _ _ _ hn), (hW.cell (p := ⟨w.heap.size, 2, none⟩) (Nat.lt_succ_self _)).trans (cell_of_row _ _ 2 _ _ _ hn), (hW.cell (p := ⟨w.heap.size, 3, none⟩) (Nat.lt_succ_self _)).trans (cell_of_row _ _ 3 _ _ _ hn), (hW.cell (p := ⟨w.heap.size, 4, none⟩) (Nat.lt_succ_self _)).trans (cell_of_row _ _ 4 _ _ _ hn)⟩
  have KM : Hid (∀ W, Below w.heap.size w W → Calls Tryz.prog 20 #[.slice adV L.length capV] W fun e w' => e = .returned (.bool (mayStand L)) ∧ Below W.heap.size W w') := fun W hW => Tryz.mayStand_any (hV.below hW) (by omega) hl
  have k1 := Tryz.isToken_any meth (by omega)
  have k2 := Tryz.isTarget_any tg (by omega)
  have HA : Hid _ := hA
  have HS : Hid _ := hsz
  have hn0 := hyes
  unfold okReq at hn0
  simp only [Bool.and_eq_true, decide_eq_true_eq] at hn0
  obtain ⟨⟨⟨e1, e2⟩, e3⟩, e4⟩ := hn0
  rw [e1] at k1
  rw [e2] at k2
  rw [e3] at KM
  have htl : tg.length ≤ 512 := by
    have := e2
    unfold isTgt at this
    simp only [Bool.and_eq_true, decide_eq_true_eq] at this
    exact this.1.2
  have qn : ¬ ((countOf L wHost : Nat) : Int) > 1 := by omega
  have qb : ¬ (body.length : Int) > 6000 := by omega
  have HHOST : Hid (hostH L = if countOf L wHost = 0 then [(wHost, sHome)] else []) := rfl
  have HBODY : Hid (bodyH dec body = if body = [] then [] else [(sCL, dec body.length)]) := rfl
  have kl : ∀ W, Below w.heap.size w W → Calls Tryz.prog 21 #[.slice adY body.length capY] W fun e w' => ∃ V, e = .returned V ∧ Hs w' V [(sCL, dec body.length)] ∧ Below W.heap.size W w' := fun W hW =>
    Tryz.lengthOf_any (.slice adY body.length capY) body.length (dec body.length) ⟨_, _, rfl⟩ (by omega) fun W2 hW2 => hI _ W2 (by omega) (by omega) (hW.trans (hW2.mono hW.size))
  have HV : Hid (Hs w (.slice adV L.length capV) L) := hV
  have HY : Hid (∀ W, Below w.heap.size w W → Bs W (.slice adY body.length capY) body) := fun W hW => hY.below hW hYl
  have HYL : Hid (∀ k, (Value.slice adY body.length capY).ownBlock = some k → k < w.heap.size) := hYl
  have HL : Hid _ := hl
  have hdb := hd body.length (by omega) (by omega)
  clear hA hsz hV hY hl hyes e1 e2 e3 hI hd hYl
  go_enter Tryz.func6, Tryz.ntmps6
  go_upto_if 36 with (first
    | (go_at_call 17; refine kc.mono ?_; clear kc; rintro e w1 ⟨rfl, hb1⟩; rw [HS.out] at hb1; obtain ⟨c0, c1, c2, c3, c4⟩ := HC.out w1 hb1; have hB1 := HA.out.trans (hb1.mono (Nat.le_succ _)); have km := KM.out w1 hB1)
    | (go_at_call 18; refine (k1 _).mono ?_; rintro e w2 ⟨rfl, rfl⟩)
    | (go_at_call 19; refine (k2 _).mono ?_; rintro e w2 ⟨rfl, rfl⟩)
    | (go_at_call 20; refine km.mono ?_; clear km; rintro e w3 ⟨rfl, hb3⟩; have hX3 := hb1.trans (hb3.mono (by have := hb1.size; rw [HS.out] at this; exact this)); have hB3 := hB1.trans (hb3.mono hB1.size); obtain ⟨d0, d1, d2, d3, d4⟩ := HC.out w3 hX3)
    | fail)
  have HB3 : Hid _ := hB3
  have HX3 : Hid _ := hX3
  clear hb1 hb3 hB1 hB3 hX3 c0 c1 c2 c3 c4 d0 d1 d2 d3 d4
  go_cut [5] (fun fv wx => ∃ ad cap, fv = .slice ad (hostH L).length cap ∧ Hs wx fv (hostH L) ∧ Below w3.heap.size w3 wx)
  case first =>
    go_wp2
    · go_meet
      have hz : countOf L wHost = 0 := by
        have h1 : (((countOf L wHost : Nat) : Int) == 0) = true := (by assumption)
        have h2 : ((countOf L wHost : Nat) : Int) = 0 := by simpa using h1
        omega
      have e : hostH L = [(wHost, sHome)] := by rw [HHOST.out, if_pos hz]
      have hn := heap_alloc_new w3 (.cells #[.string ⟨#[104, 111, 115, 116]⟩, .string ⟨#[104, 111, 109, 101]⟩] 52)
      rw [e]
      refine ⟨_, _, rfl, ⟨⟨_, _, rfl, .inr ⟨_, 0, rfl, block_lt hn, fun j hj => ?_⟩⟩, .inr ⟨_, _, _, rfl⟩⟩, (Below.refl _ w3).alloc (Nat.le_refl _) _⟩
      obtain rfl : j = 0 := by simp at hj; omega
      exact ⟨by rw [cell_of_row _ _ _ _ _ _ hn]; rfl, by rw [cell_of_row _ _ _ _ _ _ hn]; rfl⟩
    · go_meet
      have hz : ¬ countOf L wHost = 0 := by
        have h1 : (((countOf L wHost : Nat) : Int) == 0) = false := (by assumption)
        have h2 : ¬ ((countOf L wHost : Nat) : Int) = 0 := by simpa using h1
        omega
      have e : hostH L = [] := by rw [HHOST.out, if_neg hz]
      rw [e]
      exact ⟨_, _, rfl, ⟨⟨none, 0, rfl, .inl rfl⟩, .inl rfl⟩, Below.refl _ _⟩
  case rest =>
  obtain ⟨ad5, cap5, rfl, hH5, hb5⟩ := hcut
  have hX5 := HX3.out.trans (hb5.mono (by have := HX3.out.size; rw [HS.out] at this; exact this))
  have hB5 := HB3.out.trans (hb5.mono HB3.out.size)
  obtain ⟨c0, c1, c2, c3, c4⟩ := HC.out wc hX5
  have HX5 : Hid _ := hX5
  have HB5 : Hid _ := hB5
  have HH5 : Hid (Hs wc (.slice ad5 (hostH L).length cap5) (hostH L)) := hH5
  clear hb5 hX5 hB5 hH5 HX3 HB3
  have kl5 := kl wc HB5.out
  clear kl
  go_upto_if 42 with (fail)
  go_cut [6] (fun fv wx => ∃ ad cap, fv = .slice ad (bodyH dec body).length cap ∧ Hs wx fv (bodyH dec body) ∧ Below wc.heap.size wc wx)
  case first =>
    go_wp2_with (first
      | (go_at_call 21; refine kl5.mono ?_; clear kl5; rintro e w6 ⟨V6, rfl, hV6, hb6⟩)
      | fail)
    · go_meet
      have hz : body ≠ [] := fun e0 => by
        have h1 : 0 < body.length := (by assumption)
        rw [e0] at h1
        cases h1
      have e : bodyH dec body = [(sCL, dec body.length)] := by rw [HBODY.out, if_neg hz]
      rw [e]
      obtain ⟨ad, cap, e2, -⟩ := hV6.ex
      exact ⟨ad, cap, e2, hV6, hb6⟩
    · go_meet
      have hz : body = [] := by
        have h1 : ¬ 0 < body.length := (by assumption)
        exact List.eq_nil_of_length_eq_zero (by omega)
      have e : bodyH dec body = [] := by rw [HBODY.out, if_pos hz]
      rw [e]
      exact ⟨_, _, rfl, ⟨⟨none, 0, rfl, .inl rfl⟩, .inl rfl⟩, Below.refl _ _⟩
  case rest =>
  obtain ⟨ad6, cap6, rfl, hH6, hb6⟩ := hcut
  obtain ⟨wX, hwX⟩ : ∃ x, x = wc := ⟨wc, rfl⟩
  subst hwX
  have hX6 := HX5.out.trans (hb6.mono (by have := HX5.out.size; rw [HS.out] at this; exact this))
  have hB6 := HB5.out.trans (hb6.mono HB5.out.size)
  obtain ⟨f0, f1, f2, f3, f4⟩ := HC.out _ hX6
  have HK : Hid (∀ W, Below wX.heap.size wX W → W.cell? ⟨w.heap.size, 2, none⟩ = some (.slice adV L.length capV) ∧ W.cell? ⟨w.heap.size, 3, none⟩ = some (.slice adY body.length capY) ∧ W.cell? ⟨w.heap.size, 4, none⟩ = some (.bool last)) := fun W hW => (HC.out W (hX6.trans (hW.mono (by have := hX6.size; rw [HS.out] at this; exact this)))).2.2
  have HB6 : Hid (Below w.heap.size w wX) := hB6
  have HV6 : Hid (Hs wX (.slice adV L.length capV) L) := HV.out.below hB6
  have HH6 : Hid (Hs wX (.slice ad6 (bodyH dec body).length cap6) (bodyH dec body)) := hH6
  have HA5 : Hid (Hs wX (.slice ad5 (hostH L).length cap5) (hostH L)) := HH5.out.below hb6
  have a1 : ¬ 9223372036854775807 < meth.length + 1 := by omega
  have a2 : ¬ 9223372036854775807 < meth.length + 1 + tg.length := by omega
  have a3 : ¬ 9223372036854775807 < meth.length + 1 + tg.length + 1 := by omega
  have a4 : ¬ 9223372036854775807 < meth.length + 1 + tg.length + 1 + 8 := by omega
  have hlA : (hostH L).length ≤ 1 := by rw [HHOST.out]; split <;> simp
  have hlB : (bodyH dec body).length ≤ 1 := by rw [HBODY.out]; split <;> simp
  have hlM : (if last then [(sCo, wClose)] else [] : List (List UInt8 × List UInt8)).length ≤ 1 := by split <;> simp
  have HLA : Hid (∀ x ∈ hostH L ++ L ++ bodyH dec body ++ (if last then [(sCo, wClose)] else []), x.1.length ≤ 140737488355328 ∧ x.2.length ≤ 140737488355328) := fun x hx => by
    rcases List.mem_append.1 hx with hx | hx
    · rcases List.mem_append.1 hx with hx | hx
      · rcases List.mem_append.1 hx with hx | hx
        · rw [HHOST.out] at hx
          split at hx
          · rw [List.mem_singleton.1 hx]; exact ⟨by decide, by decide⟩
          · cases hx
        · exact HL.out x hx
      · rw [HBODY.out] at hx
        split at hx
        · cases hx
        · rw [List.mem_singleton.1 hx]; exact ⟨by show (14 : Nat) ≤ _; omega, by show (dec body.length).length ≤ _; omega⟩
    · split at hx
      · rw [List.mem_singleton.1 hx]; exact ⟨by decide, by decide⟩
      · cases hx
  have HPH : Hid (rqHeads dec L body last = hostH L ++ L ++ bodyH dec body ++ (if last then [(sCo, wClose)] else [])) := rfl
  have HLL : Hid ((rqLine meth tg).length ≤ 140737488355328) := (by show (rqLine meth tg).length ≤ _; unfold rqLine; simp only [List.length_append, List.length_cons, List.length_nil]; have : wNewer.length = 8 := rfl; omega)
  clear c0 c1 c2 c3 c4 hX6 hB6 hH6 hb6 kl5 HX5 HB5 HH5 HV
  go_upto_region 12 with (fail)
  rw [cat5]
  generalize hLN : rqLine meth tg = LN at *
  have HLNE : Hid (rqLine meth tg = LN) := hLN
  clear hLN a1 a2 a3 a4 f0 f1
  have HBY : Hid (body.length ≤ 140737488351232) := (by show body.length ≤ _; omega)
  have HTT : Hid ((hostH L).length + L.length + (bodyH dec body).length + (if last then [(sCo, wClose)] else [] : List (List UInt8 × List UInt8)).length ≤ 4398046511104) := (by show _ ≤ _; omega)
  have kLa := Tryz.lastOf_any last
  generalize (if last then [(sCo, wClose)] else [] : List (List UInt8 × List UInt8)) = LA at *
  generalize hostH L = HO at *
  generalize bodyH dec body = BO at *
  clear hlA hlB hlM
  go_region_held3 (fun W => W.cell? ⟨w.heap.size, 2, none⟩ = some (.slice adV L.length capV) ∧ W.cell? ⟨w.heap.size, 3, none⟩ = some (.slice adY body.length capY) ∧ W.cell? ⟨w.heap.size, 4, none⟩ = some (.bool last)) (first | exact ⟨f2, f3, f4⟩ | exact dd | exact hal _ | exact gg | exact jj) (first
    | (go_at_call 24; refine (kLa _).mono ?_; rintro e w7 ⟨V7, rfl, hV7, hb7⟩; obtain ⟨a7, c7, e7, -⟩ := hV7.ex; subst e7; have hB7 : Below wX.heap.size wX w7 := ((Below.refl _ wX).drew).trans hb7; have dd := HK.out w7 hB7; have hal : ∀ o, (w7.alloc o).cell? ⟨w.heap.size, 2, none⟩ = some (.slice adV L.length capV) ∧ (w7.alloc o).cell? ⟨w.heap.size, 3, none⟩ = some (.slice adY body.length capY) ∧ (w7.alloc o).cell? ⟨w.heap.size, 4, none⟩ = some (.bool last) := (fun o => HK.out _ (hB7.alloc hB7.size o)); have kc4 := Tryz.concat4 (HA5.out.below hB7) (HV6.out.below hB7) (HH6.out.below hB7) hV7 HTT.out; have HB7 : Hid _ := hB7; clear hb7 hB7 hV7)
    | (go_at_call 23; refine kc4.mono ?_; clear kc4; rintro e w8 ⟨V8, rfl, hH8, hb8⟩; have hB8 : Below wX.heap.size wX w8 := HB7.out.trans (hb8.mono HB7.out.size); have gg := HK.out w8 hB8; have kp := Tryz.printed_any hH8 (HY.out w8 (HB6.out.trans (hB8.mono HB6.out.size))) (fun k e => Nat.lt_of_lt_of_le (HYL.out k e) (Nat.le_trans HB6.out.size hB8.size)) LN HLL.out HLA.out (by rw [List.length_append, List.length_append, List.length_append]; have := HTT.out; omega) HBY.out; obtain ⟨a8, c8, e8, -⟩ := hH8.ex; obtain ⟨n8, hn8⟩ : ∃ n, n = (HO ++ L ++ BO ++ LA).length := ⟨_, rfl⟩; rw [← hn8] at e8; subst e8; clear hn8; have HB8 : Hid _ := hB8; clear hb8 hB8 hH8)
    | (go_at_call 22; refine kp.mono ?_; clear kp; rintro e w9 ⟨hb9, h9⟩; have hB9 : Below wX.heap.size wX w9 := HB8.out.trans (hb9.mono HB8.out.size); have jj := HK.out w9 hB9; obtain ⟨R9, n9, rfl, h10⟩ : ∃ R n, e = .returned (.tuple #[R, .int .i64 n]) ∧ ((printedOk LN (HO ++ L ++ BO ++ LA) ∧ n = 0 ∧ Og w9 w8.heap.size R (printedT LN (HO ++ L ++ BO ++ LA) body)) ∨ (¬ printedOk LN (HO ++ L ++ BO ++ LA) ∧ R = .slice none 0 0 ∧ n = 181)) := (by rcases h9 with ⟨q1, R, q2, q3⟩ | ⟨q1, q2⟩; exact ⟨R, 0, q2, .inl ⟨q1, rfl, q3⟩⟩; exact ⟨_, 181, q2, .inr ⟨q1, rfl, rfl⟩⟩); have H10 : Hid _ := h10; have HB9 : Hid _ := hB9; clear h9 hb9 h10 hB9)
    | fail)
  go_wp2
  go_ret2
  rw [HPH.out, HLNE.out]
  refine ⟨HB6.out.trans (HB9.out.mono HB6.out.size), ?_⟩
  rcases H10.out with ⟨q1, rfl, q3⟩ | ⟨q1, rfl, rfl⟩
  · exact .inl ⟨q1, R9, rfl, q3.mono (Nat.le_trans HB6.out.size HB8.out.size)⟩
  · exact .inr ⟨q1, rfl⟩
end Go.Proofs
namespace Go.Wb
open Go.RowKit Go.Proofs Go.Wi
/-- Bytes in a block of one's own. -/
structure Rb (w : World) (g : Nat) (l : List UInt8) : Prop where
  lt : g < w.heap.size
  cell : ∀ j u, (Lib.byteCells l)[j]? = some u → w.cell? ⟨g, j, none⟩ = some u
  fz : ∀ j, j < l.length → w.frozen? ⟨g, j, none⟩ = false
theorem Rb.at {w : World} {g : Nat} {l : List UInt8} (h : Rb w g l) {i : Nat} (hi : i < l.length) : w.cell? ⟨g, i, none⟩ = some (.int .u8 (l[i].toNat : Nat)) := h.cell i _ (byteCell hi)
theorem Rb.set {w : World} {g : Nat} {l : List UInt8} (h : Rb w g l) {i : Nat} (hi : i < l.length) (c : UInt8) : Rb (w.setCell ⟨g, i, none⟩ (.int .u8 (c.toNat : Nat))) g (l.set i c) := by
  refine ⟨by simpa using h.lt, fun j u hu => ?_, fun j hj => by rw [World.frozen?_setCell]; exact h.fz j (by rw [List.length_set] at hj; exact hj)⟩
  by_cases hji : j = i
  · subst hji
    rw [byteCell (by rw [List.length_set]; exact hi), List.getElem_set_self] at hu
    rw [World.cell?_setCell_same _ _ _ (h.at hi)]
    exact hu
  · rw [World.cell?_setCell_other _ _ _ _ (fun e => hji (by injection e with e1 e2; exact e2.symm))]
    refine h.cell j u ?_
    have hj := (List.getElem?_eq_some_iff.1 hu).1
    rw [byteCells_len, List.length_set] at hj
    rw [byteCell (by rw [List.length_set]; exact hj), List.getElem_set_ne (Ne.symm hji)] at hu
    rw [byteCell hj]
    exact hu
theorem Rb.over {w : World} {g : Nat} {l : List UInt8} (h : Rb w g l) (xs : List UInt8) (hx : xs.length ≤ l.length) : Rb (w.setCells g 0 (Lib.byteCells xs)) g (xs ++ l.drop xs.length) := by
  have hl : (xs ++ l.drop xs.length).length = l.length := by rw [List.length_append, List.length_drop]; omega
  have hbl := byteCells_len xs
  refine ⟨Nat.lt_of_lt_of_le h.lt (setCells_wo g (Lib.byteCells xs) 0 w).size, fun j u hu => ?_, fun j hj => by rw [World.frozen?_setCells]; exact h.fz j (by omega)⟩
  by_cases hj : j < xs.length
  · have := World.cell?_setCells_in g (Lib.byteCells xs) 0 w (fun i hi => by rw [Nat.zero_add, h.at (by omega)]; rfl) j (by omega)
    rw [Nat.zero_add] at this
    rw [this, ← hu, byteCells_app, List.getElem?_append_left (by omega), List.getElem?_eq_getElem]
  · rw [World.cell?_setCells_out g _ _ w _ (fun _ _ => .inr (by show 0 + _ ≤ j; omega))]
    refine h.cell j u ?_
    rw [byteCells_app, List.getElem?_append_right (by omega), byteCells_len] at hu
    simp only [Lib.byteCells, List.getElem?_map, List.getElem?_drop] at hu ⊢
    rw [show xs.length + (j - xs.length) = j by omega] at hu
    exact hu
theorem Rb.bs {w : World} {g : Nat} {l : List UInt8} (h : Rb w g l) {c : Nat} (hc : l.length ≤ c) : Bs w (.slice (some ⟨g, 0, none⟩) l.length c) l :=
  ⟨_, _, rfl, hc, (fun e => by cases e), .inr ⟨g, 0, rfl, h.lt, fun j u hu => by rw [Nat.zero_add]; exact h.cell j u hu⟩⟩
theorem lent_next (s : List UInt8) (i N : Nat) (h1 : s.length ≤ i) (h2 : i < N) : (s ++ (List.replicate (i - s.length) 201 ++ List.replicate (N - i) 0)).set i 201 = s ++ (List.replicate (i + 1 - s.length) (201 : UInt8) ++ List.replicate (N - (i + 1)) 0) := by
  rw [List.set_append_right _ _ (by omega), List.set_append_right _ _ (by rw [List.length_replicate]; omega), List.length_replicate, Nat.sub_self, show N - i = (N - (i + 1)) + 1 by omega, List.replicate_succ, List.set_cons_zero, show i + 1 - s.length = (i - s.length) + 1 by omega, List.replicate_succ', List.append_assoc]
  rfl
end Go.Wb
namespace Go.Proofs
open Go.RowKit Go.Wi Go.Wb
theorem Tryz.szu8N : ∀ w, (Go.sizeOf 5).run Tryz.prog w = .ok 1 w := by
  have : (Tryz.prog.info? 5).map (·.size) = some 1 := by kernel_rfl
  intro w
  cases h : Tryz.prog.info? 5 with
  | none => rw [h] at this; cases this
  | some i =>
    rw [h] at this
    simp at this
    simp [Go.sizeOf, typeInfo, h, this]
theorem Tryz.info8N : (Tryz.prog.info? 5).map (fun i => (i.zero, i.size, i.bytes)) = some (some (.int .u8 0), 1, 1) := by kernel_rfl
theorem Tryz.makeZN {ops : Array Oper} {rest : List Oper} {o : Oper} {a : Act} {Q : Exit → Act → World → Prop} {w : World} (hgd : o.guard = none) (l c : Operand) (hop : o.op = Op.makeSlice 26 l c)
    (L : Int) (n : Nat) (hl : a.eval l = .int .i64 L) (hc : a.eval c = .int .i64 L) (hL : L = (n : Int)) (hn : n ≤ 140737488355328)
    (hK : ∀ w', Rb w' w.heap.size (List.replicate n 0) → Below w.heap.size w w' → wpList Tryz.prog ops Q rest (a.put o.dst (.slice (some ⟨w.heap.size, 0, none⟩) n n)) w') (h0 : 0 < n) : wpList Tryz.prog ops Q (o :: rest) a w := by
  obtain ⟨i0, hi0, hz0, hz1, hz2⟩ := info_parts Tryz.info8N
  refine wpList_make_full w hgd l c 26 hop w.heap.size 5 i0 (.int .u8 0) 1 Tryz.underlying26 hi0 hz0 hz1 .i64 .i64 L L n hl hc hL hL (by rw [hz2]; omega) (by unfold maxLen; omega) (Nat.le_refl _) ?_
  intro w' hown hg
  refine hK w' ?_ ((Below.refl _ w).grown hg (Nat.le_refl _) fun k e => by cases e)
  have e2 : (madeCells (Value.int .u8 0).cells (n * 1)).toList = Lib.byteCells (List.replicate n 0) := by
    rw [show (Value.int .u8 0).cells = #[.int .u8 0] from rfl, toList_madeCells_one, Nat.mul_one]
    simp [Lib.byteCells]
  rw [e2] at hown
  rcases hown.2 with ⟨e, e0⟩ | ⟨g, cap, cur, e, hB, hgg, k1, k2, k3, k4⟩
  · omega
  · injection e with e1 e3 e4
    injection e1 with e1
    injection e1 with e1
    subst e1
    refine ⟨block_lt hgg, fun j u hu => ?_, fun j hj => frozen_of_row _ _ _ _ _ hgg⟩
    rw [cell_of_row _ _ _ _ _ _ hgg]
    rw [← k4, List.getElem?_take] at hu
    split at hu
    · rw [← Array.getElem?_toList]; exact hu
    · cases hu
theorem Tryz.copy_sN {w : World} {g N : Nat} {l : List UInt8} (h : Rb w g l) (hl : l.length = N) {s : List UInt8} (hs : s.length ≤ N) (ty : TypeId) :
    (Builtin.copy_ #[26, 9] ty #[.slice (some ⟨g, 0, none⟩) N N, .string ⟨s.toArray⟩]).run Tryz.prog w = .ok (goInt s.length) (w.setCells g 0 (Lib.byteCells s)) := by
  have := run_copy_string (P := Tryz.prog) w 26 9 ty 5 g 0 N N ⟨s.toArray⟩ Tryz.underlying26 Tryz.szu8N (by rw [text_size]; exact hs) (fun j hj => by rw [text_size] at hj; rw [Nat.zero_add, h.at (by omega)]; rfl) (fun j hj => by rw [text_size] at hj; rw [Nat.zero_add]; exact h.fz j (by omega))
  rw [text_size] at this
  exact this
set_option maxRecDepth 20000 in
set_option maxHeartbeats 1000000 in
theorem Tryz.lent_any (s : List UInt8) (hs : s.length ≤ 140737488355000) (w : World) :
    Calls Tryz.prog 16 #[.string ⟨s.toArray⟩] w fun e w' => e = .returned (.slice (some ⟨w.heap.size, 0, none⟩) (s.length + 8) (s.length + 8)) ∧ Rb w' w.heap.size (s ++ List.replicate 8 201) ∧ Below w.heap.size w w' := by
  have hz := text_size s
  go_enter Tryz.func16, Tryz.ntmps16
  obtain ⟨N, hN⟩ : ∃ N : Nat, N = s.length + 8 := ⟨_, rfl⟩
  have e1 : IntKind.i64.wrap ((s.length : Int) + 8) = (N : Int) := by rw [IntKind.wrap_i64]; omega
  have HN : Hid (N = s.length + 8) := hN
  have hN2 : N ≤ 140737488355328 := by omega
  have hN3 : s.length ≤ N := by omega
  have hN0 : 0 < N := by omega
  rw [← hN]
  clear hN
  go_wp2_with (first | (refine Tryz.makeZN rfl _ _ rfl _ N rfl rfl rfl hN2 ?_ hN0; intro w1 ho1 hb1; have hcp := Tryz.copy_sN ho1 (by rw [List.length_replicate]) hN3; have HO1 : Hid _ := ho1; have HB1 : Hid _ := hb1; clear ho1 hb1) | fail)
  have HR : Hid (Rb (w1.setCells w.heap.size 0 (Lib.byteCells s)) w.heap.size (s ++ (List.replicate (s.length - s.length) 201 ++ List.replicate (N - s.length) 0))) := (by
    have := HO1.out.over s (by rw [List.length_replicate]; exact hN3)
    rw [List.drop_replicate] at this
    show Rb _ _ _
    rw [Nat.sub_self]
    exact this)
  have HW : Hid (Below w.heap.size w (w1.setCells w.heap.size 0 (Lib.byteCells s))) := Wo.toBelow HB1.out (Wb.setCells_wo (own := fun k => w.heap.size ≤ k) w.heap.size (Nat.le_refl _) _ 0 w1 w1 (Wo.refl _ _)) (fun k e => e) HB1.out.size
  clear HO1 HB1 hcp
  generalize w1.setCells w.heap.size 0 (Lib.byteCells s) = w2 at *
  go_loopw [4] (fun iv wr => ∃ i : Nat, iv = .int .i64 i ∧ s.length ≤ i ∧ i ≤ N ∧ Rb wr w.heap.size (s ++ (List.replicate (i - s.length) 201 ++ List.replicate (N - i) 0)) ∧ Below w.heap.size w wr) (fun iv _ => N - (intOf iv).toNat)
  case atStart => exact ⟨s.length, rfl, Nat.le_refl _, hN3, HR.out, HW.out⟩
  case round =>
    clear HR HW
    obtain ⟨i, rfl, h1, h2, hr, hb⟩ := hrel
    have HB : Hid (Below w.heap.size w wr) := hb
    have HL : Hid ((s ++ (List.replicate (i - s.length) (201 : UInt8) ++ List.replicate (N - i) 0)).length = N) := (by show _ = _; simp only [List.length_append, List.length_replicate]; omega)
    by_cases hlt : i < N
    · have q : (i : Int) < (N : Int) := by omega
      have hil : i < (s ++ (List.replicate (i - s.length) (201 : UInt8) ++ List.replicate (N - i) 0)).length := by rw [HL.out]; exact hlt
      obtain ⟨v0, c0⟩ : ∃ v, wr.cell? ⟨w.heap.size, i, none⟩ = some v := ⟨_, hr.at hil⟩
      have f0 := hr.fz i hil
      have HS : Hid (Rb (wr.setCell ⟨w.heap.size, i, none⟩ (.int .u8 201)) w.heap.size (s ++ (List.replicate (i + 1 - s.length) (201 : UInt8) ++ List.replicate (N - (i + 1)) 0))) := (by
        have := hr.set hil 201
        rw [lent_next s i N h1 hlt] at this
        exact this)
      clear hr hb hil HL
      go_wp2
      go_roundw
      case rel => exact ⟨i + 1, by simp, by omega, by omega, HS.out, Wo.toBelow HB.out ((Wo.refl (fun k => w.heap.size ≤ k) wr).setCell _ _ _ (.inl (Nat.le_refl _))) (fun k e => e) HB.out.size⟩
      case measure => simp [intOf]; omega
    · have q : ¬ (i : Int) < (N : Int) := by omega
      have HR : Hid (Rb wr w.heap.size (s ++ List.replicate 8 201)) := (by
        have e : i = N := by omega
        subst e
        rw [Nat.sub_self, List.replicate_zero, List.append_nil, show i - s.length = 8 by have := HN.out; omega] at hr
        exact hr)
      clear hr hb HL
      go_wp2
      go_ret
      exact ⟨by trivial, HR.out, HB.out⟩
end Go.Proofs
namespace Go.Wb
open Go.RowKit Go.Proofs Go.Wi
/-- 'copy' of what takes several cells. -/
theorem run_copy_many {P : Program} (w : World) (dT sT ty elem : TypeId) (sz b o dLen dCap : Nat) (a : Addr) (sLen sCap : Nat) (cs : List Value)
    (hu : P.underlying dT = some (.slice elem)) (hs : (P.info? elem).map (·.size) = some sz) (hn : cs.length = Nat.min sLen dLen * sz)
    (hsrc : ∀ j v, cs[j]? = some v → w.cell? (a.add j) = some v) (hc : ∀ j, j < cs.length → (w.cell? ⟨b, o + j, none⟩).isSome = true) (hf : ∀ j, j < cs.length → w.frozen? ⟨b, o + j, none⟩ = false) (h1 : ∀ v ∈ cs, v.oneCell' = true) :
    (Builtin.copy_ #[dT, sT] ty #[.slice (some ⟨b, o, none⟩) dLen dCap, .slice (some a) sLen sCap]).run P w = .ok (goInt (Nat.min sLen dLen)) (w.setCells b o cs) := by
  have hl := run_loadCells_list (P := P) w a cs hsrc
  have hst := run_storeCells_cells (P := P) b o cs 0 w (by simpa using hc) (by simpa using hf) h1
  cases hq : P.info? elem with
  | none => simp [hq] at hs
  | some i =>
    have hi : i.size = sz := by simpa [hq] using hs
    simp [Builtin.copy_, run_underlying hu, Builtin.lenOf, Builtin.firstCells, sizeOf, typeInfo, hq, hi, ← hn, hl, hst]
theorem Hs.keep {w w' : World} {V : Value} {L : List (List UInt8 × List UInt8)} (h : Hs w V L) (hk : ∀ k, V.ownBlock = some k → w'.heap[k]? = w.heap[k]?) : Hs w' V L := by
  have hz := h.nz
  obtain ⟨ad, cap, rfl, h1⟩ := h.ex
  refine ⟨⟨ad, cap, rfl, ?_⟩, hz⟩
  rcases h1 with h1 | ⟨g, o, rfl, hg, h1⟩
  · exact .inl h1
  · have e := hk g rfl
    refine .inr ⟨g, o, rfl, ?_, fun j hj => ⟨(World.cell?_of_block (w := w) (a := ⟨g, o + j * 2, none⟩) e).trans (h1 j hj).1, (World.cell?_of_block (w := w) (a := ⟨g, o + j * 2 + 1, none⟩) e).trans (h1 j hj).2⟩⟩
    rw [Array.getElem?_eq_getElem hg] at e
    exact block_lt e
/-- Headers that were copied to the head of a block. -/
theorem hs_copied {W : World} {g c : Nat} {L : List (List UInt8 × List UInt8)} (hg : g < W.heap.size) (h : ∀ j, j < L.length * 2 → (W.cell? ⟨g, j, none⟩).isSome = true) : Hs (W.setCells g 0 (hdCells L)) (.slice (some ⟨g, 0, none⟩) L.length c) L := by
  have hin := World.cell?_setCells_in g (hdCells L) 0 W (fun i hi => by rw [Nat.zero_add]; rw [hdCells_len] at hi; exact h i hi)
  refine ⟨⟨_, _, rfl, .inr ⟨g, 0, rfl, Nat.lt_of_lt_of_le hg (setCells_wo g (hdCells L) 0 W).size, fun j hj => ?_⟩⟩, .inr ⟨_, _, _, rfl⟩⟩
  have e1 := hin (j * 2) (by rw [hdCells_len]; omega)
  have e2 := hin (j * 2 + 1) (by rw [hdCells_len]; omega)
  have k := hd_cell hj
  rw [List.getElem?_eq_getElem (by rw [hdCells_len]; omega), List.getElem?_eq_getElem (by rw [hdCells_len]; omega)] at k
  rw [← Nat.add_assoc] at e2
  exact ⟨e1.trans k.1, e2.trans k.2⟩
end Go.Wb
namespace Go.Proofs
open Go.RowKit Go.Wi Go.Wb
theorem Tryz.info2N : (Tryz.prog.info? 52).map (fun i => (i.zero, i.size, i.bytes)) = some (some (.agg #[.string ⟨#[]⟩, .string ⟨#[]⟩]), 2, 32) := by kernel_rfl
theorem Tryz.size2N : (Tryz.prog.info? 52).map (·.size) = some 2 := by kernel_rfl
theorem Tryz.some2N : ((Tryz.prog.info? 52).map (·.size)).isSome = true := by kernel_rfl
theorem Tryz.makeHN {ops : Array Oper} {rest : List Oper} {o : Oper} {a : Act} {Q : Exit → Act → World → Prop} {w : World} (hgd : o.guard = none) (l c : Operand) (hop : o.op = Op.makeSlice 22 l c)
    (L : Int) (n : Nat) (hl : a.eval l = .int .i64 L) (hc : a.eval c = .int .i64 L) (hL : L = (n : Int)) (hn : n ≤ 4398046511104)
    (hK : ∀ w', w.heap.size < w'.heap.size → (∀ j, j < n * 2 → (w'.cell? ⟨w.heap.size, j, none⟩).isSome = true) → (∀ j, w'.frozen? ⟨w.heap.size, j, none⟩ = false) → Below w.heap.size w w' → wpList Tryz.prog ops Q rest (a.put o.dst (.slice (some ⟨w.heap.size, 0, none⟩) n n)) w') (h0 : 0 < n) : wpList Tryz.prog ops Q (o :: rest) a w := by
  obtain ⟨i0, hi0, hz0, hz1, hz2⟩ := info_parts Tryz.info2N
  refine wpList_make_full w hgd l c 22 hop w.heap.size 52 i0 (.agg #[.string ⟨#[]⟩, .string ⟨#[]⟩]) 2 Tryz.underlying22 hi0 hz0 hz1 .i64 .i64 L L n hl hc hL hL (by rw [hz2]; omega) (by unfold maxLen; omega) (Nat.le_refl _) ?_
  intro w' hown hg
  rcases hown.2 with ⟨e, e0⟩ | ⟨g, cap, cur, e, hB, hgg, k1, k2, k3, k4⟩
  · omega
  · injection e with e1 e3 e4
    injection e1 with e1
    injection e1 with e1
    subst e1
    refine hK w' (block_lt hgg) (fun j hj => ?_) (fun j => frozen_of_row _ _ _ _ _ hgg) ((Below.refl _ w).grown hg (Nat.le_refl _) fun k e => by cases e)
    rw [cell_of_row _ _ _ _ _ _ hgg]
    have : j < cur.size := by have := hown.1; have := congrArg List.length k4; rw [List.length_take, Array.length_toList] at this; omega
    rw [Array.getElem?_eq_getElem this]; rfl
set_option maxRecDepth 20000 in
theorem Tryz.copy_hN {W : World} {g n : Nat} {V : Value} {L : List (List UInt8 × List UInt8)} (hV : Hs W V L) (hn : L.length ≤ n) (h : ∀ j, j < n * 2 → (W.cell? ⟨g, j, none⟩).isSome = true) (hf : ∀ j, W.frozen? ⟨g, j, none⟩ = false) (ty : TypeId) :
    (Builtin.copy_ #[22, 22] ty #[.slice (some ⟨g, 0, none⟩) n n, V]).run Tryz.prog W = .ok (goInt L.length) (W.setCells g 0 (hdCells L)) := by
  rcases hV.nz with rfl | ⟨ad, m, c, rfl⟩
  · obtain ⟨ad, cap, e, h1⟩ := hV.ex
    injection e with e1 e2 e3
    have hL : L = [] := List.eq_nil_of_length_eq_zero e2.symm
    subst hL
    exact run_copy_nil Tryz.prog W 22 22 ty 52 _ _ _ Tryz.underlying22 Tryz.some2N
  · obtain ⟨ad', cap, e, h1⟩ := hV.ex
    injection e with e1 e2 e3
    subst e1 e2 e3
    have := run_copy_many (P := Tryz.prog) W 22 22 ty 52 2 g 0 n n ad L.length c (hdCells L) Tryz.underlying22 Tryz.size2N (by rw [hdCells_len]; show _ = min _ _ * 2; rw [Nat.min_eq_left hn]) (fun j v hj => by
        obtain ⟨i, hi, hv⟩ := hdCells_at hj
        rcases h1 with h1 | ⟨g1, o1, e4, hg1, hc1⟩
        · subst h1; cases hi
        · injection e4 with e4; subst e4
          rw [Addr.add_mid]
          rcases hv with ⟨rfl, rfl⟩ | ⟨rfl, rfl⟩
          · exact (hc1 i hi).1
          · have := (hc1 i hi).2; rw [Nat.add_assoc] at this; exact this) (fun j hj => by rw [hdCells_len] at hj; rw [Nat.zero_add]; exact h j (by omega)) (fun j _ => by rw [Nat.zero_add]; exact hf j) hdCells_one
    rw [show Nat.min L.length n = L.length from Nat.min_eq_left hn] at this
    exact this
set_option maxRecDepth 20000 in
set_option maxHeartbeats 1000000 in
theorem Tryz.askRequest_any {w : World} (meth tg : ByteArray) {V : Value} {L : List (List UInt8 × List UInt8)} (hV : Hs w V L) (body : List UInt8) (last : Bool) (hL : L.length ≤ 4398046511000) (hb : body.length ≤ 140737488355000) :
    Calls Tryz.prog 5 #[.agg #[.string meth, .string tg, V, .string ⟨body.toArray⟩, .bool last]] w fun e w' => ∃ gh gb, e = .returned (.agg #[.string meth, .string tg, .slice (some ⟨gh, 0, none⟩) L.length (L.length + 8), .slice (some ⟨gb, 0, none⟩) body.length (body.length + 8), .bool last]) ∧ Hs w' (.slice (some ⟨gh, 0, none⟩) L.length (L.length + 8)) L ∧ Bs w' (.slice (some ⟨gb, 0, none⟩) body.length (body.length + 8)) body ∧ gb < w'.heap.size ∧ Below w.heap.size w w' := by
  have hz := text_size body
  obtain ⟨ad, cap, rfl, _⟩ := hV.ex
  have HV : Hid (Hs w (.slice ad L.length cap) L) := hV
  clear hV
  go_enter Tryz.func5, Tryz.ntmps5
  go_upto_region 1 with (fail)
  generalize hW : (w.alloc _).alloc _ = W
  have hA : W.heap[w.heap.size]? = some (.cells #[.string meth, .string tg, .slice ad L.length cap, .string ⟨body.toArray⟩, .bool last] 24 (0, 0)) := by rw [← hW, Below.heap_alloc _ _ _ (by simp)]; exact heap_alloc_new w _
  have hR : W.heap[w.heap.size + 1]? = some (.cells #[.string ⟨#[]⟩, .string ⟨#[]⟩, .slice none 0 0, .slice none 0 0, .bool false] 28 (0, 0)) := by
    rw [← hW]
    have := heap_alloc_new (w.alloc (.cells #[.string meth, .string tg, .slice ad L.length cap, .string ⟨body.toArray⟩, .bool last] 24)) (.cells #[.string ⟨#[]⟩, .string ⟨#[]⟩, .slice none 0 0, .slice none 0 0, .bool false] 28)
    rw [World.size_alloc] at this
    exact this
  have hB : Below w.heap.size w W := by rw [← hW]; exact ((Below.refl _ w).alloc (Nat.le_refl _) _).alloc (by simp) _
  have hS : W.heap.size = w.heap.size + 2 := by rw [← hW]; simp
  clear hW
  have hlA : w.heap.size < W.heap.size := by omega
  have hlR : w.heap.size + 1 < W.heap.size := by omega
  have hlW : w.heap.size ≤ W.heap.size := by omega
  clear hS
  have c2 : W.cell? ⟨w.heap.size, 2, none⟩ = some (.slice ad L.length cap) := cell_of_row _ _ 2 _ _ _ hA
  have HA : Hid (W.heap[w.heap.size]? = some (.cells #[.string meth, .string tg, .slice ad L.length cap, .string ⟨body.toArray⟩, .bool last] 24 (0, 0))) := hA
  have HR : Hid (W.heap[w.heap.size + 1]? = some (.cells #[.string ⟨#[]⟩, .string ⟨#[]⟩, .slice none 0 0, .slice none 0 0, .bool false] 28 (0, 0))) := hR
  have HB : Hid (Below w.heap.size w W) := hB
  have HVW : Hid (Hs W (.slice ad L.length cap) L) := HV.out.below hB
  clear hA hR hB
  obtain ⟨N, hN⟩ : ∃ N : Nat, N = L.length + 8 := ⟨_, rfl⟩
  have e1 : IntKind.i64.wrap ((L.length : Int) + 8) = (N : Int) := by rw [IntKind.wrap_i64]; omega
  have HN : Hid (N = L.length + 8) := hN
  have hN2 : N ≤ 4398046511104 := by omega
  have hN3 : L.length ≤ N := by omega
  have hN0 : 0 < N := by omega
  clear hN
  go_upto_region 3 with (first | (refine Tryz.makeHN rfl _ _ rfl _ N rfl rfl rfl hN2 ?_ hN0; intro W1 hlt1 hcs1 hfz1 hb1; have hcp := Tryz.copy_hN (HVW.out.below hb1) hN3 hcs1 hfz1; have k2 := (hb1.cell (p := ⟨w.heap.size, 2, none⟩) hlA).trans c2; have HB1 : Hid (Below W.heap.size W W1) := hb1; have HC1 : Hid (Hs (W1.setCells W.heap.size 0 (hdCells L)) (.slice (some ⟨W.heap.size, 0, none⟩) L.length N) L) := hs_copied hlt1 (fun j hj => hcs1 j (by omega)); clear hb1 hcs1 hfz1 hlt1) | fail)
  have hB2 : Below W.heap.size W (W1.setCells W.heap.size 0 (hdCells L)) := Wo.toBelow HB1.out (Wb.setCells_wo (own := fun k => W.heap.size ≤ k) W.heap.size (Nat.le_refl _) _ 0 W1 W1 (Wo.refl _ _)) (fun k e => e) HB1.out.size
  clear hcp HB1 k2 HVW c2
  have HC : Hid (Hs (W1.setCells W.heap.size 0 (hdCells L)) (.slice (some ⟨W.heap.size, 0, none⟩) L.length N) L) := HC1.out
  clear HC1
  generalize W1.setCells W.heap.size 0 (hdCells L) = W2 at *
  have hA2 := (hB2.block _ hlA).trans HA.out
  have hR2 := (hB2.block _ hlR).trans HR.out
  have hB02 : Below w.heap.size w W2 := HB.out.trans (hB2.mono hlW)
  have hsz2 := hB2.size
  have kl := Tryz.lent_any body hb W2
  have c3 : W2.cell? ⟨w.heap.size, 3, none⟩ = some (.string ⟨body.toArray⟩) := cell_of_row _ _ 3 _ _ _ hA2
  have HA2 : Hid (W2.heap[w.heap.size]? = some (.cells #[.string meth, .string tg, .slice ad L.length cap, .string ⟨body.toArray⟩, .bool last] 24 (0, 0))) := hA2
  have HR2 : Hid (W2.heap[w.heap.size + 1]? = some (.cells #[.string ⟨#[]⟩, .string ⟨#[]⟩, .slice none 0 0, .slice none 0 0, .bool false] 28 (0, 0))) := hR2
  have HB2 : Hid (Below w.heap.size w W2) := hB02
  clear hA2 hR2 hB02 HA HR HB hB2
  go_upto_region 4 with (first | (go_at_call 16; refine kl.mono ?_; clear kl; rintro e W3 ⟨rfl, hrb, hb3⟩; have HRB : Hid (Rb W3 W2.heap.size (body ++ List.replicate 8 201)) := hrb; have HB3 : Hid (Below W2.heap.size W2 W3) := hb3; clear hrb hb3) | fail)
  have hA := (HB3.out.block _ (by omega)).trans HA2.out
  have hR := (HB3.out.block _ (by omega)).trans HR2.out
  have HHS : Hid (Hs W3 (.slice (some ⟨W.heap.size, 0, none⟩) L.length N) L) := HC.out.below HB3.out
  have HBB : Hid (Below w.heap.size w W3) := HB2.out.trans (HB3.out.mono (by omega))
  have HBS : Hid (Bs W3 (.slice (some ⟨W2.heap.size, 0, none⟩) body.length (body.length + 8)) body) := (by
    have hr := HRB.out
    refine ⟨_, _, rfl, by omega, (fun e => by cases e), .inr ⟨W2.heap.size, 0, rfl, hr.lt, fun j u hu => ?_⟩⟩
    rw [Nat.zero_add]
    refine hr.cell j u ?_
    rw [byteCells_app, List.getElem?_append_left (by have := (List.getElem?_eq_some_iff.1 hu).1; exact this)]
    exact hu)
  have hg3 : W2.heap.size < W3.heap.size := HRB.out.lt
  have a0 : W3.cell? ⟨w.heap.size, 0, none⟩ = some (.string meth) := cell_of_row _ _ 0 _ _ _ hA
  have a1 : W3.cell? ⟨w.heap.size, 1, none⟩ = some (.string tg) := cell_of_row _ _ 1 _ _ _ hA
  have a2 : W3.cell? ⟨w.heap.size, 2, none⟩ = some (.slice ad L.length cap) := cell_of_row _ _ 2 _ _ _ hA
  have a3 : W3.cell? ⟨w.heap.size, 3, none⟩ = some (.string ⟨body.toArray⟩) := cell_of_row _ _ 3 _ _ _ hA
  have a4 : W3.cell? ⟨w.heap.size, 4, none⟩ = some (.bool last) := cell_of_row _ _ 4 _ _ _ hA
  have g0 : W3.cell? ⟨w.heap.size + 1, 0, none⟩ = some (.string ⟨#[]⟩) := cell_of_row _ _ 0 _ _ _ hR
  have g1 : W3.cell? ⟨w.heap.size + 1, 1, none⟩ = some (.string ⟨#[]⟩) := cell_of_row _ _ 1 _ _ _ hR
  have g2 : W3.cell? ⟨w.heap.size + 1, 2, none⟩ = some (.slice none 0 0) := cell_of_row _ _ 2 _ _ _ hR
  have g3 : W3.cell? ⟨w.heap.size + 1, 3, none⟩ = some (.slice none 0 0) := cell_of_row _ _ 3 _ _ _ hR
  have g4 : W3.cell? ⟨w.heap.size + 1, 4, none⟩ = some (.bool false) := cell_of_row _ _ 4 _ _ _ hR
  have z0 := frozen_of_row W3 (w.heap.size + 1) 0 _ _ hR
  have z1 := frozen_of_row W3 (w.heap.size + 1) 1 _ _ hR
  have z2 := frozen_of_row W3 (w.heap.size + 1) 2 _ _ hR
  have z3 := frozen_of_row W3 (w.heap.size + 1) 3 _ _ hR
  have z4 := frozen_of_row W3 (w.heap.size + 1) 4 _ _ hR
  have HG : Hid (W3.heap[w.heap.size + 1]? = some (.cells #[.string ⟨#[]⟩, .string ⟨#[]⟩, .slice none 0 0, .slice none 0 0, .bool false] 28 (0, 0))) := hR
  clear hA hR HRB HB3 HB2 HR2 HA2 HC c3
  obtain ⟨M, hM⟩ : ∃ M : Nat, M = body.length + 8 := ⟨_, rfl⟩
  have HM : Hid (M = body.length + 8) := hM
  have hM3 : body.length ≤ M := by omega
  rw [← hM]
  clear hM
  (refine Go.Lq.wp_region_last 17 (by kernel_rfl) (by kernel_rfl) ?_; dsimp only [List.dropLast]; (repeat (quiet_step (fail))); refine wpQuiet_nil ?_; intro _ hw'; obtain ⟨nq, hw''⟩ := hw'; subst hw''; refine Go.Lq.wpOp_last rfl rfl ?_; unfold Oper.wp; go_simp)
  go_wp2
  have e0 := heap_setCell_same (W3.drewN nq) (w.heap.size + 1) 0 _ _ (.string meth) HG.out
  have e1 := heap_setCell_same _ (w.heap.size + 1) 1 _ _ (.string tg) e0
  have e2 := heap_setCell_same _ (w.heap.size + 1) 2 _ _ (.slice (some ⟨W.heap.size, 0, none⟩) L.length N) e1
  have e3 := heap_setCell_same _ (w.heap.size + 1) 3 _ _ (.slice (some ⟨W2.heap.size, 0, none⟩) body.length M) e2
  have e4 := heap_setCell_same _ (w.heap.size + 1) 4 _ _ (.bool last) e3
  have hne : W.heap.size ≠ w.heap.size + 1 := by omega
  have hne2 : W2.heap.size ≠ w.heap.size + 1 := by omega
  have hot : ∀ k, k ≠ w.heap.size + 1 → ((((((W3.drewN nq).setCell ⟨w.heap.size + 1, 0, none⟩ (.string meth)).setCell ⟨w.heap.size + 1, 1, none⟩ (.string tg)).setCell ⟨w.heap.size + 1, 2, none⟩ (.slice (some ⟨W.heap.size, 0, none⟩) L.length N)).setCell ⟨w.heap.size + 1, 3, none⟩ (.slice (some ⟨W2.heap.size, 0, none⟩) body.length M)).setCell ⟨w.heap.size + 1, 4, none⟩ (.bool last)).heap[k]? = W3.heap[k]? := fun k hk => by
    rw [Below.heap_setCell _ _ _ k hk, Below.heap_setCell _ _ _ k hk, Below.heap_setCell _ _ _ k hk, Below.heap_setCell _ _ _ k hk, Below.heap_setCell _ _ _ k hk]
    rfl
  have hlast : W2.heap.size < ((((((W3.drewN nq).setCell ⟨w.heap.size + 1, 0, none⟩ (.string meth)).setCell ⟨w.heap.size + 1, 1, none⟩ (.string tg)).setCell ⟨w.heap.size + 1, 2, none⟩ (.slice (some ⟨W.heap.size, 0, none⟩) L.length N)).setCell ⟨w.heap.size + 1, 3, none⟩ (.slice (some ⟨W2.heap.size, 0, none⟩) body.length M)).setCell ⟨w.heap.size + 1, 4, none⟩ (.bool last)).heap.size := by simpa using hg3
  refine bodyPost_ret (results_cell_row rfl _ _ (w.heap.size + 1) _ _ _ _ rfl e4 Tryz.underlying28 rfl (by kernel_rfl)) rfl ⟨W.heap.size, W2.heap.size, ?_, ?_, ?_, hlast, (((((belowN HBB.out nq).setCell (p := ⟨w.heap.size + 1, 0, none⟩) (Nat.le_succ _) _).setCell (p := ⟨w.heap.size + 1, 1, none⟩) (Nat.le_succ _) _).setCell (p := ⟨w.heap.size + 1, 2, none⟩) (Nat.le_succ _) _).setCell (p := ⟨w.heap.size + 1, 3, none⟩) (Nat.le_succ _) _).setCell (p := ⟨w.heap.size + 1, 4, none⟩) (Nat.le_succ _) _⟩
  · rw [← HN.out, ← HM.out]
    rfl
  · rw [← HN.out]
    exact HHS.out.keep fun k hk => hot k (by injection hk with hk; subst hk; exact hne)
  · exact HBS.out.keep fun k hk => hot k (by injection hk with hk; subst hk; exact hne2)
end Go.Proofs
