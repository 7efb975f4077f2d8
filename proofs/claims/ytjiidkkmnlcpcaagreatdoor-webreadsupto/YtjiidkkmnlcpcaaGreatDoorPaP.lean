/-
  Laid together by packg.py of Yp Yq Yr.
-/
import Derived.Test.YtjiidkkmnlcpcaaGreatDoorPaY
import Derived.Deep.RegionHeld3
namespace Go.Wb
open Go.RowKit Go.Proofs
def headText (L : List (List UInt8 × List UInt8)) : List UInt8 := L.flatMap fun h => h.1 ++ [58, 32] ++ h.2 ++ [13, 10]
theorem headText_next {L : List (List UInt8 × List UInt8)} {i : Nat} (hi : i < L.length) : headText (L.take (i + 1)) = headText (L.take i) ++ (L[i].1 ++ [58, 32] ++ L[i].2 ++ [13, 10]) := by
  unfold headText
  rw [List.take_add_one, List.getElem?_eq_getElem hi, List.flatMap_append]
  simp
theorem headText_len (L : List (List UInt8 × List UInt8)) : (headText L).length = (L.map fun h => h.1.length + h.2.length + 4).sum := by
  induction L with
  | nil => rfl
  | cons a l ih =>
    have e : headText (a :: l) = a.1 ++ [58, 32] ++ a.2 ++ [13, 10] ++ headText l := rfl
    rw [e, List.length_append, ih, List.map_cons, List.sum_cons]
    simp
    omega
theorem sum_take_le (L : List (List UInt8 × List UInt8)) (f : List UInt8 × List UInt8 → Nat) (i : Nat) : ((L.take i).map f).sum ≤ (L.map f).sum := by
  induction L generalizing i with
  | nil => simp
  | cons a l ih =>
    cases i with
    | zero => exact Nat.zero_le _
    | succ i =>
      have := ih i
      rw [List.take_succ_cons, List.map_cons, List.map_cons, List.sum_cons, List.sum_cons]
      omega
theorem bytesW_below (w : World) (e : TypeId) (t : ByteArray) : Below w.heap.size w (Lib.bytesWorld w e t) := ⟨rfl, rfl, rfl, by rw [Lib.bytesWorld_size]; omega, fun k hk => Lib.bytesWorld_at_old w _ t k hk⟩
theorem bytesW_size (w : World) (e : TypeId) (t : ByteArray) : w.heap.size ≤ (Lib.bytesWorld w e t).heap.size := (bytesW_below w e t).size
theorem cat4 (a b : List UInt8) : (⟨a.toArray⟩ : ByteArray) ++ ⟨#[58, 32]⟩ ++ ⟨b.toArray⟩ ++ ⟨#[13, 10]⟩ = ⟨(a ++ [58, 32] ++ b ++ [13, 10]).toArray⟩ := by
  apply ByteArray.ext
  simp [ByteArray.data_append]
def printedT (line : List UInt8) (L : List (List UInt8 × List UInt8)) (body : List UInt8) : List UInt8 := line ++ [13, 10] ++ headText L ++ [13, 10] ++ body
def printedOk (line : List UInt8) (L : List (List UInt8 × List UInt8)) : Prop := L.length ≤ 32 ∧ headSize line L ≤ 2048
end Go.Wb
namespace Go.Proofs
open Go.RowKit Go.Wi Go.Wb
set_option maxRecDepth 20000 in
set_option maxHeartbeats 1000000 in
theorem Tryz.printed_any {w : World} {V Y : Value} {L : List (List UInt8 × List UInt8)} {body : List UInt8} (h : Hs w V L) (hY : Bs w Y body) (hYl : ∀ k, Y.ownBlock = some k → k < w.heap.size) (line : List UInt8) (hll : line.length ≤ 140737488355328) (hl : ∀ x ∈ L, x.1.length ≤ 140737488355328 ∧ x.2.length ≤ 140737488355328) (hL : L.length ≤ 9223372036854775807) (hb : body.length ≤ 140737488351232) :
    Calls Tryz.prog 40 #[.string ⟨line.toArray⟩, V, Y] w fun e w' => Below w.heap.size w w' ∧ ((printedOk line L ∧ ∃ R, e = .returned (.tuple #[R, .int .i64 0]) ∧ Og w' w.heap.size R (printedT line L body)) ∨ (¬ printedOk line L ∧ e = .returned (.tuple #[.slice none 0 0, .int .i64 181]))) := by
  obtain ⟨ad, cap, e0, hx⟩ := h.ex
  subst e0
  by_cases h32 : L.length ≤ 32
  · have ks := Tryz.headSize_any h line hll h32 hl
    have q0 : ¬ ((L.length : Int) > 32) := by omega
    by_cases h48 : headSize line L ≤ 2048
    · have q1 : ¬ ((headSize line L : Nat) : Int) > 2048 := by omega
      have HOK : Hid (printedOk line L) := ⟨h32, h48⟩
      have hcv := Tryz.conv_sb ⟨line.toArray⟩
      have hsz := text_size line
      rw [hsz] at hcv
      have HHB : Hid (∀ i, (headText (L.take i)).length + line.length + 4 ≤ 2048) := fun i => by
        rw [headText_len]
        have := sum_take_le L (fun h => h.1.length + h.2.length + 4) i
        unfold headSize at h48
        omega
      have HHS : Hid (Hs w (.slice ad L.length cap) L) := h
      have HYY : Hid (Bs w Y body) := hY
      have HYL : Hid (∀ k, Y.ownBlock = some k → k < w.heap.size) := hYl
      have HL2 : Hid (line.length + [13, 10].length ≤ 140737488355328) := (by have := HHB.out 0; show line.length + 2 ≤ _; omega)
      clear h48 h hY hYl hx
      generalize headSize line L = N at *
      go_enter Tryz.func40, Tryz.ntmps40
      go_wp2_with (first
        | (go_at_call 55; refine ks.mono ?_; clear ks; rintro e w1 ⟨rfl, hb1⟩; have hO1 : Og (Lib.bytesWorld w1 5 ⟨line.toArray⟩) w.heap.size (.slice (some ⟨w1.heap.size, 0, none⟩) line.length (grownCap w1 line.length 0 5)) line := (by have := Og.start w1 5 ⟨line.toArray⟩ hb1.size; rw [hsz] at this; simpa using this); have hcv1 := hcv w1)
        | (at_builtin; refine Tryz.wl_text rfl _ _ rfl hO1 (Nat.le_trans hb1.size (bytesW_size w1 5 _)) rfl [13, 10] rfl HL2.out ?_; intro V2 w2 hO2 hb2; clear hcv1 hO1)
        | fail)
      have HO : Hid (Og w2 w.heap.size V2 (line ++ [13, 10])) := hO2
      have HB : Hid (Below w.heap.size w w2) := hb1.trans (((bytesW_below w1 5 ⟨line.toArray⟩).mono hb1.size).trans hb2)
      clear hO2 hb1 hb2
      go_loopw [8, 10, 25] (fun R _ iv wr => ∃ i : Nat, iv = .int .i64 i ∧ i ≤ L.length ∧ Og wr w.heap.size R (line ++ [13, 10] ++ headText (L.take i)) ∧ Below w.heap.size w wr) (fun _ _ iv _ => L.length - (intOf iv).toNat)
      case atStart => exact ⟨0, rfl, Nat.zero_le _, by simpa [headText] using HO.out, HB.out⟩
      case round =>
        obtain ⟨i, rfl, hi, hog, hbel⟩ := hrel
        have HG : Hid (Og wr w.heap.size u8 (line ++ [13, 10] ++ headText (L.take i))) := hog
        have HB2 : Hid (Below w.heap.size w wr) := hbel
        clear hog hbel
        by_cases hlt : i < L.length
        · have q : (i : Int) < (L.length : Int) := by omega
          obtain ⟨g, o, rfl, c0, c1⟩ : ∃ g o, ad = some ⟨g, o, none⟩ ∧ wr.cell? ⟨g, o + i * 2, none⟩ = some (.string ⟨L[i].1.toArray⟩) ∧ wr.cell? ⟨g, o + i * 2 + 1, none⟩ = some (.string ⟨L[i].2.toArray⟩) := by
            obtain ⟨ad', cap', e', hx⟩ := (HHS.out.below HB2.out).ex
            injection e' with e1 e2 e3
            subst e1
            rcases hx with e | ⟨g, o, e, hg, hc⟩
            · rw [e] at hlt; cases hlt
            · exact ⟨g, o, e, (hc i hlt).1, (hc i hlt).2⟩
          have HN : Hid (headText (L.take (i + 1)) = headText (L.take i) ++ (L[i].1 ++ [58, 32] ++ L[i].2 ++ [13, 10])) := headText_next hlt
          have hbd := HHB.out (i + 1)
          rw [HN.out] at hbd
          generalize headText (L.take i) = T0 at *
          generalize L[i].1 = n at *
          generalize L[i].2 = v at *
          have HA : Hid (Below w.heap.size w (wr.alloc (.cells #[.string ⟨n.toArray⟩, .string ⟨v.toArray⟩] 57))) := HB2.out.alloc HB2.out.size _
          have HG2 : Hid (Og (wr.alloc (.cells #[.string ⟨n.toArray⟩, .string ⟨v.toArray⟩] 57)) w.heap.size u8 (line ++ [13, 10] ++ T0)) := HG.out.below ((Below.refl _ wr).alloc (Nat.le_refl _) _) (Nat.le_refl _)
          have HL3 : Hid ((line ++ [13, 10] ++ T0).length + (n ++ [58, 32] ++ v ++ [13, 10]).length ≤ 140737488355328) := (by show _ ≤ _; simp at hbd ⊢; omega)
          have a1 : ¬ 9223372036854775807 < n.length + 2 := by simp at hbd; omega
          have a2 : ¬ 9223372036854775807 < n.length + 2 + v.length := by simp at hbd; omega
          have a3 : ¬ 9223372036854775807 < n.length + 2 + v.length + 2 := by simp at hbd; omega
          clear hbd
          go_wp2_with (first | (at_builtin; refine Tryz.wl_text rfl _ _ rfl HG2.out HA.out.size rfl (n ++ [58, 32] ++ v ++ [13, 10]) (congrArg Value.string (cat4 n v)) HL3.out ?_; intro R2 w3 hO3 hb3) | fail)
          go_roundw
          case rel => exact ⟨i + 1, by simp, by omega, by rw [HN.out, ← List.append_assoc]; exact hO3, HA.out.trans hb3⟩
          case measure => simp [intOf]; omega
        · have q : ¬ (i : Int) < (L.length : Int) := by omega
          have e : L.take i = L := List.take_of_length_le (by omega)
          have HT : Hid (printedT line L body = line ++ [13, 10] ++ headText L ++ [13, 10] ++ body) := rfl
          have hbd := HHB.out i
          rw [e] at hbd
          have HG3 : Hid (Og wr w.heap.size u8 (line ++ [13, 10] ++ headText L)) := (by have := HG.out; rw [e] at this; exact this)
          clear e HG
          generalize headText L = T0 at *
          have HL4 : Hid ((line ++ [13, 10] ++ T0).length + [13, 10].length ≤ 140737488355328) := (by show _ ≤ _; simp; omega)
          have HL5 : Hid ((line ++ [13, 10] ++ T0 ++ [13, 10]).length + body.length ≤ 140737488355328) := (by show _ ≤ _; simp; omega)
          clear hbd
          go_wp2_with (first
            | (at_builtin; refine Tryz.wl_text rfl _ _ rfl HG3.out HB2.out.size rfl [13, 10] rfl HL4.out ?_; intro R3 w3 hO3 hb3; have hB3 := HB2.out.trans hb3; have hY3 := HYY.out.below hB3 HYL.out)
            | (at_builtin; refine Tryz.wl_bytes rfl _ _ rfl hO3 hB3.size rfl hY3 rfl HL5.out ?_; intro R4 w4 hO4 hb4)
            | fail)
          go_ret2
          exact ⟨hB3.trans hb4, .inl ⟨HOK.out, R4, rfl, by rw [HT.out]; exact hO4⟩⟩
    · have q1 : ((headSize line L : Nat) : Int) > 2048 := by omega
      have HNO : Hid (¬ printedOk line L) := fun e => h48 e.2
      clear h48
      generalize headSize line L = N at *
      go_enter Tryz.func40, Tryz.ntmps40
      go_wp2_with (first | (go_at_call 55; refine ks.mono ?_; clear ks; rintro e w1 ⟨rfl, hb1⟩) | fail)
      go_ret2
      exact ⟨hb1, .inr ⟨HNO.out, rfl⟩⟩
  · have q0 : (L.length : Int) > 32 := by omega
    have HNO : Hid (¬ printedOk line L) := fun e => h32 e.1
    go_enter Tryz.func40, Tryz.ntmps40
    go_wp2_with (fail)
    go_ret2
    exact ⟨Below.refl _ _, .inr ⟨HNO.out, rfl⟩⟩
end Go.Proofs
namespace Go.Wb
open Go.RowKit Go.Proofs
def bareI (st : Int) : Bool := st == 204 || st == 304
def okStI (st : Int) : Bool := decide (200 ≤ st) && decide (st ≤ 599)
def mayPrint (st : Int) (L : List (List UInt8 × List UInt8)) (body : List UInt8) : Bool := okStI st && !(bareI st && decide (0 < body.length)) && mayStand L
def lenH (dec : Int → List UInt8) (st : Int) (body : List UInt8) : List (List UInt8 × List UInt8) := if bareI st then [] else [(sCL, dec body.length)]
def prHeads (dec : Int → List UInt8) (st : Int) (L : List (List UInt8 × List UInt8)) (body : List UInt8) (last : Bool) : List (List UInt8 × List UInt8) := L ++ lenH dec st body ++ (if last then [(sCo, wClose)] else [])
def prLine (dec : Int → List UInt8) (st : Int) : List UInt8 := [72, 84, 84, 80, 47, 49, 46, 49, 32] ++ dec st ++ [32] ++ reason st
end Go.Wb
namespace Go.Proofs
open Go.RowKit Go.Wi Go.Wb
end Go.Proofs
namespace Go.Wb
theorem reason_len (n : Int) : (reason n).length ≤ 40 := by
  have h : ∀ (c : Prop) [Decidable c] (a b : List UInt8), a.length ≤ 40 → b.length ≤ 40 → (if c then a else b).length ≤ 40 := fun c _ a b ha hb => by split; exact ha; exact hb
  unfold reason
  repeat (refine h _ _ _ (by decide) ?_)
  decide
theorem cat3 (a b : List UInt8) : (⟨#[72, 84, 84, 80, 47, 49, 46, 49, 32]⟩ : ByteArray) ++ ⟨a.toArray⟩ ++ ⟨#[32]⟩ ++ ⟨b.toArray⟩ = ⟨([72, 84, 84, 80, 47, 49, 46, 49, 32] ++ a ++ [32] ++ b).toArray⟩ := by
  apply ByteArray.ext
  simp [ByteArray.data_append]
theorem Og.mono {w : World} {B B' : Nat} {V : Value} {l : List UInt8} (h : Og w B V l) (hB : B' ≤ B) : Og w B' V l := by
  obtain ⟨g, cap, rfl, h1, h2⟩ := h
  exact ⟨g, cap, rfl, Nat.le_trans hB h1, h2⟩
theorem lenH_len (dec : Int → List UInt8) (st : Int) (body : List UInt8) : (lenH dec st body).length ≤ 1 := by
  unfold lenH
  split <;> simp
end Go.Wb
namespace Go.Proofs
open Go.RowKit Go.Wi Go.Wb
/-- What PrintResponse answers of what may be printed. -/
def Tryz.Prd (w w' : World) (line : List UInt8) (H : List (List UInt8 × List UInt8)) (body : List UInt8) (e : Ending) : Prop :=
  Below w.heap.size w w' ∧ ((printedOk line H ∧ ∃ R, e = .returned (.tuple #[R, .int .i64 0]) ∧ Og w' w.heap.size R (printedT line H body)) ∨ (¬ printedOk line H ∧ e = .returned (.tuple #[.slice none 0 0, .int .i64 181])))
set_option maxHeartbeats 400000 in
/-- slices.Concat of a row of three. -/
theorem Tryz.concat3 {w : World} {V V4 V6 : Value} {L K M : List (List UInt8 × List UInt8)} (h1 : Hs w V L) (h2 : Hs w V4 K) (h3 : Hs w V6 M) (ht : L.length + K.length + M.length ≤ 4398046511104) :
    Calls Tryz.prog 41 #[.slice (some ⟨w.heap.size, 0, none⟩) 3 3] (w.alloc (.cells #[V, V4, V6] 25)) fun e w' => ∃ R, e = .returned R ∧ Hs w' R (L ++ K ++ M) ∧ Below w.heap.size w w' := by
  have hn : (w.alloc (.cells #[V, V4, V6] 25)).heap[w.heap.size]? = some (.cells #[V, V4, V6] 25 (0, 0)) := heap_alloc_new w _
  have hb : Below w.heap.size w (w.alloc (.cells #[V, V4, V6] 25)) := (Below.refl _ w).alloc (Nat.le_refl _) _
  have e1 : cat [(V, L), (V4, K), (V6, M)] = L ++ K ++ M := by simp [cat]
  have e2 : tot [(V, L), (V4, K), (V6, M)] = L.length + K.length + M.length := by simp [tot]; omega
  refine (Tryz.concat_any (c := 3) (block_lt hn) [(V, L), (V4, K), (V6, M)] (by simp) ?_ ?_ (by rw [e2]; exact ht)).mono ?_
  · intro j hj
    rw [cell_of_row _ _ _ _ _ _ hn]
    match j, hj with
    | 0, _ => rfl
    | 1, _ => rfl
    | 2, _ => rfl
  · intro p hp
    simp only [List.mem_cons, List.not_mem_nil, or_false] at hp
    rcases hp with rfl | rfl | rfl
    · exact h1.below hb
    · exact h2.below hb
    · exact h3.below hb
  · rintro e w' ⟨R, rfl, hr, hb'⟩
    rw [e1] at hr
    exact ⟨R, rfl, Hs.ofRow hr, hb.trans (hb'.mono hb.size)⟩
set_option maxRecDepth 20000 in
set_option maxHeartbeats 4000000 in
theorem Tryz.printResponse_yes {w : World} {V Y : Value} {L : List (List UInt8 × List UInt8)} {body : List UInt8} (dec : Int → List UInt8) (st : Int) (last : Bool) (hV : Hs w V L) (hY : Bs w Y body) (hYl : ∀ k, Y.ownBlock = some k → k < w.heap.size) (hl : ∀ x ∈ L, x.1.length ≤ 140737488355328 ∧ x.2.length ≤ 140737488355328) (hL : L.length ≤ 4398046511000) (hb : body.length ≤ 140737488351232)
    (hI : ∀ (n : Int) W, 0 ≤ n → n ≤ 9223372036854775807 → Below w.heap.size w W → Calls Tryz.prog 38 #[.int .i64 n] W fun e w' => e = .returned (.string ⟨(dec n).toArray⟩) ∧ Below W.heap.size W w') (hd : ∀ n : Int, 0 ≤ n → n ≤ 9223372036854775807 → (dec n).length ≤ 30) (hno : mayPrint st L body = true) :
    Calls Tryz.prog 17 #[.agg #[.int .i64 st, V, Y, .bool last]] w fun e w' => Tryz.Prd w w' (prLine dec st) (prHeads dec st L body last) body e := by
  obtain ⟨adY, capY, eY, hyr⟩ := hY.ex
  subst eY
  clear hyr
  obtain ⟨adV, capV, eV, hvr⟩ := hV.ex
  subst eV
  clear hvr
  have k1 := Tryz.hasNoBody_any st
  have k2 := Tryz.isStatus_any st
  have kR := Tryz.reason_any st
  have hA : Below w.heap.size w (w.alloc (.cells #[.int .i64 st, .slice adV L.length capV, .slice adY body.length capY, .bool last] 27)) := (Below.refl _ w).alloc (Nat.le_refl _) _
  have k3 := Tryz.mayStand_any (hV.below hA) (by omega) hl
  have HA : Hid _ := hA
  have e1 : (st == 204 || st == 304) = bareI st := rfl
  have e2 : (decide (200 ≤ st) && decide (st ≤ 599)) = okStI st := rfl
  rw [e2] at k2
  simp only [e1] at k1
  have hn0 := hno
  unfold mayPrint at hn0
  simp only [Bool.and_eq_true, Bool.not_eq_true'] at hn0
  obtain ⟨⟨ho, hbr⟩, hms⟩ := hn0
  have hst : 200 ≤ st ∧ st ≤ 599 := by simpa [okStI] using ho
  rw [ho] at k2
  rw [hms] at k3
  clear e1 e2 ho hms hno
  have HI : Hid _ := hI
  have hrl := reason_len st
  have HLL : Hid _ := hl
  have kI : ∀ W, Below w.heap.size w W → Calls Tryz.prog 38 #[.int .i64 st] W fun e w' => e = .returned (.string ⟨(dec st).toArray⟩) ∧ Below W.heap.size W w' := fun W hW => HI.out _ W (by omega) (by omega) hW
  have hdl := hd st (by omega) (by omega)
  have HDB : Hid ((dec body.length).length ≤ 30) := hd body.length (by omega) (by omega)
  have HC : Hid (∀ W, Below (w.heap.size + 1) (w.alloc (.cells #[.int .i64 st, .slice adV L.length capV, .slice adY body.length capY, .bool last] 27)) W → W.cell? ⟨w.heap.size, 0, none⟩ = some (.int .i64 st) ∧ W.cell? ⟨w.heap.size, 1, none⟩ = some (.slice adV L.length capV) ∧ W.cell? ⟨w.heap.size, 2, none⟩ = some (.slice adY body.length capY) ∧ W.cell? ⟨w.heap.size, 3, none⟩ = some (.bool last)) := fun W hW => by
    have hn := heap_alloc_new w (.cells #[.int .i64 st, .slice adV L.length capV, .slice adY body.length capY, .bool last] 27)
    exact ⟨(hW.cell (p := ⟨w.heap.size, 0, none⟩) (Nat.lt_succ_self _)).trans (cell_of_row _ _ 0 _ _ _ hn), (hW.cell (p := ⟨w.heap.size, 1, none⟩) (Nat.lt_succ_self _)).trans (cell_of_row _ _ 1 _ _ _ hn), (hW.cell (p := ⟨w.heap.size, 2, none⟩) (Nat.lt_succ_self _)).trans (cell_of_row _ _ 2 _ _ _ hn), (hW.cell (p := ⟨w.heap.size, 3, none⟩) (Nat.lt_succ_self _)).trans (cell_of_row _ _ 3 _ _ _ hn)⟩
  have hsz : (w.alloc (.cells #[.int .i64 st, .slice adV L.length capV, .slice adY body.length capY, .bool last] 27)).heap.size = w.heap.size + 1 := by simp
  have HS : Hid _ := hsz
  have hlen1 := lenH_len dec st body
  clear hd hI hA hsz
  have HH : Hid (lenH dec st body = if bareI st then [] else [(sCL, dec body.length)]) := rfl
  cases hbs : bareI st
  case' true =>
    rw [hbs] at k1 hbr HH
    have HV0 : Hid (∀ W, Hs W (.slice none 0 0) (lenH dec st body)) := fun W => by rw [HH.out]; exact ⟨⟨none, 0, rfl, .inl rfl⟩, .inl rfl⟩
    have hz : decide ((0 : Int) < (body.length : Int)) = false := by
      have h0 : ¬ 0 < body.length := by simpa using hbr
      exact decide_eq_false (by omega)
    have hz2 : ¬ ((body.length : Int) > 0) := by simpa using hz
    go_enter Tryz.func17, Tryz.ntmps17
    go_wp2_with (first
      | (go_at_call 34; refine (k1 _).mono ?_; rintro e w1 ⟨rfl, rfl⟩)
      | (go_at_call 35; refine (k2 _).mono ?_; rintro e w2 ⟨rfl, rfl⟩)
      | (go_at_call 36; refine k3.mono ?_; clear k3; rintro e w4 ⟨rfl, hb4'⟩; rw [HS.out] at hb4'; have hB4 := HA.out.trans (hb4'.mono (Nat.le_succ _)); have HS4 : Hid (w.heap.size + 1 ≤ w4.heap.size) := (by have := hb4'.size; rw [HS.out] at this; exact this); obtain ⟨d0, d1, d2, d3⟩ := HC.out w4 hb4')
      | fail)
    have hV4 := HV0.out w4
    clear hz hz2 HV0
  case' false =>
    rw [hbs] at k1 hbr HH
    have kl : ∀ W, Below w.heap.size w W → Calls Tryz.prog 37 #[.slice adY body.length capY] W fun e w' => ∃ V, e = .returned V ∧ Hs w' V (lenH dec st body) ∧ Below W.heap.size W w' := fun W hW => by
      rw [HH.out]
      exact Tryz.lengthOf_any (.slice adY body.length capY) body.length (dec body.length) ⟨_, _, rfl⟩ (by omega) fun W2 hW2 => HI.out _ W2 (by omega) (by omega) (hW.trans (hW2.mono hW.size))
    go_enter Tryz.func17, Tryz.ntmps17
    go_wp2_with (first
      | (go_at_call 34; refine (k1 _).mono ?_; rintro e w1 ⟨rfl, rfl⟩)
      | (go_at_call 35; refine (k2 _).mono ?_; rintro e w2 ⟨rfl, rfl⟩)
      | (go_at_call 36; refine k3.mono ?_; clear k3; rintro e w3 ⟨rfl, hb3⟩; rw [HS.out] at hb3; obtain ⟨c0, c1, c2, c3⟩ := HC.out w3 hb3; have hB3 := HA.out.trans (hb3.mono (Nat.le_succ _)))
      | (go_at_call 37; refine (kl _ hB3).mono ?_; clear kl; rintro e w4 ⟨V4, rfl, hV4, hb4⟩; obtain ⟨a4, c4, e4, -⟩ := hV4.ex; subst e4; have hB4 := hB3.trans (hb4.mono hB3.size); have hb4' := hb3.trans (hb4.mono (by have := hb3.size; rw [HS.out] at this; exact this)); have HS4 : Hid (w.heap.size + 1 ≤ w4.heap.size) := (by have := hb4'.size; rw [HS.out] at this; exact this); obtain ⟨d0, d1, d2, d3⟩ := HC.out w4 hb4')
      | fail)
    clear hb4 hB3 hb3 c0 c1 c2 c3
  all_goals
    have HK4 : Hid (∀ W, Below w4.heap.size w4 W → W.cell? ⟨w.heap.size, 0, none⟩ = some (.int .i64 st)) := fun W hW => (HC.out W (hb4'.trans (hW.mono HS4.out))).1
    have HB4 : Hid (Below w.heap.size w w4) := hB4
    have HV4 : Hid _ := hV4
    have HBP : Hid _ := hb4'
    clear hV4 hb4' hB4 d0 d1 d2 d3
    have a1 : ¬ 9223372036854775807 < 9 + (dec st).length := by omega
    have a2 : ¬ 9223372036854775807 < 9 + (dec st).length + 1 := by omega
    have a3 : ¬ 9223372036854775807 < 9 + (dec st).length + 1 + (reason st).length := by omega
    refine wp_region_quiet (C := fun W => Below w4.heap.size w4 W) (by kernel_rfl) (by kernel_rfl) ⟨rfl, rfl, rfl, Nat.le_refl _, fun _ _ => rfl⟩ ?_
    dsimp only
    refine Go.Wb.q_valW (v := .pointer (some ⟨w.heap.size, 0, none⟩)) (by kernel_rfl) (fun W _ => by go_simp) ?_
    try simp only [Act.put, List.setIfInBounds_toArray, List.set_cons_zero, List.set_cons_succ]
    refine Go.Wb.q_valW (v := .int .i64 st) (by kernel_rfl) (fun W hW => by have c := HK4.out W hW; go_simp) ?_
    try simp only [Act.put, List.setIfInBounds_toArray, List.set_cons_zero, List.set_cons_succ]
    refine Go.Wb.q_callW (v := .string ⟨(dec st).toArray⟩) (f := 38) (args := #[.int .i64 st]) (by kernel_rfl) (fun _ _ => by kernel_rfl) (fun W hW => (kI W (HB4.out.trans (hW.mono HB4.out.size))).mono fun _ _ ⟨h2, h3⟩ => ⟨h2, hW.trans (h3.mono hW.size)⟩) ?_
    try simp only [Act.put, List.setIfInBounds_toArray, List.set_cons_zero, List.set_cons_succ]
    refine Go.Wb.q_valW (v := .string ((⟨#[72, 84, 84, 80, 47, 49, 46, 49, 32]⟩ : ByteArray) ++ ⟨(dec st).toArray⟩)) (by kernel_rfl) (fun W _ => by go_simp) ?_
    try simp only [Act.put, List.setIfInBounds_toArray, List.set_cons_zero, List.set_cons_succ]
    refine Go.Wb.q_valW (v := .string ((⟨#[72, 84, 84, 80, 47, 49, 46, 49, 32]⟩ : ByteArray) ++ ⟨(dec st).toArray⟩ ++ ⟨#[32]⟩)) (by kernel_rfl) (fun W _ => by go_simp) ?_
    try simp only [Act.put, List.setIfInBounds_toArray, List.set_cons_zero, List.set_cons_succ]
    refine Go.Wb.q_valW (v := .pointer (some ⟨w.heap.size, 0, none⟩)) (by kernel_rfl) (fun W _ => by go_simp) ?_
    try simp only [Act.put, List.setIfInBounds_toArray, List.set_cons_zero, List.set_cons_succ]
    refine Go.Wb.q_valW (v := .int .i64 st) (by kernel_rfl) (fun W hW => by have c := HK4.out W hW; go_simp) ?_
    try simp only [Act.put, List.setIfInBounds_toArray, List.set_cons_zero, List.set_cons_succ]
    refine Go.Wb.q_callW (v := .string ⟨(reason st).toArray⟩) (f := 39) (args := #[.int .i64 st]) (by kernel_rfl) (fun _ _ => by kernel_rfl) (fun W hW => (kR W).mono fun _ _ ⟨h2, h3⟩ => ⟨h2, by rw [h3]; exact hW⟩) ?_
    try simp only [Act.put, List.setIfInBounds_toArray, List.set_cons_zero, List.set_cons_succ]
    refine Go.Wb.q_valW (v := .string ((⟨#[72, 84, 84, 80, 47, 49, 46, 49, 32]⟩ : ByteArray) ++ ⟨(dec st).toArray⟩ ++ ⟨#[32]⟩ ++ ⟨(reason st).toArray⟩)) (by kernel_rfl) (fun W _ => by go_simp) ?_
    try simp only [Act.put, List.setIfInBounds_toArray, List.set_cons_zero, List.set_cons_succ]
    refine Go.Wb.q_valW (v := .string ((⟨#[72, 84, 84, 80, 47, 49, 46, 49, 32]⟩ : ByteArray) ++ ⟨(dec st).toArray⟩ ++ ⟨#[32]⟩ ++ ⟨(reason st).toArray⟩)) (by kernel_rfl) (fun _ _ => by kernel_rfl) ?_
    try simp only [Act.put, List.setIfInBounds_toArray, List.set_cons_zero, List.set_cons_succ]
    refine wpQuiet_nil ?_
    intro W5 hW5
    have hBP5 := HBP.out.trans (hW5.mono HS4.out)
    have hB5 := HB4.out.trans (hW5.mono HB4.out.size)
    have hV5 := hV.below hB5
    have hV45 := HV4.out.below hW5
    have HY5 : Hid (∀ W, Below w.heap.size w W → Bs W (.slice adY body.length capY) body) := fun W hW => hY.below hW hYl
    have HSZ5 : Hid (w.heap.size + 1 ≤ W5.heap.size) := (by have := hBP5.size; rw [HS.out] at this; exact this)
    have HK5 : Hid (∀ W, Below W5.heap.size W5 W → W.cell? ⟨w.heap.size, 1, none⟩ = some (.slice adV L.length capV) ∧ W.cell? ⟨w.heap.size, 2, none⟩ = some (.slice adY body.length capY) ∧ W.cell? ⟨w.heap.size, 3, none⟩ = some (.bool last)) := fun W hW => (HC.out W (hBP5.trans (hW.mono HSZ5.out))).2
    have HB5 : Hid (Below w.heap.size w W5) := hB5
    have HV5 : Hid (Hs W5 (.slice adV L.length capV) L) := hV5
    have HV45 : Hid (Hs W5 _ (lenH dec st body)) := hV45
    have kLa := Tryz.lastOf_any last
    obtain ⟨c1, c2, c3⟩ := HK5.out W5 (Below.refl _ _)
    clear hV5 hV45 hB5 hBP5 hW5 HK4 HBP HB4 HV4 kI kR a1 a2 a3 k1 k2 hV hY
    have HYL : Hid (∀ k, (Value.slice adY body.length capY).ownBlock = some k → k < w.heap.size) := hYl
    have HLN : Hid (prLine dec st = [72, 84, 84, 80, 47, 49, 46, 49, 32] ++ dec st ++ [32] ++ reason st) := rfl
    have HLLN : Hid ((prLine dec st).length ≤ 100) := (by show (prLine dec st).length ≤ 100; rw [HLN.out]; simp only [List.length_append, List.length_cons, List.length_nil]; omega)
    rw [cat3, ← HLN.out]
    generalize hLN : prLine dec st = LN at *
    have HLNE : Hid (prLine dec st = LN) := hLN
    clear hLN
    clear hYl HLN hrl hdl
    go_upto_region 8 with (fail)
    have HT : Hid (∀ M : List (List UInt8 × List UInt8), M.length ≤ 1 → L.length + (lenH dec st body).length + M.length ≤ 4398046511104) := fun M hM => (by omega)
    have HLA : Hid (∀ x ∈ L ++ lenH dec st body ++ (if last then [(sCo, wClose)] else []), x.1.length ≤ 140737488355328 ∧ x.2.length ≤ 140737488355328) := fun x hx => by
      have hdb := HDB.out
      rcases List.mem_append.1 hx with hx | hx
      · rcases List.mem_append.1 hx with hx | hx
        · exact HLL.out x hx
        · rw [HH.out] at hx
          simp at hx
          try (subst hx; exact ⟨by show (14 : Nat) ≤ _; omega, by show (dec body.length).length ≤ _; omega⟩)
      · split at hx
        · simp at hx; subst hx; exact ⟨by decide, by decide⟩
        · simp at hx
    have HPH : Hid (prHeads dec st L body last = L ++ lenH dec st body ++ (if last then [(sCo, wClose)] else [])) := rfl
    have HLB : Hid (L.length + (lenH dec st body).length + (if last then [(sCo, wClose)] else [] : List (List UInt8 × List UInt8)).length ≤ 9223372036854775807) := Nat.le_trans (HT.out _ (by split <;> simp)) (by omega)
    have HBY : Hid (body.length ≤ 140737488351232) := hb
    have HL1 : Hid ((if last then [(sCo, wClose)] else [] : List (List UInt8 × List UInt8)).length ≤ 1) := (by show _ ≤ _; split <;> simp)
    generalize (if last then [(sCo, wClose)] else [] : List (List UInt8 × List UInt8)) = LA at *
    generalize lenH dec st body = LH at *
    clear hlen1
    go_region_held3 (fun W => W.cell? ⟨w.heap.size, 1, none⟩ = some (.slice adV L.length capV) ∧ W.cell? ⟨w.heap.size, 2, none⟩ = some (.slice adY body.length capY) ∧ W.cell? ⟨w.heap.size, 3, none⟩ = some (.bool last)) (first | exact ⟨c1, c2, c3⟩ | exact dd | exact hal _ | exact gg | exact jj) (first
      | (go_at_call 42; refine (kLa _).mono ?_; rintro e w6 ⟨V6, rfl, hV6, hb6⟩; obtain ⟨a6, c6, e6, -⟩ := hV6.ex; subst e6; have hB6 : Below W5.heap.size W5 w6 := ((Below.refl _ W5).drew).trans hb6; have dd := HK5.out w6 hB6; have hal : ∀ o, (w6.alloc o).cell? ⟨w.heap.size, 1, none⟩ = some (.slice adV L.length capV) ∧ (w6.alloc o).cell? ⟨w.heap.size, 2, none⟩ = some (.slice adY body.length capY) ∧ (w6.alloc o).cell? ⟨w.heap.size, 3, none⟩ = some (.bool last) := (fun o => HK5.out _ (hB6.alloc hB6.size o)); have kc := Tryz.concat3 (HV5.out.below hB6) (HV45.out.below hB6) hV6 (HT.out _ HL1.out); have HB6 : Hid _ := hB6; clear hb6 hB6 hV6)
      | (go_at_call 41; refine kc.mono ?_; clear kc; rintro e w7 ⟨V7, rfl, hH7, hb7⟩; have hB7 : Below W5.heap.size W5 w7 := HB6.out.trans (hb7.mono HB6.out.size); have gg := HK5.out w7 hB7; have kp := Tryz.printed_any hH7 (HY5.out w7 (HB5.out.trans (hB7.mono HB5.out.size))) (fun k e => Nat.lt_of_lt_of_le (HYL.out k e) (Nat.le_trans HB5.out.size hB7.size)) LN (Nat.le_trans HLLN.out (by omega)) HLA.out (by rw [List.length_append, List.length_append]; exact HLB.out) HBY.out; obtain ⟨a7, c7, e7, -⟩ := hH7.ex; obtain ⟨n7, hn7⟩ : ∃ n, n = (L ++ LH ++ LA).length := ⟨_, rfl⟩; rw [← hn7] at e7; subst e7; clear hn7; have HB7 : Hid _ := hB7; clear hb7 hB7 hH7)
      | (go_at_call 40; refine kp.mono ?_; clear kp; rintro e w8 ⟨hb8, h8⟩; have hB8 : Below W5.heap.size W5 w8 := HB7.out.trans (hb8.mono HB7.out.size); have jj := HK5.out w8 hB8; obtain ⟨R8, n8, rfl, h9⟩ : ∃ R n, e = .returned (.tuple #[R, .int .i64 n]) ∧ ((printedOk LN (L ++ LH ++ LA) ∧ n = 0 ∧ Og w8 w7.heap.size R (printedT LN (L ++ LH ++ LA) body)) ∨ (¬ printedOk LN (L ++ LH ++ LA) ∧ R = .slice none 0 0 ∧ n = 181)) := (by rcases h8 with ⟨q1, R, q2, q3⟩ | ⟨q1, q2⟩; exact ⟨R, 0, q2, .inl ⟨q1, rfl, q3⟩⟩; exact ⟨_, 181, q2, .inr ⟨q1, rfl, rfl⟩⟩); have H9 : Hid _ := h9; have HB8 : Hid _ := hB8; clear h8 hb8 h9 hB8)
      | fail)
    all_goals
      go_wp2
      go_ret2
      rw [HPH.out, HLNE.out]
      refine ⟨HB5.out.trans (HB8.out.mono HB5.out.size), ?_⟩
      rcases H9.out with ⟨q1, rfl, q3⟩ | ⟨q1, rfl, rfl⟩
      · exact .inl ⟨q1, R8, rfl, q3.mono (Nat.le_trans HB5.out.size HB7.out.size)⟩
      · exact .inr ⟨q1, rfl⟩
end Go.Proofs
