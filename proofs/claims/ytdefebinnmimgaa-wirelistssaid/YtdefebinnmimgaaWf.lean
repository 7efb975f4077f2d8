/-
  WireLists: lists of texts, written.
-/
import Derived.Test.YtdefebinnmimgaaWe
namespace Go.Wi
open Go.RowKit Go.Proofs
/-- A text's bytes, a list's, a list of lists'. -/
def xb (s : ByteArray) : List UInt8 := cnt s.size ++ s.data.toList
def xs (l : List ByteArray) : List UInt8 := l.flatMap xb
def yb (l : List ByteArray) : List UInt8 := cnt l.length ++ xs l
def ys (ll : List (List ByteArray)) : List UInt8 := ll.flatMap yb
theorem xs_app (a b : List ByteArray) : xs (a ++ b) = xs a ++ xs b := by simp [xs]
theorem ys_app (a b : List (List ByteArray)) : ys (a ++ b) = ys a ++ ys b := by simp [ys]
/-- How much they are, as the law counts. -/
def xw (l : List ByteArray) : Nat := (l.map fun s => 10 + s.size).sum
def yw (ll : List (List ByteArray)) : Nat := (ll.map fun l => 10 + xw l).sum
theorem xw_app (a b : List ByteArray) : xw (a ++ b) = xw a + xw b := by unfold xw; rw [List.map_append, List.sum_append_nat]
theorem yw_app (a b : List (List ByteArray)) : yw (a ++ b) = yw a + yw b := by unfold yw; rw [List.map_append, List.sum_append_nat]
theorem xw_one (s : ByteArray) : xw [s] = 10 + s.size := by simp [xw]
theorem yw_one (l : List ByteArray) : yw [l] = 10 + xw l := by simp [yw]
theorem xw_take (l : List ByteArray) (k : Nat) : xw (l.take k) ≤ xw l := by
  have e : xw l = xw (l.take k) + xw (l.drop k) := by rw [← xw_app, List.take_append_drop]
  omega
theorem yw_take (l : List (List ByteArray)) (k : Nat) : yw (l.take k) ≤ yw l := by
  have e : yw l = yw (l.take k) + yw (l.drop k) := by rw [← yw_app, List.take_append_drop]
  omega
theorem xw_at {l : List ByteArray} {k : Nat} (h : k < l.length) : xw (l.take k) + (10 + l[k].size) ≤ xw l := by
  have e := xw_take l (k + 1)
  rw [← List.take_append_getElem h, xw_app, xw_one] at e
  exact e
theorem yw_at {l : List (List ByteArray)} {k : Nat} (h : k < l.length) : yw (l.take k) + (10 + xw l[k]) ≤ yw l := by
  have e := yw_take l (k + 1)
  rw [← List.take_append_getElem h, yw_app, yw_one] at e
  exact e
theorem xw_len (l : List ByteArray) : 10 * l.length ≤ xw l := by
  induction l with
  | nil => simp [xw]
  | cons s r ih => rw [show s :: r = [s] ++ r from rfl, xw_app, xw_one, List.length_append]; simp; omega
theorem yw_len (l : List (List ByteArray)) : 10 * l.length ≤ yw l := by
  induction l with
  | nil => simp [yw]
  | cons s r ih => rw [show s :: r = [s] ++ r from rfl, yw_app, yw_one, List.length_append]; simp; omega
theorem xw_mem {l : List ByteArray} {s : ByteArray} (h : s ∈ l) : s.size ≤ xw l := by
  obtain ⟨k, hk, rfl⟩ := List.mem_iff_getElem.1 h
  have := xw_at hk
  omega
theorem yw_mem {ll : List (List ByteArray)} {l : List ByteArray} (h : l ∈ ll) : xw l + 10 ≤ yw ll := by
  obtain ⟨k, hk, rfl⟩ := List.mem_iff_getElem.1 h
  have := yw_at hk
  omega
theorem xb_len (s : ByteArray) (h : s.size < 18446744073709551616) : 1 ≤ (xb s).length ∧ (xb s).length ≤ 10 + s.size := by
  have h2 := cnt_len10 h
  have hd : s.data.toList.length = s.size := rfl
  unfold xb
  rw [List.length_append, hd]
  omega
theorem xs_len (l : List ByteArray) (h : ∀ s ∈ l, s.size < 18446744073709551616) : l.length ≤ (xs l).length ∧ (xs l).length ≤ xw l := by
  induction l with
  | nil => simp [xs, xw]
  | cons s r ih =>
    have h1 := xb_len s (h s (by simp))
    have h2 := ih fun m hm => h m (by simp [hm])
    have e : xs (s :: r) = xb s ++ xs r := rfl
    have e2 : xw (s :: r) = 10 + s.size + xw r := by simp [xw]
    rw [e, e2, List.length_append, List.length_cons]
    omega
theorem yb_len (l : List ByteArray) (h : xw l < 18446744073709551616) : 1 ≤ (yb l).length ∧ (yb l).length ≤ 10 + xw l := by
  have h1 := xw_len l
  have h2 := cnt_len10 (n := l.length) (by omega)
  have h3 := xs_len l (fun s hs => by have := xw_mem hs; omega)
  unfold yb
  rw [List.length_append]
  omega
theorem ys_len (ll : List (List ByteArray)) (h : yw ll < 18446744073709551616) : ll.length ≤ (ys ll).length ∧ (ys ll).length ≤ yw ll := by
  induction ll with
  | nil => simp [ys, yw]
  | cons l r ih =>
    have e2 : yw (l :: r) = 10 + xw l + yw r := by simp [yw]
    have h1 := yb_len l (by omega)
    have h2 := ih (by omega)
    have e : ys (l :: r) = yb l ++ ys r := rfl
    rw [e, e2, List.length_append, List.length_cons]
    omega
/-- Texts that lie somewhere. -/
structure Tx (w : World) (v : Value) (l : List ByteArray) : Prop where
  ex : ∃ ad cap, v = .slice ad l.length cap ∧ (l = [] ∨ ∃ g o, ad = some ⟨g, o, none⟩ ∧ g < w.heap.size ∧ ∀ j (hj : j < l.length), w.cell? ⟨g, o + j, none⟩ = some (.string l[j]))
  nz : ∀ n cap, v = .slice none n cap → cap = 0
theorem Tx.up {w w' : World} {v : Value} {l : List ByteArray} (h : Tx w v l) (g : Below w.heap.size w w') : Tx w' v l := by
  obtain ⟨ad, cap, rfl, h1⟩ := h.ex
  refine ⟨⟨ad, cap, rfl, ?_⟩, h.nz⟩
  rcases h1 with h1 | ⟨gg, o, rfl, hg, h1⟩
  · exact .inl h1
  · exact .inr ⟨gg, o, rfl, Nat.lt_of_lt_of_le hg g.size, fun j hj => (g.cell (p := ⟨gg, o + j, none⟩) hg).trans (h1 j hj)⟩
/-- Lists of texts that lie somewhere. -/
structure Txs (w : World) (v : Value) (ll : List (List ByteArray)) : Prop where
  ex : ∃ ad cap, v = .slice ad ll.length cap ∧ (ll = [] ∨ ∃ g o, ad = some ⟨g, o, none⟩ ∧ g < w.heap.size ∧ ∀ j (hj : j < ll.length), ∃ u, w.cell? ⟨g, o + j, none⟩ = some u ∧ Tx w u ll[j])
theorem Txs.up {w w' : World} {v : Value} {ll : List (List ByteArray)} (h : Txs w v ll) (g : Below w.heap.size w w') : Txs w' v ll := by
  obtain ⟨ad, cap, rfl, h1⟩ := h.ex
  refine ⟨⟨ad, cap, rfl, ?_⟩⟩
  rcases h1 with h1 | ⟨gg, o, rfl, hg, h1⟩
  · exact .inl h1
  · refine .inr ⟨gg, o, rfl, Nat.lt_of_lt_of_le hg g.size, fun j hj => ?_⟩
    obtain ⟨u, h2, h3⟩ := h1 j hj
    exact ⟨u, (g.cell (p := ⟨gg, o + j, none⟩) hg).trans h2, h3.up g⟩
/-- The same, in blocks that are named. -/
structure Txo (ok : Nat → Prop) (w : World) (v : Value) (l : List ByteArray) : Prop where
  ex : ∃ ad cap, v = .slice ad l.length cap ∧ (l = [] ∨ ∃ g o, ad = some ⟨g, o, none⟩ ∧ ok g ∧ ∀ j (hj : j < l.length), w.cell? ⟨g, o + j, none⟩ = some (.string l[j]))
structure Txso (ok : Nat → Prop) (w : World) (v : Value) (ll : List (List ByteArray)) : Prop where
  ex : ∃ ad cap, v = .slice ad ll.length cap ∧ (ll = [] ∨ ∃ g o, ad = some ⟨g, o, none⟩ ∧ ok g ∧ ∀ j (hj : j < ll.length), ∃ u, w.cell? ⟨g, o + j, none⟩ = some u ∧ Txo ok w u ll[j])
end Go.Wi
namespace Go.Proofs
open Go.RowKit Go.Wi
/-- A writer; of what was there its own block alone may have turned. -/
structure Try.WL (w0 w : World) (x : Nat) (l : List UInt8) : Prop where
  ex : ∃ own, Try.Wt 88 w own x l ∧ ∀ k, own k → k = x ∨ w0.heap.size ≤ k
  wo : Wo (fun k => k = x) w0 w
theorem Try.WL.chg {w0 w w' : World} {x : Nat} {l l' : List UInt8} {own : Nat → Prop} (h : Try.WL w0 w x l) (ho : ∀ k, own k → k = x ∨ w0.heap.size ≤ k) (hc : Try.WChg 88 own w w' x l') : Try.WL w0 w' x l' := by
  obtain ⟨own', h1, h2⟩ := hc.ex
  have hle := h.wo.size
  refine ⟨⟨own', h1, fun k e => ?_⟩, h.wo.step ho hc.wo⟩
  rcases h2 k e with e1 | e1
  · exact ho k e1
  · exact .inr (by omega)
theorem Try.WL.cell {w0 w : World} {x : Nat} {l : List UInt8} (h : Try.WL w0 w x l) {g i : Nat} (hg : g < w0.heap.size ∧ g ≠ x) : w.cell? ⟨g, i, none⟩ = w0.cell? ⟨g, i, none⟩ := by
  have := h.wo.block g hg.1 hg.2
  simp only [World.cell?, this]
set_option maxHeartbeats 1000000 in
theorem Try.lCount {w0 w : World} {x : Nat} {l : List UInt8} (h : Try.WL w0 w x l) (n : Nat) (hn : n < 18446744073709551616) (hlen : l.length ≤ 140737488355300) :
    Calls Try.prog 47 #[.pointer (some ⟨x, 0, none⟩), .int .u64 n] w fun e w' => (∃ v, e = .returned v) ∧ Try.WL w0 w' x (l ++ cnt n) := by
  obtain ⟨own, h1, h2⟩ := h.ex
  exact (Try.count_any h1 n hn hlen).mono fun _ _ ⟨e1, e2⟩ => ⟨e1, h.chg h2 e2⟩
set_option maxHeartbeats 1000000 in
theorem Try.wOneT {w0 w : World} {x : Nat} {l : List UInt8} (h : Try.WL w0 w x l) (s : ByteArray) (hlen : l.length + s.size ≤ 140737488355290) :
    Calls Try.prog 29 #[.pointer (some ⟨x, 0, none⟩), .string s] w fun e w' => (∃ v, e = .returned v) ∧ Try.WL w0 w' x (l ++ xb s) := by
  have h1 : Calls Try.prog 21 #[.pointer (some ⟨x, 0, none⟩), .string s] w fun e w' => (∃ v, e = .returned v) ∧ Try.WL w0 w' x (l ++ xb s) := by
    obtain ⟨own, g1, g2⟩ := h.ex
    exact (Try.wText_any g1 s hlen).mono fun _ _ ⟨e1, e2⟩ => ⟨e1, h.chg g2 e2⟩
  clear hlen
  go_enter Try.func29, Try.ntmps29
  go_wp2_with (first | (go_at_call 21; refine h1.mono ?_; clear h1; rintro e w2 ⟨⟨v, rfl⟩, h2⟩) | fail)
  go_end0
  exact ⟨⟨_, rfl⟩, h2⟩
set_option maxHeartbeats 2000000 in
theorem Try.funcNilW (T : TypeId) (hT : T = 52 ∨ T = 53) (f : FuncId) (w : World) : (binOp .eql T (.func (.func f) #[] #[]) .nilFunc).run Try.prog w = .ok (.bool false) w := by
  rcases hT with rfl | rfl
  · kernel_rfl
  · kernel_rfl
set_option maxHeartbeats 2000000 in
theorem Try.writeTexts_any {w0 w : World} {y : Nat} {l : List UInt8} {lv : Value} {li : List ByteArray} (h : Try.WL w0 w y l) (hI : Txo (fun g => g < w0.heap.size ∧ g ≠ y) w0 lv li) (hlen : l.length + xw li ≤ 140737488355000) :
    Calls Try.prog 28 #[.pointer (some ⟨y, 0, none⟩), lv, .func (.func 29) #[] #[]] w fun e w' => (∃ v, e = .returned v) ∧ Try.WL w0 w' y (l ++ yb li) := by
  obtain ⟨ad, cap, rfl, hcs⟩ := hI.ex
  have hxl := xw_len li
  have h1 := Try.lCount h li.length (by omega) (by omega)
  have hw64 : IntKind.u64.wrap (li.length : Int) = li.length := by rw [IntKind.wrap_u64]; omega
  have hcl := cnt_len10 (n := li.length) (by omega)
  have Hcl : Hid (1 ≤ (cnt li.length).length ∧ (cnt li.length).length ≤ 10) := hcl
  have Hlen : Hid (l.length + xw li ≤ 140737488355000) := hlen
  have hl63 : li.length ≤ 9223372036854775807 := by omega
  have hfn := Try.funcNilW 52 (.inl rfl) 29
  clear hlen hcl h hI hxl
  go_enter Try.func28, Try.ntmps28
  go_wp2_with (first
    | (go_at_call 47; refine h1.mono ?_; clear h1; rintro e w2 ⟨⟨v2, rfl⟩, hW2⟩)
    | fail)
  have HW2 : Hid (Try.WL w0 w2 y (l ++ cnt li.length)) := hW2
  clear hW2
  go_loopw [7, 17] (fun _ i wr => ∃ k : Nat, k ≤ li.length ∧ i = .int .i64 k ∧ Try.WL w0 wr y ((l ++ cnt li.length) ++ xs (li.take k))) (fun _ i _ => li.length - (intOf i).toNat)
  case atStart => exact ⟨0, Nat.zero_le _, rfl, by simpa [xs] using HW2.out⟩
  case round =>
    obtain ⟨k, hk, rfl, hW⟩ := hrel
    by_cases hkm : k < li.length
    · have q0 : (k : Int) < (li.length : Int) := by omega
      have hc : ∃ sb so, ad = some ⟨sb, so, none⟩ ∧ wr.cell? ⟨sb, so + k, none⟩ = some (.string li[k]) := by
        rcases hcs with rfl | ⟨sb, so, e, hb, h2⟩
        · simp at hkm
        · exact ⟨sb, so, e, (hW.cell hb).trans (h2 k hkm)⟩
      obtain ⟨sb, so, rfl, hc⟩ := hc
      have hzl := xs_len (li.take k) (fun s hs => by have := xw_mem (List.mem_of_mem_take hs); have := Hlen.out; omega)
      have Hzl : Hid (((l ++ cnt li.length) ++ xs (li.take k)).length + li[k].size ≤ 140737488355290) := (by
        have h2 := Hlen.out
        have h3 := Hcl.out
        have h4 := xw_at hkm
        show ((l ++ cnt li.length) ++ xs (li.take k)).length + li[k].size ≤ _
        rw [List.length_append, List.length_append]; omega)
      have h3 := Try.wOneT hW li[k] Hzl.out
      have Hz : Hid (((l ++ cnt li.length) ++ xs (li.take k)) ++ xb li[k] = (l ++ cnt li.length) ++ xs (li.take (k + 1))) := (by
        have e : xs (li.take (k + 1)) = xs (li.take k) ++ xb li[k] := by
          rw [← List.take_append_getElem hkm, xs_app]; simp [xs]
        show _ = _
        rw [e, List.append_assoc (l ++ cnt li.length)])
      clear hzl hcs
      go_wp2_with (first
        | (go_at_call 29; refine h3.mono ?_; clear h3; rintro e w4 ⟨⟨v4, rfl⟩, hW4⟩)
        | fail)
      go_roundw
      case rel => exact ⟨k + 1, by omega, by go_num, by rw [← Hz.out]; exact hW4⟩
      case measure => simp [intOf]; omega
    · have q0 : ¬ (k : Int) < (li.length : Int) := by omega
      have hkk : k = li.length := by omega
      subst hkk
      go_wp2
      go_end0
      refine ⟨⟨_, rfl⟩, ?_⟩
      rw [List.take_length, List.append_assoc] at hW
      exact hW
set_option maxHeartbeats 1000000 in
theorem Try.wOneL {w0 w : World} {y : Nat} {l : List UInt8} {lv : Value} {li : List ByteArray} (h : Try.WL w0 w y l) (hI : Txo (fun g => g < w0.heap.size ∧ g ≠ y) w0 lv li) (hlen : l.length + xw li ≤ 140737488355000) :
    Calls Try.prog 27 #[.pointer (some ⟨y, 0, none⟩), lv] w fun e w' => (∃ v, e = .returned v) ∧ Try.WL w0 w' y (l ++ yb li) := by
  have h1 := Try.writeTexts_any h hI hlen
  obtain ⟨ad, cap, rfl, -⟩ := hI.ex
  clear hlen hI
  go_enter Try.func27, Try.ntmps27
  go_wp2_with (first | (go_at_call 28; refine h1.mono ?_; clear h1; rintro e w2 ⟨⟨v, rfl⟩, h2⟩) | fail)
  go_end0
  exact ⟨⟨_, rfl⟩, h2⟩
set_option maxHeartbeats 2000000 in
theorem Try.writeLists_any {w0 w : World} {y : Nat} {l : List UInt8} {lv : Value} {li : List (List ByteArray)} (h : Try.WL w0 w y l) (hI : Txso (fun g => g < w0.heap.size ∧ g ≠ y) w0 lv li) (hlen : l.length + yw li ≤ 140737488354000) :
    Calls Try.prog 26 #[.pointer (some ⟨y, 0, none⟩), lv, .func (.func 27) #[] #[]] w fun e w' => (∃ v, e = .returned v) ∧ Try.WL w0 w' y (l ++ (cnt li.length ++ ys li)) := by
  obtain ⟨ad, cap, rfl, hcs⟩ := hI.ex
  have hxl := yw_len li
  have h1 := Try.lCount h li.length (by omega) (by omega)
  have hw64 : IntKind.u64.wrap (li.length : Int) = li.length := by rw [IntKind.wrap_u64]; omega
  have hcl := cnt_len10 (n := li.length) (by omega)
  have Hcl : Hid (1 ≤ (cnt li.length).length ∧ (cnt li.length).length ≤ 10) := hcl
  have Hlen : Hid (l.length + yw li ≤ 140737488354000) := hlen
  have hl63 : li.length ≤ 9223372036854775807 := by omega
  have hfn := Try.funcNilW 53 (.inr rfl) 27
  clear hlen hcl h hI hxl
  go_enter Try.func26, Try.ntmps26
  go_wp2_with (first
    | (go_at_call 47; refine h1.mono ?_; clear h1; rintro e w2 ⟨⟨v2, rfl⟩, hW2⟩)
    | fail)
  have HW2 : Hid (Try.WL w0 w2 y (l ++ cnt li.length)) := hW2
  clear hW2
  go_loopw [7, 17] (fun _ i wr => ∃ k : Nat, k ≤ li.length ∧ i = .int .i64 k ∧ Try.WL w0 wr y ((l ++ cnt li.length) ++ ys (li.take k))) (fun _ i _ => li.length - (intOf i).toNat)
  case atStart => exact ⟨0, Nat.zero_le _, rfl, by simpa [ys] using HW2.out⟩
  case round =>
    obtain ⟨k, hk, rfl, hW⟩ := hrel
    by_cases hkm : k < li.length
    · have q0 : (k : Int) < (li.length : Int) := by omega
      have hc : ∃ sb so u, ad = some ⟨sb, so, none⟩ ∧ wr.cell? ⟨sb, so + k, none⟩ = some u ∧ Txo (fun g => g < w0.heap.size ∧ g ≠ y) w0 u li[k] := by
        rcases hcs with rfl | ⟨sb, so, e, hb, h2⟩
        · simp at hkm
        · obtain ⟨u, h3, h4⟩ := h2 k hkm
          exact ⟨sb, so, u, e, (hW.cell hb).trans h3, h4⟩
      obtain ⟨sb, so, u, rfl, hc, hTx⟩ := hc
      have hzl := ys_len (li.take k) (by have := yw_take li k; have := Hlen.out; omega)
      have Hzl : Hid (((l ++ cnt li.length) ++ ys (li.take k)).length + xw li[k] ≤ 140737488355000) := (by
        have h2 := Hlen.out
        have h3 := Hcl.out
        have h4 := yw_at hkm
        show ((l ++ cnt li.length) ++ ys (li.take k)).length + xw li[k] ≤ _
        rw [List.length_append, List.length_append]; omega)
      have h3 := Try.wOneL hW hTx Hzl.out
      obtain ⟨ua, uc, rfl, -⟩ := hTx.ex
      have Hz : Hid (((l ++ cnt li.length) ++ ys (li.take k)) ++ yb li[k] = (l ++ cnt li.length) ++ ys (li.take (k + 1))) := (by
        have e : ys (li.take (k + 1)) = ys (li.take k) ++ yb li[k] := by
          rw [← List.take_append_getElem hkm, ys_app]; simp [ys]
        show _ = _
        rw [e, List.append_assoc (l ++ cnt li.length)])
      clear hzl hcs hTx
      go_wp2_with (first
        | (go_at_call 27; refine h3.mono ?_; clear h3; rintro e w4 ⟨⟨v4, rfl⟩, hW4⟩)
        | fail)
      go_roundw
      case rel => exact ⟨k + 1, by omega, by go_num, by rw [← Hz.out]; exact hW4⟩
      case measure => simp [intOf]; omega
    · have q0 : ¬ (k : Int) < (li.length : Int) := by omega
      have hkk : k = li.length := by omega
      subst hkk
      go_wp2
      go_end0
      refine ⟨⟨_, rfl⟩, ?_⟩
      rw [List.take_length, List.append_assoc] at hW
      exact hW
end Go.Proofs
