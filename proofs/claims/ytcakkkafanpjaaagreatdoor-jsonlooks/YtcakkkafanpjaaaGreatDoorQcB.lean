/-
  Laid together by packg.py of TqA JStrs TqB.
-/
import Derived.Test.YtcakkkafanpjaaaGreatDoorQaX
import Derived.Test.YtcakkkafanpjaaaGreatDoorPTnP
import Derived.Test.YtcakkkafanpjaaaGreatDoorQaI
import Derived.BigQuiet
import Derived.SliceStrings
import Derived.SizedLaws
import Derived.Below
import Derived.Carry
namespace Go.Jv
/-- Look, as far as one comes. -/
def lookO (o : Option V) (l : List ByteArray) : Option V := l.foldl (fun o k => o.bind fun v => getR v k) o
theorem lookO_step (o : Option V) (l : List ByteArray) (k : Nat) (h : k < l.length) : lookO o (l.take (k + 1)) = (lookO o (l.take k)).bind fun v => getR v l[k] := by
  unfold lookO
  rw [← List.take_append_getElem h, List.foldl_append]
  rfl
theorem lookO_none : ∀ l : List ByteArray, lookO none l = none
  | [] => rfl
  | _ :: l => lookO_none l
theorem lookO_app (o : Option V) (a b : List ByteArray) : lookO o (a ++ b) = lookO (lookO o a) b := by
  unfold lookO; rw [List.foldl_append]
theorem lookO_stop (o : Option V) (l : List ByteArray) (k : Nat) (h : lookO o (l.take k) = none) : lookO o l = none := by
  rw [← List.take_append_drop k l, lookO_app, h, lookO_none]
theorem getR_gd {v u : V} {d : Nat} {key : ByteArray} (hg : Gd d v) (h : getR v key = some u) : ∃ d', Gd d' u := by
  cases v with
  | obj ks l =>
    rw [getR_obj] at h
    split at h
    · cases d with
      | zero => exact absurd hg (by simp [Gd])
      | succ d => obtain ⟨-, -, -, -, g⟩ := hg; exact ⟨d, g u (List.mem_of_getElem? h)⟩
    · cases h
  | null => cases h
  | bool b => cases h
  | int n => cases h
  | text s => cases h
  | list l => cases h
end Go.Jv
namespace Go.Proofs
open Go.RowKit Go.Jv
/-- A value of the program's, or none. -/
def Tryz.Po (w : World) (ok : Nat → Prop) (o : Option V) (p : Option Addr) : Prop := (o = none ∧ p = none) ∨ ∃ v x d, o = some v ∧ p = some ⟨x, 0, none⟩ ∧ Tryz.Tr w ok v x ∧ Gd d v
/-- .. of the document's. -/
def Tryz.Do (w : World) (ok : Nat → Prop) (o : Option V) (p : Option Addr) : Prop := (o = none ∧ p = none) ∨ ∃ v x d, o = some v ∧ p = some ⟨x, 0, none⟩ ∧ Tryz.Td w ok v x ∧ Gd d v
theorem Tryz.Po.keep {w w' : World} {ok : Nat → Prop} {o : Option V} {p : Option Addr} (hk : ∀ g, ok g → g < w.heap.size → w'.heap[g]? = w.heap[g]?) (hs : w.heap.size ≤ w'.heap.size) (h : Tryz.Po w ok o p) : Tryz.Po w' ok o p := by
  rcases h with h | ⟨v, x, d, h1, h2, h3, h4⟩
  · exact .inl h
  · exact .inr ⟨v, x, d, h1, h2, Tryz.Tr_keep hk hs _ _ h3, h4⟩
theorem Tryz.Do.keep {w w' : World} {ok : Nat → Prop} {o : Option V} {p : Option Addr} (hk : ∀ g, ok g → g < w.heap.size → w'.heap[g]? = w.heap[g]?) (hs : w.heap.size ≤ w'.heap.size) (h : Tryz.Do w ok o p) : Tryz.Do w' ok o p := by
  rcases h with h | ⟨v, x, d, h1, h2, h3, h4⟩
  · exact .inl h
  · exact .inr ⟨v, x, d, h1, h2, Tryz.Td_keep hk hs _ _ h3, h4⟩
theorem Tryz.nget (key : ByteArray) (w : World) : Calls Tryz.prog 28 #[.pointer none, .string key] w fun e w' => e = .returned (.pointer none) ∧ w' = w := by
  have hk := Tryz.nkind w
  go_enter Tryz.func28, Tryz.ntmps28
  go_wp2_with (first
    | (go_at_call 12; refine hk.mono ?_; clear hk; rintro e w1 ⟨rfl, rfl⟩)
    | fail)
  go_ret
  exact ⟨rfl, rfl⟩
theorem Jv.gd_shape {d : Nat} {ks : List ByteArray} {vs : List V} (h : Gd d (.obj ks vs)) : ks.length ≤ 64 ∧ vs.length = ks.length ∧ ∀ u ∈ vs, ∃ d', Gd d' u := by
  cases d with
  | zero => exact absurd h (by simp [Gd])
  | succ d => obtain ⟨g1, g2, -, -, g3⟩ := h; exact ⟨by omega, g1.symm, fun u hu => ⟨d, g3 u hu⟩⟩
/-- Get of the program's. -/
theorem Tryz.get_p {w : World} {ok : Nat → Prop} {o : Option V} {p : Option Addr} (h : Tryz.Po w ok o p) (key : ByteArray) :
    Calls Tryz.prog 28 #[.pointer p, .string key] w fun e w' => ∃ p', e = .returned (.pointer p') ∧ (∃ q, w' = w.drewN q) ∧ Tryz.Po w ok (o.bind fun v => getR v key) p' := by
  rcases h with ⟨rfl, rfl⟩ | ⟨v, x, d, rfl, rfl, h3, h4⟩
  · exact (Tryz.nget key w).mono fun e w' ⟨h1, h2⟩ => ⟨none, h1, ⟨0, h2⟩, .inl ⟨rfl, rfl⟩⟩
  · refine (Tryz.getr_any (fun v => ∃ d, Gd d v) (fun ks vs ⟨d, h⟩ => Jv.gd_shape h) h3 ⟨d, h4⟩ key).mono ?_
    rintro e w' ⟨h1, h2 | ⟨u, y, h2, h5, h6, d', h7⟩⟩
    · exact ⟨none, h2.2, h1, .inl ⟨h2.1, rfl⟩⟩
    · exact ⟨_, h5, h1, .inr ⟨u, y, d', h2, rfl, h6, h7⟩⟩
theorem Tryz.rget_nil (key : ByteArray) (w : World) : Calls Tryz.prog 29 #[.pointer none, .string key] w fun e w' => e = .returned (.pointer none) ∧ w' = w := by
  go_enter Tryz.func29, Tryz.ntmps29
  go_wp2
  go_ret
  exact ⟨rfl, rfl⟩
set_option maxHeartbeats 1000000 in
theorem Tryz.rget_no {w : World} {x : Nat} {k : Int} {tr : Bool} {n : Int} {s : ByteArray} {is : Value} (h : Jv.Vb w x k tr n s is Jv.nilS) (key : ByteArray) :
    Calls Tryz.prog 29 #[.pointer (some ⟨x, 0, none⟩), .string key] w fun e w' => e = .returned (.pointer none) ∧ w' = w := by
  have hc : w.cell? ⟨x, 5, none⟩ = some (.slice none 0 0) := h.c5
  clear h
  go_enter Tryz.func29, Tryz.ntmps29
  go_wp2
  go_loopw [5] (fun i wr => i = .int .i64 0 ∧ wr = w) (fun _ _ => 0)
  case atStart => exact ⟨rfl, rfl⟩
  case round =>
    obtain ⟨rfl, rfl⟩ := hrel
    go_wp2
    go_ret
    exact ⟨rfl, rfl⟩
theorem Jv.getR_first {ks : List ByteArray} {vs : List V} {key : ByteArray} (hr : Rising ks) (i : Nat) (hi : i < ks.length) (h : ks[i] = key) : getR (.obj ks vs) key = vs[i]? := by
  rw [getR_obj, ← h, place_own hr i hi, if_pos (by simp [hi])]
theorem Jv.getR_last {ks : List ByteArray} {vs : List V} {key : ByteArray} (h : ∀ j (hj : j < ks.length), ks[j] ≠ key) : getR (.obj ks vs) key = none := by
  rw [getR_obj, if_neg]
  intro e
  obtain ⟨h1, h2⟩ := List.getElem?_eq_some_iff.1 e
  exact h _ h1 h2
theorem Jv.no_step {ks : List ByteArray} {key : ByteArray} {i : Nat} (h : ∀ j (hj : j < ks.length), j < i → ks[j] ≠ key) (hi : i < ks.length) (hk : ks[i] ≠ key) : ∀ j (hj : j < ks.length), j < i + 1 → ks[j] ≠ key := by
  intro j hj hlt
  rcases Nat.lt_or_ge j i with h1 | h1
  · exact h j hj h1
  · have e : j = i := by omega
    subst e
    exact hk
set_option maxHeartbeats 2000000 in
theorem Tryz.rget_obj {w : World} {ok : Nat → Prop} {x : Nat} {ks : List ByteArray} {vs : List V} (h : Tryz.Td w ok (.obj ks vs) x) (hl : ks.length ≤ 64) (hvs : vs.length = ks.length) (hris : Rising ks) (key : ByteArray) :
    Calls Tryz.prog 29 #[.pointer (some ⟨x, 0, none⟩), .string key] w fun e w' => w' = w ∧ ((getR (.obj ks vs) key = none ∧ e = .returned (.pointer none)) ∨ ∃ u y, getR (.obj ks vs) key = some u ∧ e = .returned (.pointer (some ⟨y, 0, none⟩)) ∧ Tryz.Td w ok u y) := by
  unfold Tryz.Td at h
  obtain ⟨_, kv, sv, ys, hvy, hkr, hir, htr, hlen⟩ := h
  have ly := Tryz.Tds_len vs ys htr
  have py : (Jv.ptrs ys).length = ks.length := by simp [Jv.ptrs, hlen]
  have pk : (ks.map Value.string).length = ks.length := by simp
  obtain ⟨a2, c2, e2⟩ := Jv.row_form hir.row
  obtain ⟨a4, c4, e4⟩ := Jv.row_form hkr.row
  rw [py] at e2
  rw [pk] at e4
  subst e2 e4
  have h4 := hvy.c4
  have h5 := hvy.c5
  have HC : Hid (∀ i (hi : i < ks.length), ∃ g2 g4 y, a2 = some ⟨g2, 0, none⟩ ∧ a4 = some ⟨g4, 0, none⟩ ∧ w.cell? ⟨g2, i, none⟩ = some (.pointer (some ⟨y, 0, none⟩)) ∧ w.cell? ⟨g4, i, none⟩ = some (.string ks[i]) ∧ ∃ u, vs[i]? = some u ∧ Tryz.Td w ok u y) := fun i hi => by
    obtain ⟨g2, d2, f2, -, -, cl2⟩ := Jv.row_cells hir (by omega)
    obtain ⟨g4, d4, f4, -, -, cl4⟩ := Jv.row_cells hkr (by omega)
    injection f2 with f2 _ _
    injection f4 with f4 _ _
    obtain ⟨y, hy, hty⟩ := Tryz.Tds_get vs ys i (by omega) htr
    exact ⟨g2, g4, y, f2, f4, cl2 i _ (by simp [Jv.ptrs, hy]), cl4 i _ (by simp [hi]), _, List.getElem?_eq_getElem (by omega), hty⟩
  have HR : Hid (Rising ks) := hris
  clear hvy hkr hir htr hlen ly py pk hvs hris
  generalize hN : ks.length = N at h4 h5 hl
  have HN : Hid (ks.length = N) := hN
  clear hN
  go_enter Tryz.func29, Tryz.ntmps29
  go_wp2
  go_loopw [5] (fun iv wr => ∃ i : Nat, i ≤ N ∧ iv = .int .i64 i ∧ wr = w ∧ ∀ j (hj : j < ks.length), j < i → ks[j] ≠ key) (fun iv _ => N - (intOf iv).toNat)
  case atStart => exact ⟨0, Nat.zero_le _, rfl, rfl, fun j _ h => absurd h (Nat.not_lt_zero _)⟩
  case round =>
    obtain ⟨i, hi, rfl, rfl, hno⟩ := hrel
    have HNO : Hid (∀ j (hj : j < ks.length), j < i → ks[j] ≠ key) := hno
    clear hno
    by_cases hlt : i < N
    · have q0 : (i : Int) < (N : Int) := by omega
      have hik : i < ks.length := by rw [HN.out]; exact hlt
      obtain ⟨g2, g4, y, rfl, rfl, k2, k4, u, hu, htu⟩ := HC.out i hik
      have HU : Hid (vs[i]? = some u) := hu
      have HT : Hid (Tryz.Td wr ok u y) := htu
      by_cases hk : ks[i] = key
      · have HG : Hid (getR (.obj ks vs) key = some u) := (Jv.getR_first HR.out i hik hk).trans HU.out
        rw [hk] at k4
        clear hk hu htu hik
        go_wp2
        go_ret
        exact ⟨rfl, .inr ⟨u, y, HG.out, rfl, HT.out⟩⟩
      · obtain ⟨s, hs⟩ : ∃ s, ks[i] = s := ⟨_, rfl⟩
        have HK : Hid (ks[i] ≠ key) := hk
        rw [hs] at k4
        have hne : (s.toList == key.toList) = false := by
          rw [← hs, beq_eq_false_iff_ne, ByteArray.toList_eq, ByteArray.toList_eq]
          exact fun e => hk (ByteArray.ext (Array.toList_inj.1 e))
        clear hk hs hu htu
        go_wp2
        go_roundw
        case rel => exact ⟨i + 1, by omega, by go_num, by trivial, Jv.no_step HNO.out hik HK.out⟩
        case measure => simp [intOf]; omega
    · have q0 : ¬ (i : Int) < (N : Int) := by omega
      have HG : Hid (getR (.obj ks vs) key = none) := Jv.getR_last fun j hj => HNO.out j hj (by rw [HN.out] at hj; omega)
      go_wp2
      go_ret
      exact ⟨rfl, .inl ⟨HG.out, rfl⟩⟩
/-- Get of the document's. -/
theorem Tryz.get_d {w : World} {ok : Nat → Prop} {o : Option V} {p : Option Addr} (h : Tryz.Do w ok o p) (key : ByteArray) :
    Calls Tryz.prog 29 #[.pointer p, .string key] w fun e w' => ∃ p', e = .returned (.pointer p') ∧ w' = w ∧ Tryz.Do w ok (o.bind fun v => getR v key) p' := by
  rcases h with ⟨rfl, rfl⟩ | ⟨v, x, d, rfl, rfl, h3, h4⟩
  · exact (Tryz.rget_nil key w).mono fun e w' ⟨h1, h2⟩ => ⟨none, h1, h2, .inl ⟨rfl, rfl⟩⟩
  · cases v with
    | obj ks vs =>
      obtain ⟨g1, g2, -⟩ := Jv.gd_shape h4
      have gr : Rising ks := by cases d with | zero => exact absurd h4 (by simp [Gd]) | succ d => exact h4.2.2.1
      refine (Tryz.rget_obj h3 g1 g2 gr key).mono ?_
      rintro e w' ⟨h1, h2 | ⟨u, y, h2, h5, h6⟩⟩
      · exact ⟨none, h2.2, h1, .inl ⟨h2.1, rfl⟩⟩
      · obtain ⟨d', h7⟩ := getR_gd h4 h2
        exact ⟨_, h5, h1, .inr ⟨u, y, d', h2, rfl, h6, h7⟩⟩
    | null => unfold Tryz.Td at h3; exact (Tryz.rget_no h3.2 key).mono fun e w' ⟨h1, h2⟩ => ⟨none, h1, h2, .inl ⟨rfl, rfl⟩⟩
    | bool b => unfold Tryz.Td at h3; exact (Tryz.rget_no h3.2 key).mono fun e w' ⟨h1, h2⟩ => ⟨none, h1, h2, .inl ⟨rfl, rfl⟩⟩
    | int n => unfold Tryz.Td at h3; exact (Tryz.rget_no h3.2 key).mono fun e w' ⟨h1, h2⟩ => ⟨none, h1, h2, .inl ⟨rfl, rfl⟩⟩
    | text s => unfold Tryz.Td at h3; exact (Tryz.rget_no h3.2 key).mono fun e w' ⟨h1, h2⟩ => ⟨none, h1, h2, .inl ⟨rfl, rfl⟩⟩
    | list l => unfold Tryz.Td at h3; obtain ⟨-, sv, xs, h5, -⟩ := h3; exact (Tryz.rget_no h5 key).mono fun e w' ⟨h1, h2⟩ => ⟨none, h1, h2, .inl ⟨rfl, rfl⟩⟩
/-- Texts that lie somewhere. -/
structure Jv.Pa (w : World) (v : Value) (l : List ByteArray) : Prop where
  ex : l.length ≤ 9223372036854775807 ∧ ∃ ad cap, v = .slice ad l.length cap ∧ (l = [] ∨ ∃ g o, ad = some ⟨g, o, none⟩ ∧ g < w.heap.size ∧ ∀ i (hi : i < l.length), w.cell? ⟨g, o + i, none⟩ = some (.string l[i]))
theorem Jv.Pa.up {w w' : World} {v : Value} {l : List ByteArray} (h : Jv.Pa w v l) (hb : Below w.heap.size w w') : Jv.Pa w' v l := by
  obtain ⟨h0, ad, cap, h1, h2⟩ := h.ex
  refine ⟨h0, ad, cap, h1, h2.imp id ?_⟩
  rintro ⟨g, o, e, hg, hc⟩
  exact ⟨g, o, e, Nat.lt_of_lt_of_le hg hb.size, fun i hi => (hb.cell (p := ⟨g, o + i, none⟩) hg).trans (hc i hi)⟩
set_option maxHeartbeats 2000000 in
/-- Look of the document's. -/
theorem Tryz.look_d {w : World} {ok : Nat → Prop} {o : Option V} {p : Option Addr} (h : Tryz.Do w ok o p) {pv : Value} {l : List ByteArray} (hp : Jv.Pa w pv l) :
    Calls Tryz.prog 15 #[.pointer p, pv] w fun e w' => ∃ p', e = .returned (.pointer p') ∧ w' = w ∧ Tryz.Do w ok (lookO o l) p' := by
  obtain ⟨hm, ad, cap, rfl, hc⟩ := hp.ex
  have HC : Hid (l = [] ∨ ∃ g o, ad = some ⟨g, o, none⟩ ∧ g < w.heap.size ∧ ∀ i (hi : i < l.length), w.cell? ⟨g, o + i, none⟩ = some (.string l[i])) := hc
  have H0 : Hid (Tryz.Do w ok (lookO o (l.take 0)) p) := h
  clear hp hc h
  generalize hN : l.length = N at hm ⊢
  have HN : Hid (l.length = N) := hN
  clear hN
  go_enter Tryz.func15, Tryz.ntmps15
  go_wp2
  go_loopw [0, 5] (fun pv iv wr => ∃ (i : Nat) (pa : Option Addr), i ≤ N ∧ pv = .pointer pa ∧ iv = .int .i64 i ∧ wr = w ∧ Tryz.Do w ok (lookO o (l.take i)) pa) (fun _ iv _ => N - (intOf iv).toNat)
  case atStart => exact ⟨0, p, Nat.zero_le _, rfl, rfl, rfl, H0.out⟩
  case round =>
    clear H0
    obtain ⟨i, pa, hi, rfl, rfl, rfl, hd⟩ := hrel
    by_cases hlt : i < N
    · have q0 : (i : Int) < (N : Int) := by omega
      have hil : i < l.length := by rw [HN.out]; exact hlt
      obtain ⟨g, q, rfl, hg, hcl⟩ : ∃ g q, ad = some ⟨g, q, none⟩ ∧ g < wr.heap.size ∧ ∀ i (hi : i < l.length), wr.cell? ⟨g, q + i, none⟩ = some (.string l[i]) := by
        rcases HC.out with e | e
        · rw [e] at hil; exact absurd hil (Nat.not_lt_zero _)
        · exact e
      have hcc := hcl i hil
      have hget := Tryz.get_d hd l[i]
      have HST : Hid (lookO o (l.take (i + 1)) = (lookO o (l.take i)).bind fun v => getR v l[i]) := lookO_step o l i hil
      clear hcl hd
      obtain ⟨key, hkey⟩ : ∃ key, l[i] = key := ⟨_, rfl⟩
      rw [hkey] at hcc hget HST
      clear hkey hil
      go_wp2_with (first
        | (go_at_call 29; refine hget.mono ?_; clear hget; rintro e1 w1 ⟨p1, rfl, h1, hd1⟩; have h1 := h1.symm; subst h1; have HD1 : Hid (Tryz.Do wr ok (lookO o (l.take (i + 1))) p1) := by rw [HST.out]; exact hd1
           clear hd1)
        | fail)
      go_roundw
      case rel => exact ⟨i + 1, p1, by omega, rfl, by go_num, by trivial, HD1.out⟩
      case measure => simp [intOf]; omega
    · have q0 : ¬ (i : Int) < (N : Int) := by omega
      have HD : Hid (Tryz.Do wr ok (lookO o l) pa) := by
        rw [List.take_of_length_le (by rw [HN.out]; omega)] at hd
        exact hd
      clear hd
      go_wp2
      go_ret
      exact ⟨_, rfl, by trivial, HD.out⟩
set_option maxHeartbeats 2000000 in
/-- Look of the program's. -/
theorem Tryz.look_p {w : World} {ok : Nat → Prop} {o : Option V} {p : Option Addr} (h : Tryz.Po w ok o p) {pv : Value} {l : List ByteArray} (hp : Jv.Pa w pv l) :
    Calls Tryz.prog 14 #[.pointer p, pv] w fun e w' => ∃ p', e = .returned (.pointer p') ∧ (∃ q, w' = w.drewN q) ∧ Tryz.Po w ok (lookO o l) p' := by
  obtain ⟨hm, ad, cap, rfl, hc⟩ := hp.ex
  have HC : Hid (l = [] ∨ ∃ g o, ad = some ⟨g, o, none⟩ ∧ g < w.heap.size ∧ ∀ i (hi : i < l.length), w.cell? ⟨g, o + i, none⟩ = some (.string l[i])) := hc
  have H0 : Hid (Tryz.Po w ok (lookO o (l.take 0)) p) := h
  clear hp hc h
  generalize hN : l.length = N at hm ⊢
  have HN : Hid (l.length = N) := hN
  clear hN
  go_enter Tryz.func14, Tryz.ntmps14
  go_wp2
  go_loopw [0, 9] (fun pv iv wr => ∃ (i : Nat) (pa : Option Addr) (q : Nat), i ≤ N ∧ pv = .pointer pa ∧ iv = .int .i64 i ∧ wr = w.drewN q ∧ Tryz.Po w ok (lookO o (l.take i)) pa) (fun _ iv _ => N - (intOf iv).toNat)
  case atStart => exact ⟨0, p, 0, Nat.zero_le _, rfl, rfl, rfl, H0.out⟩
  case round =>
    clear H0
    obtain ⟨i, pa, q, hi, rfl, rfl, rfl, hd⟩ := hrel
    by_cases hlt : i < N
    · have q0 : (i : Int) < (N : Int) := by omega
      have hil : i < l.length := by rw [HN.out]; exact hlt
      obtain ⟨g, t, rfl, hg, hcl⟩ : ∃ g t, ad = some ⟨g, t, none⟩ ∧ g < w.heap.size ∧ ∀ i (hi : i < l.length), w.cell? ⟨g, t + i, none⟩ = some (.string l[i]) := by
        rcases HC.out with e | e
        · rw [e] at hil; exact absurd hil (Nat.not_lt_zero _)
        · exact e
      have hcc : (w.drewN q).cell? ⟨g, t + i, none⟩ = some (.string l[i]) := hcl i hil
      have hget := Tryz.get_p (w := w.drewN q) (Tryz.Po.keep (w := w) (w' := w.drewN q) (fun _ _ _ => rfl) (Nat.le_refl _) hd) l[i]
      have HST : Hid (lookO o (l.take (i + 1)) = (lookO o (l.take i)).bind fun v => getR v l[i]) := lookO_step o l i hil
      have HSP : Hid (lookO o (l.take (i + 1)) = none → lookO o l = none) := lookO_stop o l (i + 1)
      clear hcl hd
      obtain ⟨key, hkey⟩ : ∃ key, l[i] = key := ⟨_, rfl⟩
      rw [hkey] at hcc hget HST
      clear hkey hil
      go_upto_if 17 with (first
        | (go_at_call 28; refine hget.mono ?_; clear hget; rintro e1 w1 ⟨p1, rfl, ⟨q1, rfl⟩, hd1⟩; have HD1 : Hid (Tryz.Po w ok (lookO o (l.take (i + 1))) p1) := by rw [HST.out]; exact Tryz.Po.keep (w := w.drewN q) (w' := w) (fun _ _ _ => rfl) (Nat.le_refl _) hd1
           clear hd1)
        | fail)
      rcases HD1.out with ⟨e1, rfl⟩ | ⟨v, x, d, e1, rfl, e3, e4⟩
      · have HE : Hid (lookO o l = none) := HSP.out e1
        clear HD1 e1
        go_wp2
        go_ret
        exact ⟨_, rfl, ⟨q + q1, by rfl⟩, .inl ⟨HE.out, rfl⟩⟩
      · clear e1 e3 e4
        go_wp2
        go_roundw
        case rel => exact ⟨i + 1, _, q + q1, by omega, rfl, by go_num, by rfl, HD1.out⟩
        case measure => simp [intOf]; omega
    · have q0 : ¬ (i : Int) < (N : Int) := by omega
      have HD : Hid (Tryz.Po w ok (lookO o l) pa) := by
        rw [List.take_of_length_le (by rw [HN.out]; omega)] at hd
        exact hd
      clear hd
      go_wp2
      go_ret
      exact ⟨_, rfl, ⟨q, rfl⟩, HD.out⟩
end Go.Proofs
namespace Go.Proofs
open Go.RowKit Go.ChangeShapes Go.WideShapes
theorem Tryz.cellsStr : Tryz.prog.cellsOf 9 = 1 := by kernel_rfl
theorem Tryz.open_pa {H : Type} {enc : TypeId × Value → H} {W : World} {a0 : Option Addr} {len cap fuel : Nat} {x : DataW H × List MemPlace}
    (hf : DataW.trod enc Tryz.prog W 0 (fun _ => true) true fuel 34 [.slice a0 len cap] = some x) :
    ∃ l : List ByteArray, Jv.Pa W (.slice a0 len cap) l ∧ (∀ X ∈ l, ∃ sp, x.1 = .slice (strs l) sp) := by
  rcases open_strings Tryz.underlying34 Tryz.underlying9 Tryz.cellsStr hf with ⟨hcs, hx⟩ | ⟨a, len', cap', ss, hcs, _, hl, hm, hz, hx, hcell, _⟩
  · simp at hcs
    obtain ⟨rfl, rfl, rfl⟩ := hcs
    exact ⟨[], ⟨Nat.zero_le _, none, 0, rfl, .inl rfl⟩, fun X h => by simp at h⟩
  · simp at hcs
    obtain ⟨rfl, rfl, rfl⟩ := hcs
    subst hx
    simp only [if_true] at hz
    obtain ⟨b, off, spot⟩ := a
    have hlen : (ss.take len).length = len := by simp; omega
    refine ⟨ss.take len, ⟨by unfold maxLen at hm; omega, some ⟨b, off, spot⟩, cap, by rw [hlen], ?_⟩, fun X _ => ⟨_, rfl⟩⟩
    by_cases h0 : len = 0
    · exact .inl (List.eq_nil_of_length_eq_zero (by omega))
    · have hc0 := hcell 0 (by omega)
      have hspot : spot = none := by simpa [Addr.add] using World.cell?_spot hc0
      subst hspot
      refine .inr ⟨b, off, rfl, World.block_lt_of_cell? _ _ (by simpa [Addr.add] using hc0), fun j hj => ?_⟩
      have hc := hcell j (by omega)
      have hadd : (⟨b, off, none⟩ : Addr).add j = ⟨b, off + j, none⟩ := by unfold Addr.add; split <;> simp_all
      rw [hadd] at hc
      rw [hc, List.getElem_take, List.getD_eq_getElem?_getD, List.getElem?_eq_getElem (by omega : j < ss.length)]
      rfl
theorem weightsAll_strs {H : Type} {P : Program} {e : TypeId} : ∀ (l : List ByteArray) (X : ByteArray), X ∈ l → X.data.toList.length ∈ DataW.weightsAll P e (strs l : List (DataW H))
  | [], X, h => by simp at h
  | Y :: l, X, h => by
    show X.data.toList.length ∈ DataW.weights P e (.lit (.string Y.data.toList)) ++ DataW.weightsAll P e (strs l)
    rcases List.mem_cons.1 h with rfl | h
    · exact List.mem_append_left _ (by simp [DataW.weights])
    · exact List.mem_append_right _ (weightsAll_strs l X h)
theorem sized_texts {H : Type} {P : Program} {ts : List TypeId} {ds : List (DataW H)} (h : (DataW.weightsEach P ts ds).all (· ≤ reachBytes) = true) {j : Nat} {t e : TypeId} {l : List ByteArray} {sp : List (DataW H)} (ht : ts[j]? = some t) (hd : ds[j]? = some (.slice (strs l) sp)) (hu : P.underlying t = some (.slice e)) :
    ∀ X ∈ l, X.size ≤ 140737488351232 := by
  intro X hX
  have hm : X.data.toList.length ∈ DataW.weightsEach P ts ds := DataW.weights_mem_each ht hd _ (by
    simp only [DataW.weights, hu]
    exact List.mem_cons_of_mem _ (List.mem_append_left _ (weightsAll_strs l X hX)))
  have := List.all_eq_true.1 h _ hm
  have e : X.size = X.data.toList.length := Array.length_toList.symm
  rw [e]
  exact of_decide_eq_true this
theorem Tryz.bytesStr : Tryz.prog.bytesOf 9 = 16 := by kernel_rfl
theorem Tryz.sized_len {H : Type} {ts : List TypeId} {ds : List (DataW H)} (h : (DataW.weightsEach Tryz.prog ts ds).all (· ≤ reachBytes) = true) {j : Nat} {l : List ByteArray} {d : DataW H} (ht : ts[j]? = some 34) (hd : ds[j]? = some d) (hl : ∀ X ∈ l, ∃ sp, d = .slice (ChangeShapes.strs l) sp) :
    l.length * 16 ≤ 140737488351232 := by
  cases l with
  | nil => simp
  | cons X l =>
    obtain ⟨sp, rfl⟩ := hl X (by simp)
    have := sized_slice h ht hd Tryz.underlying34
    rw [Tryz.bytesStr] at this
    have e : (ChangeShapes.strs (X :: l) : List (DataW H)).length = (X :: l).length := by simp [ChangeShapes.strs]
    rw [e] at this
    unfold reachBytes at this
    omega
end Go.Proofs
namespace Go.Proofs
open Go.RowKit Go.Jv
theorem Tryz.nitem (i : Int) (w : World) : Calls Tryz.prog 39 #[.pointer none, .int .i64 i] w fun e w' => e = .returned (.pointer none) ∧ w' = w := by
  have hl := Tryz.nlen w
  by_cases h : i < 0
  · go_enter Tryz.func39, Tryz.ntmps39
    go_wp2
    go_ret
    exact ⟨rfl, rfl⟩
  · have h2 : 0 ≤ i := by omega
    go_enter Tryz.func39, Tryz.ntmps39
    go_wp2_with (first | (go_at_call 38; refine hl.mono ?_; clear hl; rintro e1 w1 ⟨rfl, rfl⟩) | fail)
    go_ret
    exact ⟨rfl, rfl⟩
theorem Tryz.nkey (i : Int) (w : World) : Calls Tryz.prog 40 #[.pointer none, .int .i64 i] w fun e w' => e = .returned (.string ⟨#[]⟩) ∧ w' = w := by
  have hk := Tryz.nkind w
  go_enter Tryz.func40, Tryz.ntmps40
  go_wp2_with (first | (go_at_call 12; refine hk.mono ?_; clear hk; rintro e1 w1 ⟨rfl, rfl⟩) | fail)
  go_ret
  exact ⟨rfl, rfl⟩
theorem Tryz.rnkind (w : World) : Calls Tryz.prog 31 #[.pointer none] w fun e w' => e = .returned (.int .i64 0) ∧ w' = w := by
  go_enter Tryz.func31, Tryz.ntmps31
  go_wp2
  go_ret
  exact ⟨rfl, rfl⟩
theorem Tryz.rntrue (w : World) : Calls Tryz.prog 33 #[.pointer none] w fun e w' => e = .returned (.bool false) ∧ w' = w := by
  go_enter Tryz.func33, Tryz.ntmps33
  go_wp2
  go_ret
  exact ⟨rfl, rfl⟩
theorem Tryz.rnnum (w : World) : Calls Tryz.prog 35 #[.pointer none] w fun e w' => e = .returned (.int .i64 0) ∧ w' = w := by
  go_enter Tryz.func35, Tryz.ntmps35
  go_wp2
  go_ret
  exact ⟨rfl, rfl⟩
theorem Tryz.rntext (w : World) : Calls Tryz.prog 37 #[.pointer none] w fun e w' => e = .returned (.string emp) ∧ w' = w := by
  go_enter Tryz.func37, Tryz.ntmps37
  go_wp2
  go_ret
  exact ⟨rfl, rfl⟩
theorem Tryz.rnlen (w : World) : Calls Tryz.prog 30 #[.pointer none] w fun e w' => e = .returned (.int .i64 0) ∧ w' = w := by
  go_enter Tryz.func30, Tryz.ntmps30
  go_wp2
  go_ret
  exact ⟨rfl, rfl⟩
set_option maxRecDepth 100000 in
set_option maxHeartbeats 4000000 in
theorem Tryz.like_nil (w : World) : Calls Tryz.prog 16 #[.pointer none, .pointer none] w fun e w' => e = .returned (.bool true) ∧ w' = w := by
  have kk := Tryz.nkind w
  have kt := Tryz.ntrue w
  have kn := Tryz.nnum w
  have ks := Tryz.ntext w
  have kl := Tryz.nlen w
  have ki := fun i => Tryz.nitem i w
  have ky := fun i => Tryz.nkey i w
  have rk := Tryz.rnkind w
  have rt := Tryz.rntrue w
  have rn := Tryz.rnnum w
  have rs := Tryz.rntext w
  have rl := Tryz.rnlen w
  go_enter Tryz.func16, Tryz.ntmps16
  go_upto_if 43 with (first
    | (go_at_call 30; refine rl.mono ?_; rintro e1 w1 ⟨rfl, h1⟩; have h1 := h1.symm; subst h1)
    | (go_at_call 12; refine kk.mono ?_; rintro e1 w1 ⟨rfl, h1⟩; have h1 := h1.symm; subst h1)
    | (go_at_call 31; refine rk.mono ?_; rintro e1 w1 ⟨rfl, h1⟩; have h1 := h1.symm; subst h1)
    | (go_at_call 32; refine kt.mono ?_; rintro e1 w1 ⟨rfl, h1⟩; have h1 := h1.symm; subst h1)
    | (go_at_call 33; refine rt.mono ?_; rintro e1 w1 ⟨rfl, h1⟩; have h1 := h1.symm; subst h1)
    | (go_at_call 34; refine kn.mono ?_; rintro e1 w1 ⟨rfl, h1⟩; have h1 := h1.symm; subst h1)
    | (go_at_call 35; refine rn.mono ?_; rintro e1 w1 ⟨rfl, h1⟩; have h1 := h1.symm; subst h1)
    | (go_at_call 36; refine ks.mono ?_; rintro e1 w1 ⟨rfl, h1⟩; have h1 := h1.symm; subst h1)
    | (go_at_call 37; refine rs.mono ?_; rintro e1 w1 ⟨rfl, h1⟩; have h1 := h1.symm; subst h1)
    | (go_at_call 38; refine kl.mono ?_; rintro e1 w1 ⟨rfl, h1⟩; have h1 := h1.symm; subst h1)
    | (go_at_call 39; refine (ki _).mono ?_; rintro e1 w1 ⟨rfl, h1⟩; have h1 := h1.symm; subst h1)
    | (go_at_call 40; refine (ky _).mono ?_; rintro e1 w1 ⟨rfl, h1⟩; have h1 := h1.symm; subst h1)
    | fail)
  go_upto_if 63 with (first
    | (go_at_call 30; refine rl.mono ?_; rintro e1 w1 ⟨rfl, h1⟩; have h1 := h1.symm; subst h1)
    | (go_at_call 12; refine kk.mono ?_; rintro e1 w1 ⟨rfl, h1⟩; have h1 := h1.symm; subst h1)
    | (go_at_call 31; refine rk.mono ?_; rintro e1 w1 ⟨rfl, h1⟩; have h1 := h1.symm; subst h1)
    | (go_at_call 32; refine kt.mono ?_; rintro e1 w1 ⟨rfl, h1⟩; have h1 := h1.symm; subst h1)
    | (go_at_call 33; refine rt.mono ?_; rintro e1 w1 ⟨rfl, h1⟩; have h1 := h1.symm; subst h1)
    | (go_at_call 34; refine kn.mono ?_; rintro e1 w1 ⟨rfl, h1⟩; have h1 := h1.symm; subst h1)
    | (go_at_call 35; refine rn.mono ?_; rintro e1 w1 ⟨rfl, h1⟩; have h1 := h1.symm; subst h1)
    | (go_at_call 36; refine ks.mono ?_; rintro e1 w1 ⟨rfl, h1⟩; have h1 := h1.symm; subst h1)
    | (go_at_call 37; refine rs.mono ?_; rintro e1 w1 ⟨rfl, h1⟩; have h1 := h1.symm; subst h1)
    | (go_at_call 38; refine kl.mono ?_; rintro e1 w1 ⟨rfl, h1⟩; have h1 := h1.symm; subst h1)
    | (go_at_call 39; refine (ki _).mono ?_; rintro e1 w1 ⟨rfl, h1⟩; have h1 := h1.symm; subst h1)
    | (go_at_call 40; refine (ky _).mono ?_; rintro e1 w1 ⟨rfl, h1⟩; have h1 := h1.symm; subst h1)
    | fail)
  go_wp2_with (first
    | (go_at_call 30; refine rl.mono ?_; rintro e1 w1 ⟨rfl, h1⟩; have h1 := h1.symm; subst h1)
    | (go_at_call 12; refine kk.mono ?_; rintro e1 w1 ⟨rfl, h1⟩; have h1 := h1.symm; subst h1)
    | (go_at_call 31; refine rk.mono ?_; rintro e1 w1 ⟨rfl, h1⟩; have h1 := h1.symm; subst h1)
    | (go_at_call 32; refine kt.mono ?_; rintro e1 w1 ⟨rfl, h1⟩; have h1 := h1.symm; subst h1)
    | (go_at_call 33; refine rt.mono ?_; rintro e1 w1 ⟨rfl, h1⟩; have h1 := h1.symm; subst h1)
    | (go_at_call 34; refine kn.mono ?_; rintro e1 w1 ⟨rfl, h1⟩; have h1 := h1.symm; subst h1)
    | (go_at_call 35; refine rn.mono ?_; rintro e1 w1 ⟨rfl, h1⟩; have h1 := h1.symm; subst h1)
    | (go_at_call 36; refine ks.mono ?_; rintro e1 w1 ⟨rfl, h1⟩; have h1 := h1.symm; subst h1)
    | (go_at_call 37; refine rs.mono ?_; rintro e1 w1 ⟨rfl, h1⟩; have h1 := h1.symm; subst h1)
    | (go_at_call 38; refine kl.mono ?_; rintro e1 w1 ⟨rfl, h1⟩; have h1 := h1.symm; subst h1)
    | (go_at_call 39; refine (ki _).mono ?_; rintro e1 w1 ⟨rfl, h1⟩; have h1 := h1.symm; subst h1)
    | (go_at_call 40; refine (ky _).mono ?_; rintro e1 w1 ⟨rfl, h1⟩; have h1 := h1.symm; subst h1)
    | fail)
  go_loopw [6] (fun iv wr => iv = .int .i64 0 ∧ wr = w) (fun _ _ => 0)
  case atStart => exact ⟨rfl, rfl⟩
  case round =>
    obtain ⟨rfl, rfl⟩ := hrel
    go_wp2
    go_ret
    exact ⟨rfl, rfl⟩
/-- like of what the two Looks give. -/
theorem Tryz.like_o {w : World} {ok1 ok2 : Nat → Prop} {o : Option V} {p q : Option Addr} (hp : Tryz.Po w ok1 o p) (hq : Tryz.Do w ok2 o q) :
    (p = none ↔ q = none) ∧ Calls Tryz.prog 16 #[.pointer p, .pointer q] w fun e w' => e = .returned (.bool true) ∧ Below w.heap.size w w' := by
  rcases hp with ⟨h1, rfl⟩ | ⟨v, x, d, h1, rfl, h3, h4⟩
  · rcases hq with ⟨-, rfl⟩ | ⟨u, y, d', h5, -⟩
    · exact ⟨Iff.rfl, (Tryz.like_nil w).mono fun e w' ⟨h1, h2⟩ => ⟨h1, by rw [h2]; exact Below.refl _ _⟩⟩
    · rw [h1] at h5; cases h5
  · rcases hq with ⟨h5, -⟩ | ⟨u, y, d', h5, rfl, h6, -⟩
    · rw [h1] at h5; cases h5
    · rw [h1] at h5
      injection h5 with h5
      subst h5
      exact ⟨⟨(fun e => by cases e), (fun e => by cases e)⟩, Tryz.lk_all d v h4 w _ _ x y h3 h6⟩
end Go.Proofs
