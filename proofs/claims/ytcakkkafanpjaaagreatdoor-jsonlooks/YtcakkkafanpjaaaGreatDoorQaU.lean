/-
  Laid together by packg.py of TmY TmZ Jsm TnA.
-/
import Derived.Test.YtcakkkafanpjaaaGreatDoorQaT
import Derived.Test.YtcakkkafanpjaaaGreatDoorQaH
import Derived.Test.YtcakkkafanpjaaaGreatDoorQaI
import Derived.LaidEqlPtr
namespace Go.Proofs
open Go.RowKit Go.Jv
section
variable {w : World} {x : Nat} {k : Int} {tr : Bool} {n : Int} {s : ByteArray} {is ks : Value}
theorem Tryz.rKind (h : Jv.Vb w x k tr n s is ks) : Calls Tryz.prog 31 #[.pointer (some ⟨x, 0, none⟩)] w fun e w' => e = .returned (.int .i64 k) ∧ w' = w := by
  have hc := h.c0
  clear h
  go_enter Tryz.func31, Tryz.ntmps31
  go_wp2
  go_ret
  exact ⟨rfl, rfl⟩
theorem Tryz.rTrue (h : Jv.Vb w x k tr n s is ks) : Calls Tryz.prog 33 #[.pointer (some ⟨x, 0, none⟩)] w fun e w' => e = .returned (.bool tr) ∧ w' = w := by
  have hc := h.c1
  clear h
  go_enter Tryz.func33, Tryz.ntmps33
  go_wp2
  all_goals go_ret
  all_goals exact ⟨rfl, rfl⟩
theorem Tryz.rNumber (h : Jv.Vb w x k tr n s is ks) : Calls Tryz.prog 35 #[.pointer (some ⟨x, 0, none⟩)] w fun e w' => e = .returned (.int .i64 n) ∧ w' = w := by
  have hc := h.c2
  clear h
  go_enter Tryz.func35, Tryz.ntmps35
  go_wp2
  go_ret
  exact ⟨rfl, rfl⟩
theorem Tryz.rText (h : Jv.Vb w x k tr n s is ks) : Calls Tryz.prog 37 #[.pointer (some ⟨x, 0, none⟩)] w fun e w' => e = .returned (.string s) ∧ w' = w := by
  have hc := h.c3
  clear h
  go_enter Tryz.func37, Tryz.ntmps37
  go_wp2
  go_ret
  exact ⟨rfl, rfl⟩
theorem Tryz.rLen {a : Option Addr} {m c : Nat} (h : Jv.Vb w x k tr n s (.slice a m c) ks) : Calls Tryz.prog 30 #[.pointer (some ⟨x, 0, none⟩)] w fun e w' => e = .returned (.int .i64 m) ∧ w' = w := by
  have hc := h.c4
  clear h
  go_enter Tryz.func30, Tryz.ntmps30
  go_wp2
  go_ret
  exact ⟨rfl, rfl⟩
set_option maxHeartbeats 2000000 in
theorem Tryz.rItem {g m c i : Nat} {u : Option Addr} (h : Jv.Vb w x k tr n s (.slice (some ⟨g, 0, none⟩) m c) ks) (hi : i < m) (hu : w.cell? ⟨g, i, none⟩ = some (.pointer u)) :
    Calls Tryz.prog 41 #[.pointer (some ⟨x, 0, none⟩), .int .i64 i] w fun e w' => e = .returned (.pointer u) ∧ w' = w := by
  have hc := h.c4
  have r0 : (0 : Int) ≤ (i : Int) := by omega
  have r1 : (i : Int) < (m : Int) := by omega
  clear h
  go_enter Tryz.func41, Tryz.ntmps41
  go_wp2
  go_ret
  exact ⟨rfl, rfl⟩
set_option maxHeartbeats 2000000 in
theorem Tryz.rKey {g m c i : Nat} {u : ByteArray} (h : Jv.Vb w x k tr n s is (.slice (some ⟨g, 0, none⟩) m c)) (hi : i < m) (hu : w.cell? ⟨g, i, none⟩ = some (.string u)) :
    Calls Tryz.prog 42 #[.pointer (some ⟨x, 0, none⟩), .int .i64 i] w fun e w' => e = .returned (.string u) ∧ w' = w := by
  have hc := h.c5
  have r0 : (0 : Int) ≤ (i : Int) := by omega
  have r1 : (i : Int) < (m : Int) := by omega
  clear h
  go_enter Tryz.func42, Tryz.ntmps42
  go_wp2
  go_ret
  exact ⟨rfl, rfl⟩
set_option maxHeartbeats 2000000 in
/-- No object: no keys. -/
theorem Tryz.rKey0 (i : Nat) (h : Jv.Vb w x k tr n s is Jv.nilS) :
    Calls Tryz.prog 42 #[.pointer (some ⟨x, 0, none⟩), .int .i64 i] w fun e w' => e = .returned (.string ⟨#[]⟩) ∧ w' = w := by
  have hc : w.cell? ⟨x, 5, none⟩ = some (.slice none 0 0) := h.c5
  have r0 : (0 : Int) ≤ (i : Int) := by omega
  clear h
  go_enter Tryz.func42, Tryz.ntmps42
  go_wp2
  go_ret
  exact ⟨rfl, rfl⟩
end
end Go.Proofs
namespace Go.Proofs
open Go.RowKit Go.Jv
section
variable {w : World} {x : Nat} {k : Int} {tr : Bool} {n : Int} {s : ByteArray} {is ks : Value}
theorem Tryz.pTrue (h : Jv.Vb w x k tr n s ks is) : Calls Tryz.prog 32 #[.pointer (some ⟨x, 0, none⟩)] w fun e w' => e = .returned (.bool tr) ∧ w' = w := by
  have hc := h.c1
  clear h
  go_enter Tryz.func32, Tryz.ntmps32
  go_wp2
  all_goals go_ret
  all_goals exact ⟨rfl, rfl⟩
theorem Tryz.pNumber (h : Jv.Vb w x k tr n s ks is) : Calls Tryz.prog 34 #[.pointer (some ⟨x, 0, none⟩)] w fun e w' => e = .returned (.int .i64 n) ∧ w' = w := by
  have hc := h.c2
  clear h
  go_enter Tryz.func34, Tryz.ntmps34
  go_wp2
  go_ret
  exact ⟨rfl, rfl⟩
theorem Tryz.pText (h : Jv.Vb w x k tr n s ks is) : Calls Tryz.prog 36 #[.pointer (some ⟨x, 0, none⟩)] w fun e w' => e = .returned (.string s) ∧ w' = w := by
  have hc := h.c3
  clear h
  go_enter Tryz.func36, Tryz.ntmps36
  go_wp2
  go_ret
  exact ⟨rfl, rfl⟩
set_option maxHeartbeats 2000000 in
theorem Tryz.pItem {g m c i : Nat} {u : Option Addr} (h : Jv.Vb w x k tr n s ks (.slice (some ⟨g, 0, none⟩) m c)) (hi : i < m) (hu : w.cell? ⟨g, i, none⟩ = some (.pointer u)) :
    Calls Tryz.prog 39 #[.pointer (some ⟨x, 0, none⟩), .int .i64 i] w fun e w' => e = .returned (.pointer u) ∧ w' = w := by
  have hc := h.c5
  have kl := Tryz.len_any h
  have r0 : (0 : Int) ≤ (i : Int) := by omega
  have r1 : (i : Int) < (m : Int) := by omega
  clear h
  go_enter Tryz.func39, Tryz.ntmps39
  go_wp2_with (first | (go_at_call 38; refine kl.mono ?_; clear kl; rintro e1 w1 ⟨rfl, rfl⟩) | fail)
  go_ret
  exact ⟨rfl, rfl⟩
set_option maxHeartbeats 2000000 in
/-- Where there is none. -/
theorem Tryz.pItem0 {a : Option Addr} {m c : Nat} (i : Int) (h : Jv.Vb w x k tr n s ks (.slice a m c)) (hi : i < 0 ∨ (m : Int) ≤ i) :
    Calls Tryz.prog 39 #[.pointer (some ⟨x, 0, none⟩), .int .i64 i] w fun e w' => e = .returned (.pointer none) ∧ w' = w := by
  have kl := Tryz.len_any h
  clear h
  by_cases h1 : i < 0
  · clear hi
    go_enter Tryz.func39, Tryz.ntmps39
    go_wp2
    go_ret
    exact ⟨rfl, rfl⟩
  · have h2 : (m : Int) ≤ i := by omega
    clear hi
    go_enter Tryz.func39, Tryz.ntmps39
    go_wp2_with (first | (go_at_call 38; refine kl.mono ?_; clear kl; rintro e1 w1 ⟨rfl, rfl⟩) | fail)
    go_ret
    exact ⟨rfl, rfl⟩
set_option maxHeartbeats 2000000 in
theorem Tryz.pKey {g m c i : Nat} {a : Option Addr} {m2 c2 : Nat} {u : ByteArray} (h : Jv.Vb w x 5 tr n s (.slice (some ⟨g, 0, none⟩) m c) (.slice a m2 c2)) (hm : m = m2) (hi : i < m) (hu : w.cell? ⟨g, i, none⟩ = some (.string u)) :
    Calls Tryz.prog 40 #[.pointer (some ⟨x, 0, none⟩), .int .i64 i] w fun e w' => e = .returned (.string u) ∧ w' = w := by
  subst hm
  have hc := h.c4
  have kl := Tryz.len_any h
  have kk := Tryz.kind_any h
  have r0 : (0 : Int) ≤ (i : Int) := by omega
  have r1 : (i : Int) < (m : Int) := by omega
  clear h
  go_enter Tryz.func40, Tryz.ntmps40
  go_wp2_with (first | (go_at_call 38; refine kl.mono ?_; clear kl; rintro e1 w1 ⟨rfl, rfl⟩) | (go_at_call 12; refine kk.mono ?_; clear kk; rintro e2 w2 ⟨rfl, rfl⟩) | fail)
  go_ret
  exact ⟨rfl, rfl⟩
set_option maxHeartbeats 2000000 in
/-- No object, or no such place. -/
theorem Tryz.pKey0 {a : Option Addr} {m c : Nat} (i : Int) (h : Jv.Vb w x k tr n s ks (.slice a m c)) (hi : (k ≠ 5 ∨ i < 0) ∨ (m : Int) ≤ i) :
    Calls Tryz.prog 40 #[.pointer (some ⟨x, 0, none⟩), .int .i64 i] w fun e w' => e = .returned (.string ⟨#[]⟩) ∧ w' = w := by
  have kl := Tryz.len_any h
  have kk := Tryz.kind_any h
  clear h
  by_cases h0 : k = 5
  · subst h0
    by_cases h1 : i < 0
    · clear hi
      go_enter Tryz.func40, Tryz.ntmps40
      go_wp2_with (first | (go_at_call 12; refine kk.mono ?_; clear kk; rintro e2 w2 ⟨rfl, rfl⟩) | fail)
      go_ret
      exact ⟨rfl, rfl⟩
    · have h2 : (m : Int) ≤ i := by rcases hi with (h | h) | h; exact absurd rfl h; omega; exact h
      clear hi
      go_enter Tryz.func40, Tryz.ntmps40
      go_wp2_with (first | (go_at_call 38; refine kl.mono ?_; clear kl; rintro e1 w1 ⟨rfl, rfl⟩) | (go_at_call 12; refine kk.mono ?_; clear kk; rintro e2 w2 ⟨rfl, rfl⟩) | fail)
      go_ret
      exact ⟨rfl, rfl⟩
  · have h3 : (k != 5) = true := by simpa using h0
    clear hi h0
    go_enter Tryz.func40, Tryz.ntmps40
    go_wp2_with (first | (go_at_call 12; refine kk.mono ?_; clear kk; rintro e2 w2 ⟨rfl, rfl⟩) | fail)
    go_ret
    exact ⟨rfl, rfl⟩
end
end Go.Proofs
namespace Go.Proofs
open Go.RowKit Go.Jv
theorem Tryz.text_of {w : World} {x : Nat} {k : Int} {b : Bool} {n : Int} {s : ByteArray} {kv sv : Value} (h : Jv.Vb w x k b n s kv sv) :
    Calls Tryz.prog 36 #[.pointer (some ⟨x, 0, none⟩)] w fun e w' => e = .returned (.string s) ∧ w' = w := by
  have hc := h.c3
  clear h
  go_enter Tryz.func36, Tryz.ntmps36
  go_wp2
  go_ret
  exact ⟨rfl, rfl⟩
theorem Tryz.true_of {w : World} {x : Nat} {k : Int} {b : Bool} {n : Int} {s : ByteArray} {kv sv : Value} (h : Jv.Vb w x k b n s kv sv) :
    Calls Tryz.prog 32 #[.pointer (some ⟨x, 0, none⟩)] w fun e w' => e = .returned (.bool b) ∧ w' = w := by
  have hc := h.c1
  clear h
  go_enter Tryz.func32, Tryz.ntmps32
  go_wp2
  go_ret
  exact ⟨rfl, rfl⟩
theorem Tryz.num_of {w : World} {x : Nat} {k : Int} {b : Bool} {n : Int} {s : ByteArray} {kv sv : Value} (h : Jv.Vb w x k b n s kv sv) :
    Calls Tryz.prog 34 #[.pointer (some ⟨x, 0, none⟩)] w fun e w' => e = .returned (.int .i64 n) ∧ w' = w := by
  have hc := h.c2
  clear h
  go_enter Tryz.func34, Tryz.ntmps34
  go_wp2
  go_ret
  exact ⟨rfl, rfl⟩
theorem Tryz.len_of {w : World} {x : Nat} {k : Int} {b : Bool} {n : Int} {s : ByteArray} {kv : Value} {a : Option Addr} {l c : Nat} (h : Jv.Vb w x k b n s kv (.slice a l c)) :
    Calls Tryz.prog 38 #[.pointer (some ⟨x, 0, none⟩)] w fun e w' => e = .returned (.int .i64 l) ∧ w' = w := by
  have hc := h.c5
  clear h
  go_enter Tryz.func38, Tryz.ntmps38
  go_wp2
  go_ret
  exact ⟨rfl, rfl⟩
/-- Two blocks are two, where one of them is as it was laid. -/
theorem Jv.eql_half {P : Program} {w : World} {tp te : TypeId} {j : TypeInfo} {x y : Nat} {ca : Array Value} {ta : TypeId} {v : Value} (hp : P.underlying tp = some (.pointer te)) (hte : P.info? te = some j) (hsz : j.size ≠ 0) (hne : ¬ x = y)
    (ha : w.heap[x]? = some (.cells ca ta (0, 0))) (hb : w.cell? ⟨y, 0, none⟩ = some v) : (binOp .eql tp (.pointer (some ⟨x, 0, none⟩)) (.pointer (some ⟨y, 0, none⟩))).run P w = .ok (.bool false) w := by
  have hb2 : ∃ cb tb lo hi, w.heap[y]? = some (.cells cb tb (lo, hi)) ∧ cb.size ≠ 0 := by
    unfold World.cell? at hb
    split at hb
    · rename_i c t m heq
      refine ⟨c, t, m.1, m.2, heq, ?_⟩
      simp at hb
      have := (Array.getElem?_eq_some_iff.1 hb).1
      omega
    · cases hb
  obtain ⟨cb, tb, lo, hi, hb3, hb4⟩ := hb2
  have hs : (sameAddr ⟨x, 0, none⟩ ⟨y, 0, none⟩).run P w = .ok false w := by
    simp [sameAddr, hne, World.frozen?, ha, hb3, noView, viewAt, World.shape?, mayBeOne, stringish, hb4]
  have h : ∀ d : Nat, (Op.equalIn (d + 1) tp (.pointer (some ⟨x, 0, none⟩)) (.pointer (some ⟨y, 0, none⟩))).run P w = .ok false w := fun d => by
    simp [Op.equalIn, run_underlying hp, sizeOf, typeInfo, hte, hsz, hs]
  simp only [binOp]
  simp [Op.equal, Op.maxDepth, h 9999]
theorem Tryz.info_val : (Tryz.prog.info? 64).map (fun i => i.size) = some 6 := by kernel_rfl
theorem Tryz.eql_val {w : World} {x y : Nat} {ca : Array Value} {ta : TypeId} {v : Value} (hne : ¬ x = y) (ha : w.heap[x]? = some (.cells ca ta (0, 0))) (hb : w.cell? ⟨y, 0, none⟩ = some v) :
    (binOp .eql 24 (.pointer (some ⟨x, 0, none⟩)) (.pointer (some ⟨y, 0, none⟩))).run Tryz.prog w = .ok (.bool false) w := by
  have hi := Tryz.info_val
  cases hj : Tryz.prog.info? 64 with
  | none => rw [hj] at hi; cases hi
  | some j =>
    rw [hj] at hi
    exact Jv.eql_half Tryz.underlying24 hj (by simp at hi; omega) hne ha hb
set_option maxRecDepth 100000 in
set_option maxHeartbeats 2000000 in
theorem Tryz.alike_text {w : World} {x y : Nat} {t : ByteArray} {ca : Array Value} {ta : TypeId} (ha : w.heap[x]? = some (.cells ca ta (0, 0))) (hx : Jv.Vb w x 3 false 0 t Jv.nilS Jv.nilS) (hy : Jv.Vb w y 3 false 0 t Jv.nilS Jv.nilS) (hne : ¬ x = y) (m : Value) :
    Calls Tryz.prog 24 #[.pointer (some ⟨x, 0, none⟩), .pointer (some ⟨y, 0, none⟩), m] w fun e w' => e = .returned (.bool true) ∧ w' = w := by
  have hq := Tryz.eql_val hne ha hy.c0
  clear ha
  have k1 := Tryz.kind_any hx
  have k2 := Tryz.kind_any hy
  have t1 := Tryz.true_of hx
  have t2 := Tryz.true_of hy
  have n1 := Tryz.num_of hx
  have n2 := Tryz.num_of hy
  have x1 := Tryz.text_of hx
  have x2 := Tryz.text_of hy
  have l1 := Tryz.len_of hx
  have l2 := Tryz.len_of hy
  have l3 := Tryz.len_of hx
  clear hx hy
  go_enter Tryz.func24, Tryz.ntmps24
  go_wp2_with (first
    | (go_at_call 12; refine k1.mono ?_; clear k1; rintro e1 w1 ⟨rfl, rfl⟩)
    | (go_at_call 12; refine k2.mono ?_; clear k2; rintro e2 w2 ⟨rfl, rfl⟩)
    | (go_at_call 32; refine t1.mono ?_; clear t1; rintro e1 w1 ⟨rfl, rfl⟩)
    | (go_at_call 32; refine t2.mono ?_; clear t2; rintro e2 w2 ⟨rfl, rfl⟩)
    | (go_at_call 34; refine n1.mono ?_; clear n1; rintro e1 w1 ⟨rfl, rfl⟩)
    | (go_at_call 34; refine n2.mono ?_; clear n2; rintro e2 w2 ⟨rfl, rfl⟩)
    | (go_at_call 36; refine x1.mono ?_; clear x1; rintro e1 w1 ⟨rfl, rfl⟩)
    | (go_at_call 36; refine x2.mono ?_; clear x2; rintro e2 w2 ⟨rfl, rfl⟩)
    | (go_at_call 38; refine l1.mono ?_; clear l1; rintro e1 w1 ⟨rfl, rfl⟩)
    | (go_at_call 38; refine l2.mono ?_; clear l2; rintro e2 w2 ⟨rfl, rfl⟩)
    | (go_at_call 38; refine l3.mono ?_; clear l3; rintro e3 w3 ⟨rfl, rfl⟩)
    | fail)
  go_ret
  exact ⟨rfl, rfl⟩
set_option maxRecDepth 100000 in
theorem Tryz.same_text {w : World} {x y : Nat} {t : ByteArray} {ca : Array Value} {ta : TypeId} (hh : w.heap[x]? = some (.cells ca ta (0, 0))) (hx : Jv.Vb w x 3 false 0 t Jv.nilS Jv.nilS) (hy : Jv.Vb w y 3 false 0 t Jv.nilS Jv.nilS) (hne : ¬ x = y) :
    Calls Tryz.prog 10 #[.pointer (some ⟨x, 0, none⟩), .pointer (some ⟨y, 0, none⟩)] w fun e w' => e = .returned (.bool true) ∧ Below w.heap.size w w' := by
  have ha := fun (W : World) (h : Below w.heap.size w W) (m : Value) => Tryz.alike_text ((h.block x hx.lt).trans hh) (hx.keep (w' := W) (h.block x hx.lt) h.size) (hy.keep (w' := W) (h.block y hy.lt) h.size) hne m
  clear hx hy hh
  have hm := run_makeMap (P := Tryz.prog) 61 w
  go_enter Tryz.func10, Tryz.ntmps10
  go_wp2_with (first
    | (go_at_call 24; refine (ha _ ((Below.refl _ _).alloc (Nat.le_refl _) _) _).mono ?_; rintro e1 w1 ⟨rfl, rfl⟩)
    | fail)
  go_ret
  exact ⟨rfl, (Below.refl _ _).alloc (Nat.le_refl _) _⟩
end Go.Proofs
namespace Go.Jv
open Go.RowKit
/-- What Get gives. -/
def getR : V → ByteArray → Option V
  | .obj ks vs, key => if ks[place ks key]? = some key then vs[place ks key]? else none
  | _, _ => none
theorem getR_obj (ks : List ByteArray) (vs : List V) (key : ByteArray) : getR (.obj ks vs) key = if ks[place ks key]? = some key then vs[place ks key]? else none := rfl
def lookR : V → List ByteArray → Option V
  | v, [] => some v
  | v, p :: r => match getR v p with | none => none | some u => lookR u r
theorem lookR_step {v u : V} {p : ByteArray} {r : List ByteArray} (h : getR v p = some u) : lookR v (p :: r) = lookR u r := by simp only [lookR, h]
theorem lookR_none {v : V} {p : ByteArray} {r : List ByteArray} (h : getR v p = none) : lookR v (p :: r) = none := by simp only [lookR, h]
end Go.Jv
namespace Go.Proofs
open Go.RowKit Go.Jv
/-- A value's block, whatever its kind. -/
theorem Tryz.Tr.vbr {w : World} {ok : Nat → Prop} {v : V} {x : Nat} (h : Tryz.Tr w ok v x) : ∃ k tr n s ks is, Jv.Vb w x k tr n s ks is ∧ ((∀ ks vs, v ≠ .obj ks vs) → k ≠ 5) := by
  cases v with
  | null => unfold Tryz.Tr at h; exact ⟨_, _, _, _, _, _, h.2, fun _ => by decide⟩
  | bool b => unfold Tryz.Tr at h; exact ⟨_, _, _, _, _, _, h.2, fun _ => by decide⟩
  | int n => unfold Tryz.Tr at h; exact ⟨_, _, _, _, _, _, h.2, fun _ => by decide⟩
  | text s => unfold Tryz.Tr at h; exact ⟨_, _, _, _, _, _, h.2, fun _ => by decide⟩
  | list l => unfold Tryz.Tr at h; obtain ⟨_, sv, xs, h2, _⟩ := h; exact ⟨_, _, _, _, _, _, h2, fun _ => by decide⟩
  | obj ks l => unfold Tryz.Tr at h; obtain ⟨_, kv, sv, xs, h2, _⟩ := h; exact ⟨_, _, _, _, _, _, h2, fun e => absurd rfl (e ks l)⟩
set_option maxHeartbeats 1000000 in
theorem Tryz.getr_no {w : World} {x : Nat} {k : Int} {tr : Bool} {n : Int} {s : ByteArray} {ks is : Value} (h : Jv.Vb w x k tr n s ks is) (hk : k ≠ 5) (key : ByteArray) :
    Calls Tryz.prog 28 #[.pointer (some ⟨x, 0, none⟩), .string key] w fun e w' => e = .returned (.pointer none) ∧ w' = w := by
  have hkd := Tryz.kind_any h
  have hk' : ¬ k = 5 := hk
  clear h hk
  go_enter Tryz.func28, Tryz.ntmps28
  go_wp2_with (first
    | (go_at_call 12; refine hkd.mono ?_; clear hkd; rintro e w1 ⟨rfl, rfl⟩)
    | fail)
  go_ret
  exact ⟨rfl, rfl⟩
set_option maxHeartbeats 1000000 in
theorem Tryz.getr_obj {w : World} {ok : Nat → Prop} {x : Nat} {ks : List ByteArray} {vs : List V} (h : Tryz.Tr w ok (.obj ks vs) x) (hl : ks.length ≤ 64) (hvs : vs.length = ks.length) (key : ByteArray) :
    Calls Tryz.prog 28 #[.pointer (some ⟨x, 0, none⟩), .string key] w fun e w' => (∃ q, w' = w.drewN q) ∧ ((getR (.obj ks vs) key = none ∧ e = .returned (.pointer none)) ∨ ∃ u y, getR (.obj ks vs) key = some u ∧ e = .returned (.pointer (some ⟨y, 0, none⟩)) ∧ Tryz.Tr w ok u y) := by
  have h' := h
  unfold Tryz.Tr at h'
  obtain ⟨_, kv, sv, xs, hvb, hkr, hir, htr, hlen⟩ := h'
  have hkd := Tryz.kind_any hvb
  have hkrow := hkr.row
  rw [List.length_map] at hkrow
  have hse := Tryz.search_any hkrow hl key
  have c4 := hvb.c4
  have c5 := hvb.c5
  by_cases hf : ks[place ks key]? = some key
  · have hp := (List.getElem?_eq_some_iff.1 hf).1
    obtain ⟨y, hy1, hy2⟩ := Tryz.Trs_get vs xs (place ks key) (by omega) htr
    obtain ⟨u, hu, hy3⟩ : ∃ u, vs[place ks key]? = some u ∧ Tryz.Tr w ok u y := ⟨_, List.getElem?_eq_getElem (by omega), hy2⟩
    clear hy2
    obtain ⟨g, cp, rfl, _, _, hcl⟩ := Jv.row_cells hir (by simp [Jv.ptrs]; omega)
    have hcy := hcl (place ks key) (.pointer (some ⟨y, 0, none⟩)) (by simp [Jv.ptrs, hy1])
    have hxl : (Jv.ptrs xs).length = ks.length := by simp [Jv.ptrs, hlen]
    have hgv : getR (.obj ks vs) key = some u := by rw [getR_obj, if_pos hf, hu]
    have hd : decide (ks[place ks key]? = some key) = true := by simp [hf]
    rw [hd] at hse
    rw [hgv]
    rw [hxl] at c5
    have HY : Hid (Tryz.Tr w ok u y) := hy3
    have hpi : ((place ks key : Nat) : Int) < (ks.length : Int) := by omega
    clear hkrow hkr hir htr hvb h hcl hy3 hy1 hgv hd hf hxl hu
    generalize place ks key = P at *
    go_enter Tryz.func28, Tryz.ntmps28
    go_wp2_with (first
      | (go_at_call 12; refine hkd.mono ?_; clear hkd; rintro e w1 ⟨rfl, rfl⟩)
      | (go_at_call 68; refine hse.mono ?_; clear hse; rintro e w2 ⟨rfl, q, rfl⟩)
      | fail)
    go_ret
    exact ⟨⟨_, rfl⟩, .inr ⟨u, y, rfl, rfl, HY.out⟩⟩
  · have hgv : getR (.obj ks vs) key = none := by rw [getR_obj, if_neg hf]
    have hd : decide (ks[place ks key]? = some key) = false := by simp [hf]
    rw [hd] at hse
    rw [hgv]
    clear hkrow hkr hir htr hvb h hgv hd hf
    generalize place ks key = P at *
    go_enter Tryz.func28, Tryz.ntmps28
    go_wp2_with (first
      | (go_at_call 12; refine hkd.mono ?_; clear hkd; rintro e w1 ⟨rfl, rfl⟩)
      | (go_at_call 68; refine hse.mono ?_; clear hse; rintro e w2 ⟨rfl, q, rfl⟩)
      | fail)
    go_ret
    exact ⟨⟨_, rfl⟩, .inl ⟨trivial, rfl⟩⟩
theorem Tryz.getr_any (P : V → Prop) (hP : ∀ ks vs, P (.obj ks vs) → ks.length ≤ 64 ∧ vs.length = ks.length ∧ ∀ u ∈ vs, P u) {w : World} {ok : Nat → Prop} {v : V} {x : Nat} (h : Tryz.Tr w ok v x) (hv : P v) (key : ByteArray) :
    Calls Tryz.prog 28 #[.pointer (some ⟨x, 0, none⟩), .string key] w fun e w' => (∃ q, w' = w.drewN q) ∧ ((getR v key = none ∧ e = .returned (.pointer none)) ∨ ∃ u y, getR v key = some u ∧ e = .returned (.pointer (some ⟨y, 0, none⟩)) ∧ Tryz.Tr w ok u y ∧ P u) := by
  by_cases ho : ∃ ks vs, v = .obj ks vs
  · obtain ⟨ks, vs, rfl⟩ := ho
    obtain ⟨p1, p2, p3⟩ := hP ks vs hv
    refine (Tryz.getr_obj h p1 p2 key).mono fun e w' ⟨h1, h2⟩ => ⟨h1, h2.imp id ?_⟩
    rintro ⟨u, y, q1, q2, q3⟩
    refine ⟨u, y, q1, q2, q3, p3 u ?_⟩
    rw [getR_obj] at q1
    split at q1
    · exact List.mem_of_getElem? q1
    · cases q1
  · obtain ⟨k, tr, n, s, kv, iv, hvb, hk⟩ := h.vbr
    have hno : ∀ ks vs, v ≠ .obj ks vs := fun ks vs e => ho ⟨ks, vs, e⟩
    refine (Tryz.getr_no hvb (hk hno) key).mono fun e w' ⟨h1, h2⟩ => ⟨⟨0, h2⟩, .inl ⟨?_, h1⟩⟩
    cases v <;> first | rfl | exact absurd rfl (hno _ _)
set_option maxHeartbeats 1000000 in
theorem Tryz.lookr_any (P : V → Prop) (hP : ∀ ks vs, P (.obj ks vs) → ks.length ≤ 64 ∧ vs.length = ks.length ∧ ∀ u ∈ vs, P u) {w : World} {ok : Nat → Prop} {v : V} {x : Nat} (h : Tryz.Tr w ok v x) (hv : P v) (path : List ByteArray) (g cap : Nat) (hpl : path.length ≤ 1000000) (hcells : ∀ (i : Nat) (s : ByteArray), path[i]? = some s → w.cell? ⟨g, i, none⟩ = some (.string s)) :
    Calls Tryz.prog 14 #[.pointer (some ⟨x, 0, none⟩), .slice (some ⟨g, 0, none⟩) path.length cap] w fun e w' => (∃ q, w' = w.drewN q) ∧ ((lookR v path = none ∧ e = .returned (.pointer none)) ∨ ∃ u y, lookR v path = some u ∧ e = .returned (.pointer (some ⟨y, 0, none⟩)) ∧ Tryz.Tr w ok u y ∧ P u) := by
  have HTR : Hid (Tryz.Tr w ok v x) := h
  have HPV : Hid (P v) := hv
  have HC : Hid (∀ (i : Nat) (s : ByteArray), path[i]? = some s → w.cell? ⟨g, i, none⟩ = some (.string s)) := hcells
  clear h hv hcells
  go_enter Tryz.func14, Tryz.ntmps14
  go_wp2
  go_loopw [0, 9] (fun p i wr => ∃ (k : Nat) (u : V) (y q : Nat), p = .pointer (some ⟨y, 0, none⟩) ∧ i = .int .i64 k ∧ k ≤ path.length ∧ Tryz.Tr w ok u y ∧ P u ∧ lookR v path = lookR u (path.drop k) ∧ wr = w.drewN q) (fun _ i _ => path.length - (intOf i).toNat)
  case atStart => exact ⟨0, v, x, 0, rfl, rfl, by omega, HTR.out, HPV.out, rfl, rfl⟩
  case round =>
    obtain ⟨k, u, y, q, rfl, rfl, hk, htu, hpu, hlk, rfl⟩ := hrel
    by_cases hkl : k < path.length
    · have q0 : (k : Int) < (path.length : Int) := by omega
      obtain ⟨s, hs⟩ : ∃ s, path[k]? = some s := ⟨_, List.getElem?_eq_getElem hkl⟩
      have c0 : w.cell? ⟨g, k, none⟩ = some (.string s) := HC.out k s hs
      have hdr : path.drop k = s :: path.drop (k + 1) := by
        have := (List.getElem?_eq_some_iff.1 hs).2
        rw [← this, List.getElem_cons_drop]
      rw [hdr] at hlk
      have hga := Tryz.getr_any P hP (Tryz.Tr_keep (w := w) (w' := w.drewN q) (fun g _ _ => rfl) (Nat.le_refl _) _ _ htu) hpu s
      have HLK : Hid (lookR v path = lookR u (s :: path.drop (k + 1))) := hlk
      clear hlk hdr htu hpu
      cases hgv : getR u s with
      | none =>
        rw [hgv] at hga
        have hga2 : Calls Tryz.prog 28 #[.pointer (some ⟨y, 0, none⟩), .string s] (w.drewN q) fun e w' => e = .returned (.pointer none) ∧ ∃ q', w' = (w.drewN q).drewN q' := hga.mono fun e w' ⟨h1, h2⟩ => by
          rcases h2 with h2 | ⟨_, _, h2, _⟩
          · exact ⟨h2.2, h1⟩
          · cases h2
        have HN : Hid (lookR v path = none) := HLK.out.trans (lookR_none hgv)
        clear hga hgv
        go_wp2_with (first
          | (go_at_call 28; refine hga2.mono ?_; clear hga2; rintro e w1 ⟨rfl, q1, rfl⟩)
          | fail)
        go_ret
        exact ⟨⟨q + q1, rfl⟩, .inl ⟨HN.out, rfl⟩⟩
      | some u1 =>
        rw [hgv] at hga
        have hga2 : Calls Tryz.prog 28 #[.pointer (some ⟨y, 0, none⟩), .string s] (w.drewN q) fun e w' => ∃ y1, e = .returned (.pointer (some ⟨y1, 0, none⟩)) ∧ Tryz.Tr w ok u1 y1 ∧ P u1 ∧ ∃ q', w' = (w.drewN q).drewN q' := hga.mono fun e w' ⟨h1, h2⟩ => by
          rcases h2 with h2 | ⟨u2, y1, h2, h3, h4, h5⟩
          · cases h2.1
          · cases h2
            exact ⟨y1, h3, Tryz.Tr_keep (w := w.drewN q) (w' := w) (fun g _ _ => rfl) (Nat.le_refl _) _ _ h4, h5, h1⟩
        have HN : Hid (lookR v path = lookR u1 (path.drop (k + 1))) := HLK.out.trans (lookR_step hgv)
        clear hga hgv
        go_wp2_with (first
          | (go_at_call 28; refine hga2.mono ?_; clear hga2; rintro e w1 ⟨y1, rfl, ht1, hp1, q1, rfl⟩)
          | fail)
        go_roundw
        case rel => exact ⟨k + 1, u1, y1, q + q1, rfl, by go_num, by omega, ht1, hp1, HN.out, rfl⟩
        case measure => simp [intOf]; omega
    · have q0 : ¬ (k : Int) < (path.length : Int) := by omega
      obtain rfl : k = path.length := by omega
      rw [List.drop_length] at hlk
      have HR : Hid (lookR v path = some u ∧ Tryz.Tr w ok u y ∧ P u) := ⟨hlk, htu, hpu⟩
      clear hlk htu hpu
      go_wp2
      go_ret
      exact ⟨⟨q, rfl⟩, .inr ⟨u, HR.out.1, y, rfl, HR.out.2⟩⟩
end Go.Proofs
