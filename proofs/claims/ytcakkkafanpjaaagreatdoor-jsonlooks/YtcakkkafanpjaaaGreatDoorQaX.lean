/-
  Laid together by packg.py of TnH TnI TnJ TnK.
-/
import Derived.Test.YtcakkkafanpjaaaGreatDoorQaW
import Derived.Test.YtcakkkafanpjaaaGreatDoorQaU
import Derived.Test.YtcakkkafanpjaaaGreatDoorQaO
namespace Go.Proofs
open Go.RowKit Go.Jv
theorem Jv.eql_same {P : Program} {w : World} {tp te : TypeId} {j : TypeInfo} {x : Nat} {ca : Array Value} {ta : TypeId} (hp : P.underlying tp = some (.pointer te)) (hte : P.info? te = some j) (hsz : j.size ≠ 0)
    (_ha : w.heap[x]? = some (.cells ca ta (0, 0))) : (binOp .eql tp (.pointer (some ⟨x, 0, none⟩)) (.pointer (some ⟨x, 0, none⟩))).run P w = .ok (.bool true) w := by
  have hs : (sameAddr ⟨x, 0, none⟩ ⟨x, 0, none⟩).run P w = .ok true w := by
    simp [sameAddr]
  have h : ∀ d : Nat, (Op.equalIn (d + 1) tp (.pointer (some ⟨x, 0, none⟩)) (.pointer (some ⟨x, 0, none⟩))).run P w = .ok true w := fun d => by
    simp [Op.equalIn, run_underlying hp, sizeOf, typeInfo, hte, hsz, hs]
  simp only [binOp]
  simp [Op.equal, Op.maxDepth, h 9999]
theorem Tryz.eql_me {w : World} {x : Nat} {ca : Array Value} {ta : TypeId} (ha : w.heap[x]? = some (.cells ca ta (0, 0))) :
    (binOp .eql 24 (.pointer (some ⟨x, 0, none⟩)) (.pointer (some ⟨x, 0, none⟩))).run Tryz.prog w = .ok (.bool true) w := by
  have hi := Tryz.info_val
  cases hj : Tryz.prog.info? 64 with
  | none => rw [hj] at hi; cases hi
  | some j =>
    rw [hj] at hi
    exact Jv.eql_same Tryz.underlying24 hj (by simp at hi; omega) ha
set_option maxRecDepth 100000 in
theorem Tryz.alike_self {w : World} {x : Nat} {ca : Array Value} {ta : TypeId} (ha : w.heap[x]? = some (.cells ca ta (0, 0))) (m : Value) :
    Calls Tryz.prog 24 #[.pointer (some ⟨x, 0, none⟩), .pointer (some ⟨x, 0, none⟩), m] w fun e w' => e = .returned (.bool true) ∧ w' = w := by
  have hq := Tryz.eql_me ha
  clear ha
  go_enter Tryz.func24, Tryz.ntmps24
  go_wp2
  go_ret
  exact ⟨rfl, rfl⟩
set_option maxRecDepth 100000 in
theorem Tryz.same_self {w : World} {x : Nat} {ca : Array Value} {ta : TypeId} (ha : w.heap[x]? = some (.cells ca ta (0, 0))) :
    Calls Tryz.prog 10 #[.pointer (some ⟨x, 0, none⟩), .pointer (some ⟨x, 0, none⟩)] w fun e w' => e = .returned (.bool true) ∧ Below w.heap.size w w' := by
  have HB0 : Hid (Below w.heap.size w (w.alloc (.map #[] 0))) := (Below.refl _ _).alloc (Nat.le_refl _) _
  have HA : Hid ((w.alloc (.map #[] 0)).heap[x]? = some (.cells ca ta (0, 0))) := (HB0.out.block x (Array.getElem?_eq_some_iff.1 ha).1).trans ha
  have hm := run_makeMap (P := Tryz.prog) 61 w
  clear ha
  go_enter Tryz.func10, Tryz.ntmps10
  go_wp2_with (first
    | (go_at_call 24; refine (Tryz.alike_self HA.out _).mono ?_; rintro e1 w1 ⟨rfl, rfl⟩)
    | fail)
  go_ret
  exact ⟨rfl, HB0.out⟩
end Go.Proofs
namespace Go.Proofs
open Go.RowKit Go.Jv
set_option maxRecDepth 100000 in
set_option maxHeartbeats 4000000 in
/-- What bears no items, and nothing else that differs. -/
theorem Tryz.like_leaf {w : World} {x y : Nat} {k : Int} {tr : Bool} {n : Int} {s : ByteArray} (hx : Jv.Vb w x k tr n s Jv.nilS Jv.nilS) (hy : Jv.Vb w y k tr n s Jv.nilS Jv.nilS) :
    Calls Tryz.prog 16 #[.pointer (some ⟨x, 0, none⟩), .pointer (some ⟨y, 0, none⟩)] w fun e w' => e = .returned (.bool true) ∧ w' = w := by
  have kk := Tryz.kind_any hx
  have kt := Tryz.pTrue hx
  have kn := Tryz.pNumber hx
  have ks := Tryz.pText hx
  have kl : Calls Tryz.prog _ _ w _ := Tryz.len_any (a := none) (m := 0) (c := 0) hx
  have ki : ∀ i : Int, Calls Tryz.prog 39 #[.pointer (some ⟨x, 0, none⟩), .int .i64 i] w fun e w' => e = .returned (.pointer none) ∧ w' = w := fun i => Tryz.pItem0 (a := none) (m := 0) (c := 0) i hx (by omega)
  have ky : ∀ i : Int, Calls Tryz.prog 40 #[.pointer (some ⟨x, 0, none⟩), .int .i64 i] w fun e w' => e = .returned (.string ⟨#[]⟩) ∧ w' = w := fun i => Tryz.pKey0 (a := none) (m := 0) (c := 0) i hx (by omega)
  have rk := Tryz.rKind hy
  have rt := Tryz.rTrue hy
  have rn := Tryz.rNumber hy
  have rs := Tryz.rText hy
  have rl : Calls Tryz.prog _ _ w _ := Tryz.rLen (a := none) (m := 0) (c := 0) hy
  clear hx hy
  go_enter Tryz.func16, Tryz.ntmps16
  go_upto_if 43 with (first
    | (go_at_call 30; refine rl.mono ?_; rintro e1 w1 ⟨rfl, h1⟩; have h1 := h1.symm; subst h1)
    | (go_at_call 12; refine kk.mono ?_; rintro e1 w1 ⟨rfl, h1⟩; have h1 := h1.symm; subst h1)
    | (go_at_call 31; refine rk.mono ?_; rintro e1 w1 ⟨rfl, h1⟩; have h1 := h1.symm; subst h1)
    | (go_at_call 32; refine kt.mono ?_; rintro e1 w1 ⟨rfl, h1⟩; have h1 := h1.symm; subst h1)
    | (go_at_call 33; refine rt.mono ?_; rintro e1 w1 ⟨rfl, h1⟩; have h1 := h1.symm; subst h1)
    | (go_at_call 34; refine kn.mono ?_; rintro e1 w1 ⟨rfl, h1⟩; have h1 := h1.symm; subst h1)
    | (go_at_call 35; refine rn.mono ?_; rintro e1 w1 ⟨rfl, h1⟩; have h1 := h1.symm; subst h1)
    | (go_at_call 36; refine ks.mono ?_; rintro e1 w1 ⟨rfl, h1⟩; have h1 := h1.symm; subst h1)
    | (go_at_call 37; refine rs.mono ?_; rintro e1 w1 ⟨rfl, h1⟩; have h1 := h1.symm; subst h1)
    | (go_at_call 38; refine kl.mono ?_; rintro e1 w1 ⟨rfl, h1⟩; have h1 := h1.symm; subst h1)
    | (go_at_call 39; refine (ki _).mono ?_; rintro e1 w1 ⟨rfl, h1⟩; have h1 := h1.symm; subst h1)
    | (go_at_call 40; refine (ky _).mono ?_; rintro e1 w1 ⟨rfl, h1⟩; have h1 := h1.symm; subst h1)
    | fail)
  go_upto_if 63 with (first
    | (go_at_call 30; refine rl.mono ?_; rintro e1 w1 ⟨rfl, h1⟩; have h1 := h1.symm; subst h1)
    | (go_at_call 12; refine kk.mono ?_; rintro e1 w1 ⟨rfl, h1⟩; have h1 := h1.symm; subst h1)
    | (go_at_call 31; refine rk.mono ?_; rintro e1 w1 ⟨rfl, h1⟩; have h1 := h1.symm; subst h1)
    | (go_at_call 32; refine kt.mono ?_; rintro e1 w1 ⟨rfl, h1⟩; have h1 := h1.symm; subst h1)
    | (go_at_call 33; refine rt.mono ?_; rintro e1 w1 ⟨rfl, h1⟩; have h1 := h1.symm; subst h1)
    | (go_at_call 34; refine kn.mono ?_; rintro e1 w1 ⟨rfl, h1⟩; have h1 := h1.symm; subst h1)
    | (go_at_call 35; refine rn.mono ?_; rintro e1 w1 ⟨rfl, h1⟩; have h1 := h1.symm; subst h1)
    | (go_at_call 36; refine ks.mono ?_; rintro e1 w1 ⟨rfl, h1⟩; have h1 := h1.symm; subst h1)
    | (go_at_call 37; refine rs.mono ?_; rintro e1 w1 ⟨rfl, h1⟩; have h1 := h1.symm; subst h1)
    | (go_at_call 38; refine kl.mono ?_; rintro e1 w1 ⟨rfl, h1⟩; have h1 := h1.symm; subst h1)
    | (go_at_call 39; refine (ki _).mono ?_; rintro e1 w1 ⟨rfl, h1⟩; have h1 := h1.symm; subst h1)
    | (go_at_call 40; refine (ky _).mono ?_; rintro e1 w1 ⟨rfl, h1⟩; have h1 := h1.symm; subst h1)
    | fail)
  go_wp2_with (first
    | (go_at_call 30; refine rl.mono ?_; rintro e1 w1 ⟨rfl, h1⟩; have h1 := h1.symm; subst h1)
    | (go_at_call 12; refine kk.mono ?_; rintro e1 w1 ⟨rfl, h1⟩; have h1 := h1.symm; subst h1)
    | (go_at_call 31; refine rk.mono ?_; rintro e1 w1 ⟨rfl, h1⟩; have h1 := h1.symm; subst h1)
    | (go_at_call 32; refine kt.mono ?_; rintro e1 w1 ⟨rfl, h1⟩; have h1 := h1.symm; subst h1)
    | (go_at_call 33; refine rt.mono ?_; rintro e1 w1 ⟨rfl, h1⟩; have h1 := h1.symm; subst h1)
    | (go_at_call 34; refine kn.mono ?_; rintro e1 w1 ⟨rfl, h1⟩; have h1 := h1.symm; subst h1)
    | (go_at_call 35; refine rn.mono ?_; rintro e1 w1 ⟨rfl, h1⟩; have h1 := h1.symm; subst h1)
    | (go_at_call 36; refine ks.mono ?_; rintro e1 w1 ⟨rfl, h1⟩; have h1 := h1.symm; subst h1)
    | (go_at_call 37; refine rs.mono ?_; rintro e1 w1 ⟨rfl, h1⟩; have h1 := h1.symm; subst h1)
    | (go_at_call 38; refine kl.mono ?_; rintro e1 w1 ⟨rfl, h1⟩; have h1 := h1.symm; subst h1)
    | (go_at_call 39; refine (ki _).mono ?_; rintro e1 w1 ⟨rfl, h1⟩; have h1 := h1.symm; subst h1)
    | (go_at_call 40; refine (ky _).mono ?_; rintro e1 w1 ⟨rfl, h1⟩; have h1 := h1.symm; subst h1)
    | fail)
  go_loopw [6] (fun iv wr => iv = .int .i64 0 ∧ wr = w) (fun _ _ => 0)
  case atStart => exact ⟨rfl, rfl⟩
  case round =>
    obtain ⟨rfl, rfl⟩ := hrel
    go_wp2
    go_ret
    exact ⟨rfl, rfl⟩
end Go.Proofs
namespace Go.Jv
/-- Among keys that rise each stands where the search ends. -/
theorem place_own {ks : List ByteArray} (hr : Rising ks) (k : Nat) (hk : k < ks.length) : place ks ks[k] = k := by
  obtain ⟨p1, p2, p3⟩ := place_in hr ks[k]
  have irr : Op.bytesLess ks[k].data.toList ks[k].data.toList = false := by
    rw [Go.Proofs.bytesLess_eq]; exact decide_eq_false (fun h => absurd h (List.lt_irrefl _))
  rcases Nat.lt_trichotomy (place ks ks[k]) k with h | h | h
  · have h1 := p3 (place ks ks[k]) (by omega) (Nat.le_refl _)
    have h2 := List.pairwise_iff_getElem.1 hr _ _ (by omega : place ks ks[k] < ks.length) hk h
    rw [h1] at h2; cases h2
  · exact h
  · have h1 := p2 k hk h
    rw [irr] at h1; cases h1
end Go.Jv
namespace Go.Proofs
open Go.RowKit Go.Jv
set_option maxHeartbeats 1000000 in
theorem Tryz.getr_own {w : World} {ok : Nat → Prop} {x : Nat} {kv sv : Value} {ks : List ByteArray} {xs : List Nat} (hvb : Jv.Vb w x 5 false 0 emp kv sv) (hkr : Jv.Rw w ok 9 kv (ks.map Value.string)) (hir : Jv.Rw w ok 24 sv (Jv.ptrs xs)) (hlen : ks.length = xs.length) (hl : ks.length ≤ 64) (hris : Rising ks) (k : Nat) (hk : k < ks.length) (y : Nat) (hy : xs[k]? = some y) :
    Calls Tryz.prog 28 #[.pointer (some ⟨x, 0, none⟩), .string ks[k]] w fun e w' => e = .returned (.pointer (some ⟨y, 0, none⟩)) ∧ ∃ q, w' = w.drewN q := by
  have hkd := Tryz.kind_any hvb
  have hkrow := hkr.row
  rw [List.length_map] at hkrow
  have hse := Tryz.search_any hkrow hl ks[k]
  have hpo := place_own hris k hk
  have hd : decide (ks[place ks ks[k]]? = some ks[k]) = true := by rw [hpo]; simp [hk]
  rw [hd, hpo] at hse
  have c4 := hvb.c4
  have c5 := hvb.c5
  obtain ⟨g, cp, rfl, _, _, hcl⟩ := Jv.row_cells hir (by simp [Jv.ptrs]; omega)
  have hcy := hcl k (.pointer (some ⟨y, 0, none⟩)) (by simp [Jv.ptrs, hy])
  have hxl : (Jv.ptrs xs).length = ks.length := by simp [Jv.ptrs, hlen]
  rw [hxl] at c5
  have hpi : (k : Int) < (ks.length : Int) := by omega
  clear hkrow hkr hir hvb hcl hd hxl hpo hris hy
  generalize ks[k] = key at *
  go_enter Tryz.func28, Tryz.ntmps28
  go_wp2_with (first
    | (go_at_call 12; refine hkd.mono ?_; clear hkd; rintro e w1 ⟨rfl, rfl⟩)
    | (go_at_call 68; refine hse.mono ?_; clear hse; rintro e w2 ⟨rfl, q, rfl⟩)
    | fail)
  go_ret
  exact ⟨rfl, _, rfl⟩
end Go.Proofs
namespace Go.Proofs
open Go.RowKit Go.Jv
/-- What like asks at one place. -/
structure Tryz.LkAt (W : World) (x y i : Nat) (kd : Int) (px py : Nat) (key : ByteArray) : Prop where
  pit : Calls Tryz.prog 39 #[.pointer (some ⟨x, 0, none⟩), .int .i64 i] W fun e w' => e = .returned (.pointer (some ⟨px, 0, none⟩)) ∧ w' = W
  rit : Calls Tryz.prog 41 #[.pointer (some ⟨y, 0, none⟩), .int .i64 i] W fun e w' => e = .returned (.pointer (some ⟨py, 0, none⟩)) ∧ w' = W
  lk : Calls Tryz.prog 16 #[.pointer (some ⟨px, 0, none⟩), .pointer (some ⟨py, 0, none⟩)] W fun e w' => e = .returned (.bool true) ∧ Below W.heap.size W w'
  pke : Calls Tryz.prog 40 #[.pointer (some ⟨x, 0, none⟩), .int .i64 i] W fun e w' => e = .returned (.string key) ∧ w' = W
  rke : Calls Tryz.prog 42 #[.pointer (some ⟨y, 0, none⟩), .int .i64 i] W fun e w' => e = .returned (.string key) ∧ w' = W
  kin : Calls Tryz.prog 12 #[.pointer (some ⟨x, 0, none⟩)] W fun e w' => e = .returned (.int .i64 kd) ∧ w' = W
  get : kd = 5 → Calls Tryz.prog 28 #[.pointer (some ⟨x, 0, none⟩), .string key] W fun e w' => e = .returned (.pointer (some ⟨px, 0, none⟩)) ∧ ∃ q, w' = W.drewN q
  same : ∀ q, Calls Tryz.prog 10 #[.pointer (some ⟨px, 0, none⟩), .pointer (some ⟨px, 0, none⟩)] (W.drewN q) fun e w' => e = .returned (.bool true) ∧ Below (W.drewN q).heap.size (W.drewN q) w'
set_option maxRecDepth 100000 in
set_option maxHeartbeats 8000000 in
theorem Tryz.like_lst {w : World} {x y L : Nat} {kv1 kv2 : Value} {a1 a2 : Option Addr} {c1 c2 : Nat} (hx : Jv.Vb w x 4 false 0 emp kv1 (.slice a1 L c1)) (hy : Jv.Vb w y 4 false 0 emp (.slice a2 L c2) kv2) (hL : L ≤ 1000000)
    (hit : ∀ i, i < L → ∃ px py key, ∀ W, Below w.heap.size w W → Tryz.LkAt W x y i 4 px py key) :
    Calls Tryz.prog 16 #[.pointer (some ⟨x, 0, none⟩), .pointer (some ⟨y, 0, none⟩)] w fun e w' => e = .returned (.bool true) ∧ Below w.heap.size w w' := by
  have kk := Tryz.kind_any hx
  have kt := Tryz.pTrue hx
  have kn := Tryz.pNumber hx
  have ks := Tryz.pText hx
  have kl : Calls Tryz.prog _ _ w _ := Tryz.len_any hx
  have ki : ∀ i : Int, (i < 0 ∨ (L : Int) ≤ i) → Calls Tryz.prog 39 #[.pointer (some ⟨x, 0, none⟩), .int .i64 i] w fun e w' => e = .returned (.pointer none) ∧ w' = w := fun i h => Tryz.pItem0 i hx h
  have ky : ∀ i : Int, (i < 0 ∨ (L : Int) ≤ i) → Calls Tryz.prog 40 #[.pointer (some ⟨x, 0, none⟩), .int .i64 i] w fun e w' => e = .returned (.string ⟨#[]⟩) ∧ w' = w := fun i h => Tryz.pKey0 i hx (by omega)
  have rk := Tryz.rKind hy
  have rt := Tryz.rTrue hy
  have rn := Tryz.rNumber hy
  have rs := Tryz.rText hy
  have rl : Calls Tryz.prog _ _ w _ := Tryz.rLen hy
  have HIT : Hid (∀ i, i < L → ∃ px py key, ∀ W, Below w.heap.size w W → Tryz.LkAt W x y i 4 px py key) := hit
  clear hx hy hit
  go_enter Tryz.func16, Tryz.ntmps16
  go_upto_if 43 with (first
    | (go_at_call 30; refine rl.mono ?_; rintro e1 w1 ⟨rfl, h1⟩; have h1 := h1.symm; subst h1)
    | (go_at_call 12; refine kk.mono ?_; rintro e1 w1 ⟨rfl, h1⟩; have h1 := h1.symm; subst h1)
    | (go_at_call 31; refine rk.mono ?_; rintro e1 w1 ⟨rfl, h1⟩; have h1 := h1.symm; subst h1)
    | (go_at_call 32; refine kt.mono ?_; rintro e1 w1 ⟨rfl, h1⟩; have h1 := h1.symm; subst h1)
    | (go_at_call 33; refine rt.mono ?_; rintro e1 w1 ⟨rfl, h1⟩; have h1 := h1.symm; subst h1)
    | (go_at_call 34; refine kn.mono ?_; rintro e1 w1 ⟨rfl, h1⟩; have h1 := h1.symm; subst h1)
    | (go_at_call 35; refine rn.mono ?_; rintro e1 w1 ⟨rfl, h1⟩; have h1 := h1.symm; subst h1)
    | (go_at_call 36; refine ks.mono ?_; rintro e1 w1 ⟨rfl, h1⟩; have h1 := h1.symm; subst h1)
    | (go_at_call 37; refine rs.mono ?_; rintro e1 w1 ⟨rfl, h1⟩; have h1 := h1.symm; subst h1)
    | (go_at_call 38; refine kl.mono ?_; rintro e1 w1 ⟨rfl, h1⟩; have h1 := h1.symm; subst h1)
    | (go_at_call 39; refine (ki _ (by omega)).mono ?_; rintro e1 w1 ⟨rfl, h1⟩; have h1 := h1.symm; subst h1)
    | (go_at_call 40; refine (ky _ (by omega)).mono ?_; rintro e1 w1 ⟨rfl, h1⟩; have h1 := h1.symm; subst h1)
    | fail)
  go_upto_if 63 with (first
    | (go_at_call 30; refine rl.mono ?_; rintro e1 w1 ⟨rfl, h1⟩; have h1 := h1.symm; subst h1)
    | (go_at_call 12; refine kk.mono ?_; rintro e1 w1 ⟨rfl, h1⟩; have h1 := h1.symm; subst h1)
    | (go_at_call 31; refine rk.mono ?_; rintro e1 w1 ⟨rfl, h1⟩; have h1 := h1.symm; subst h1)
    | (go_at_call 32; refine kt.mono ?_; rintro e1 w1 ⟨rfl, h1⟩; have h1 := h1.symm; subst h1)
    | (go_at_call 33; refine rt.mono ?_; rintro e1 w1 ⟨rfl, h1⟩; have h1 := h1.symm; subst h1)
    | (go_at_call 34; refine kn.mono ?_; rintro e1 w1 ⟨rfl, h1⟩; have h1 := h1.symm; subst h1)
    | (go_at_call 35; refine rn.mono ?_; rintro e1 w1 ⟨rfl, h1⟩; have h1 := h1.symm; subst h1)
    | (go_at_call 36; refine ks.mono ?_; rintro e1 w1 ⟨rfl, h1⟩; have h1 := h1.symm; subst h1)
    | (go_at_call 37; refine rs.mono ?_; rintro e1 w1 ⟨rfl, h1⟩; have h1 := h1.symm; subst h1)
    | (go_at_call 38; refine kl.mono ?_; rintro e1 w1 ⟨rfl, h1⟩; have h1 := h1.symm; subst h1)
    | (go_at_call 39; refine (ki _ (by omega)).mono ?_; rintro e1 w1 ⟨rfl, h1⟩; have h1 := h1.symm; subst h1)
    | (go_at_call 40; refine (ky _ (by omega)).mono ?_; rintro e1 w1 ⟨rfl, h1⟩; have h1 := h1.symm; subst h1)
    | fail)
  go_wp2_with (first
    | (go_at_call 30; refine rl.mono ?_; rintro e1 w1 ⟨rfl, h1⟩; have h1 := h1.symm; subst h1)
    | (go_at_call 12; refine kk.mono ?_; rintro e1 w1 ⟨rfl, h1⟩; have h1 := h1.symm; subst h1)
    | (go_at_call 31; refine rk.mono ?_; rintro e1 w1 ⟨rfl, h1⟩; have h1 := h1.symm; subst h1)
    | (go_at_call 32; refine kt.mono ?_; rintro e1 w1 ⟨rfl, h1⟩; have h1 := h1.symm; subst h1)
    | (go_at_call 33; refine rt.mono ?_; rintro e1 w1 ⟨rfl, h1⟩; have h1 := h1.symm; subst h1)
    | (go_at_call 34; refine kn.mono ?_; rintro e1 w1 ⟨rfl, h1⟩; have h1 := h1.symm; subst h1)
    | (go_at_call 35; refine rn.mono ?_; rintro e1 w1 ⟨rfl, h1⟩; have h1 := h1.symm; subst h1)
    | (go_at_call 36; refine ks.mono ?_; rintro e1 w1 ⟨rfl, h1⟩; have h1 := h1.symm; subst h1)
    | (go_at_call 37; refine rs.mono ?_; rintro e1 w1 ⟨rfl, h1⟩; have h1 := h1.symm; subst h1)
    | (go_at_call 38; refine kl.mono ?_; rintro e1 w1 ⟨rfl, h1⟩; have h1 := h1.symm; subst h1)
    | (go_at_call 39; refine (ki _ (by omega)).mono ?_; rintro e1 w1 ⟨rfl, h1⟩; have h1 := h1.symm; subst h1)
    | (go_at_call 40; refine (ky _ (by omega)).mono ?_; rintro e1 w1 ⟨rfl, h1⟩; have h1 := h1.symm; subst h1)
    | fail)
  clear kk kt kn ks kl ki ky rk rt rn rs rl
  go_loopw [6] (fun iv wr => ∃ i : Nat, i ≤ L ∧ iv = .int .i64 i ∧ Below w.heap.size w wr) (fun i _ => L - (intOf i).toNat)
  case atStart => exact ⟨0, Nat.zero_le _, rfl, Below.refl _ _⟩
  case round =>
    obtain ⟨i, hi, rfl, hbe⟩ := hrel
    by_cases hlt : i < L
    · have q0 : (i : Int) < (L : Int) := by omega
      obtain ⟨px, py, key, hC⟩ := HIT.out i hlt
      have HC : Hid (∀ W, Below w.heap.size w W → Tryz.LkAt W x y i 4 px py key) := hC
      have hD := hC wr hbe
      have pit := hD.pit
      have rit := hD.rit
      have lk := hD.lk
      have HBE : Hid (Below w.heap.size w wr) := hbe
      clear hD hC hbe HIT
      go_wp2_with (first
        | (go_at_call 39; refine pit.mono ?_; clear pit; rintro e1 w1 ⟨rfl, h1⟩; have h1 := h1.symm; subst h1)
        | (go_at_call 41; refine rit.mono ?_; clear rit; rintro e1 w1 ⟨rfl, h1⟩; have h1 := h1.symm; subst h1)
        | (go_at_call 16; refine lk.mono ?_; clear lk; rintro e2 w2 ⟨rfl, hb2⟩
           have hb3 : Below w.heap.size w w2 := HBE.out.trans (hb2.mono HBE.out.size)
           have hE := HC.out w2 hb3
           have pke := hE.pke
           have rke := hE.rke
           have kin := hE.kin
           skip
           have HB3 : Hid (Below w.heap.size w w2) := hb3
           clear hE hb3 hb2)
        | (go_at_call 40; refine pke.mono ?_; clear pke; rintro e1 w1 ⟨rfl, h1⟩; have h1 := h1.symm; subst h1)
        | (go_at_call 42; refine rke.mono ?_; rintro e1 w1 ⟨rfl, h1⟩; have h1 := h1.symm; subst h1)
        | (go_at_call 12; refine kin.mono ?_; clear kin; rintro e1 w1 ⟨rfl, h1⟩; have h1 := h1.symm; subst h1)
        | fail
        | fail)
      go_roundw
      case rel => exact ⟨i + 1, by omega, by go_num, HB3.out⟩
      case measure => simp [intOf]; omega
    · go_wp2
      go_ret
      exact ⟨rfl, hbe⟩
set_option maxRecDepth 100000 in
set_option maxHeartbeats 8000000 in
theorem Tryz.like_ob {w : World} {x y L : Nat} {kv1 kv2 : Value} {a1 a2 : Option Addr} {c1 c2 : Nat} (hx : Jv.Vb w x 5 false 0 emp kv1 (.slice a1 L c1)) (hy : Jv.Vb w y 5 false 0 emp (.slice a2 L c2) kv2) (hL : L ≤ 1000000)
    (hit : ∀ i, i < L → ∃ px py key, ∀ W, Below w.heap.size w W → Tryz.LkAt W x y i 5 px py key) :
    Calls Tryz.prog 16 #[.pointer (some ⟨x, 0, none⟩), .pointer (some ⟨y, 0, none⟩)] w fun e w' => e = .returned (.bool true) ∧ Below w.heap.size w w' := by
  have kk := Tryz.kind_any hx
  have kt := Tryz.pTrue hx
  have kn := Tryz.pNumber hx
  have ks := Tryz.pText hx
  have kl : Calls Tryz.prog _ _ w _ := Tryz.len_any hx
  have ki : ∀ i : Int, (i < 0 ∨ (L : Int) ≤ i) → Calls Tryz.prog 39 #[.pointer (some ⟨x, 0, none⟩), .int .i64 i] w fun e w' => e = .returned (.pointer none) ∧ w' = w := fun i h => Tryz.pItem0 i hx h
  have ky : ∀ i : Int, (i < 0 ∨ (L : Int) ≤ i) → Calls Tryz.prog 40 #[.pointer (some ⟨x, 0, none⟩), .int .i64 i] w fun e w' => e = .returned (.string ⟨#[]⟩) ∧ w' = w := fun i h => Tryz.pKey0 i hx (by omega)
  have rk := Tryz.rKind hy
  have rt := Tryz.rTrue hy
  have rn := Tryz.rNumber hy
  have rs := Tryz.rText hy
  have rl : Calls Tryz.prog _ _ w _ := Tryz.rLen hy
  have HIT : Hid (∀ i, i < L → ∃ px py key, ∀ W, Below w.heap.size w W → Tryz.LkAt W x y i 5 px py key) := hit
  clear hx hy hit
  go_enter Tryz.func16, Tryz.ntmps16
  go_upto_if 43 with (first
    | (go_at_call 30; refine rl.mono ?_; rintro e1 w1 ⟨rfl, h1⟩; have h1 := h1.symm; subst h1)
    | (go_at_call 12; refine kk.mono ?_; rintro e1 w1 ⟨rfl, h1⟩; have h1 := h1.symm; subst h1)
    | (go_at_call 31; refine rk.mono ?_; rintro e1 w1 ⟨rfl, h1⟩; have h1 := h1.symm; subst h1)
    | (go_at_call 32; refine kt.mono ?_; rintro e1 w1 ⟨rfl, h1⟩; have h1 := h1.symm; subst h1)
    | (go_at_call 33; refine rt.mono ?_; rintro e1 w1 ⟨rfl, h1⟩; have h1 := h1.symm; subst h1)
    | (go_at_call 34; refine kn.mono ?_; rintro e1 w1 ⟨rfl, h1⟩; have h1 := h1.symm; subst h1)
    | (go_at_call 35; refine rn.mono ?_; rintro e1 w1 ⟨rfl, h1⟩; have h1 := h1.symm; subst h1)
    | (go_at_call 36; refine ks.mono ?_; rintro e1 w1 ⟨rfl, h1⟩; have h1 := h1.symm; subst h1)
    | (go_at_call 37; refine rs.mono ?_; rintro e1 w1 ⟨rfl, h1⟩; have h1 := h1.symm; subst h1)
    | (go_at_call 38; refine kl.mono ?_; rintro e1 w1 ⟨rfl, h1⟩; have h1 := h1.symm; subst h1)
    | (go_at_call 39; refine (ki _ (by omega)).mono ?_; rintro e1 w1 ⟨rfl, h1⟩; have h1 := h1.symm; subst h1)
    | (go_at_call 40; refine (ky _ (by omega)).mono ?_; rintro e1 w1 ⟨rfl, h1⟩; have h1 := h1.symm; subst h1)
    | fail)
  go_upto_if 63 with (first
    | (go_at_call 30; refine rl.mono ?_; rintro e1 w1 ⟨rfl, h1⟩; have h1 := h1.symm; subst h1)
    | (go_at_call 12; refine kk.mono ?_; rintro e1 w1 ⟨rfl, h1⟩; have h1 := h1.symm; subst h1)
    | (go_at_call 31; refine rk.mono ?_; rintro e1 w1 ⟨rfl, h1⟩; have h1 := h1.symm; subst h1)
    | (go_at_call 32; refine kt.mono ?_; rintro e1 w1 ⟨rfl, h1⟩; have h1 := h1.symm; subst h1)
    | (go_at_call 33; refine rt.mono ?_; rintro e1 w1 ⟨rfl, h1⟩; have h1 := h1.symm; subst h1)
    | (go_at_call 34; refine kn.mono ?_; rintro e1 w1 ⟨rfl, h1⟩; have h1 := h1.symm; subst h1)
    | (go_at_call 35; refine rn.mono ?_; rintro e1 w1 ⟨rfl, h1⟩; have h1 := h1.symm; subst h1)
    | (go_at_call 36; refine ks.mono ?_; rintro e1 w1 ⟨rfl, h1⟩; have h1 := h1.symm; subst h1)
    | (go_at_call 37; refine rs.mono ?_; rintro e1 w1 ⟨rfl, h1⟩; have h1 := h1.symm; subst h1)
    | (go_at_call 38; refine kl.mono ?_; rintro e1 w1 ⟨rfl, h1⟩; have h1 := h1.symm; subst h1)
    | (go_at_call 39; refine (ki _ (by omega)).mono ?_; rintro e1 w1 ⟨rfl, h1⟩; have h1 := h1.symm; subst h1)
    | (go_at_call 40; refine (ky _ (by omega)).mono ?_; rintro e1 w1 ⟨rfl, h1⟩; have h1 := h1.symm; subst h1)
    | fail)
  go_wp2_with (first
    | (go_at_call 30; refine rl.mono ?_; rintro e1 w1 ⟨rfl, h1⟩; have h1 := h1.symm; subst h1)
    | (go_at_call 12; refine kk.mono ?_; rintro e1 w1 ⟨rfl, h1⟩; have h1 := h1.symm; subst h1)
    | (go_at_call 31; refine rk.mono ?_; rintro e1 w1 ⟨rfl, h1⟩; have h1 := h1.symm; subst h1)
    | (go_at_call 32; refine kt.mono ?_; rintro e1 w1 ⟨rfl, h1⟩; have h1 := h1.symm; subst h1)
    | (go_at_call 33; refine rt.mono ?_; rintro e1 w1 ⟨rfl, h1⟩; have h1 := h1.symm; subst h1)
    | (go_at_call 34; refine kn.mono ?_; rintro e1 w1 ⟨rfl, h1⟩; have h1 := h1.symm; subst h1)
    | (go_at_call 35; refine rn.mono ?_; rintro e1 w1 ⟨rfl, h1⟩; have h1 := h1.symm; subst h1)
    | (go_at_call 36; refine ks.mono ?_; rintro e1 w1 ⟨rfl, h1⟩; have h1 := h1.symm; subst h1)
    | (go_at_call 37; refine rs.mono ?_; rintro e1 w1 ⟨rfl, h1⟩; have h1 := h1.symm; subst h1)
    | (go_at_call 38; refine kl.mono ?_; rintro e1 w1 ⟨rfl, h1⟩; have h1 := h1.symm; subst h1)
    | (go_at_call 39; refine (ki _ (by omega)).mono ?_; rintro e1 w1 ⟨rfl, h1⟩; have h1 := h1.symm; subst h1)
    | (go_at_call 40; refine (ky _ (by omega)).mono ?_; rintro e1 w1 ⟨rfl, h1⟩; have h1 := h1.symm; subst h1)
    | fail)
  clear kk kt kn ks kl ki ky rk rt rn rs rl
  go_loopw [6] (fun iv wr => ∃ i : Nat, i ≤ L ∧ iv = .int .i64 i ∧ Below w.heap.size w wr) (fun i _ => L - (intOf i).toNat)
  case atStart => exact ⟨0, Nat.zero_le _, rfl, Below.refl _ _⟩
  case round =>
    obtain ⟨i, hi, rfl, hbe⟩ := hrel
    by_cases hlt : i < L
    · have q0 : (i : Int) < (L : Int) := by omega
      obtain ⟨px, py, key, hC⟩ := HIT.out i hlt
      have HC : Hid (∀ W, Below w.heap.size w W → Tryz.LkAt W x y i 5 px py key) := hC
      have hD := hC wr hbe
      have pit := hD.pit
      have rit := hD.rit
      have lk := hD.lk
      have HBE : Hid (Below w.heap.size w wr) := hbe
      clear hD hC hbe HIT
      go_wp2_with (first
        | (go_at_call 39; refine pit.mono ?_; clear pit; rintro e1 w1 ⟨rfl, h1⟩; have h1 := h1.symm; subst h1)
        | (go_at_call 41; refine rit.mono ?_; clear rit; rintro e1 w1 ⟨rfl, h1⟩; have h1 := h1.symm; subst h1)
        | (go_at_call 16; refine lk.mono ?_; clear lk; rintro e2 w2 ⟨rfl, hb2⟩
           have hb3 : Below w.heap.size w w2 := HBE.out.trans (hb2.mono HBE.out.size)
           have hE := HC.out w2 hb3
           have pke := hE.pke
           have rke := hE.rke
           have kin := hE.kin
           have get := hE.get rfl
           have same := hE.same
           have HB3 : Hid (Below w.heap.size w w2) := hb3
           clear hE hb3 hb2)
        | (go_at_call 40; refine pke.mono ?_; clear pke; rintro e1 w1 ⟨rfl, h1⟩; have h1 := h1.symm; subst h1)
        | (go_at_call 42; refine rke.mono ?_; rintro e1 w1 ⟨rfl, h1⟩; have h1 := h1.symm; subst h1)
        | (go_at_call 12; refine kin.mono ?_; clear kin; rintro e1 w1 ⟨rfl, h1⟩; have h1 := h1.symm; subst h1)
        | (go_at_call 28; refine get.mono ?_; clear get; rintro e1 w4 ⟨rfl, q, rfl⟩)
        | (go_at_call 10; refine (same _).mono ?_; clear same; rintro e1 w5 ⟨rfl, hb5⟩)
        | fail)
      go_roundw
      case rel => exact ⟨i + 1, by omega, by go_num, HB3.out.trans ((below_drewN (Below.refl _ _) _).trans (hb5.mono HB3.out.size))⟩
      case measure => simp [intOf]; omega
    · go_wp2
      go_ret
      exact ⟨rfl, hbe⟩
/-- like of the program's value and the document's. -/
def Tryz.LkOk (v : V) : Prop := ∀ (w : World) (ok1 ok2 : Nat → Prop) (x y : Nat), Tryz.Tr w ok1 v x → Tryz.Td w ok2 v y →
    Calls Tryz.prog 16 #[.pointer (some ⟨x, 0, none⟩), .pointer (some ⟨y, 0, none⟩)] w fun e w' => e = .returned (.bool true) ∧ Below w.heap.size w w'
theorem Tryz.lk_leaf {w : World} {x y : Nat} {k : Int} {tr : Bool} {n : Int} {s : ByteArray} (hx : Jv.Vb w x k tr n s Jv.nilS Jv.nilS) (hy : Jv.Vb w y k tr n s Jv.nilS Jv.nilS) :
    Calls Tryz.prog 16 #[.pointer (some ⟨x, 0, none⟩), .pointer (some ⟨y, 0, none⟩)] w fun e w' => e = .returned (.bool true) ∧ Below w.heap.size w w' :=
  (Tryz.like_leaf hx hy).mono fun e w' ⟨h1, h2⟩ => ⟨h1, by rw [h2]; exact Below.refl _ _⟩
theorem Tryz.Tr_un {w : World} {ok : Nat → Prop} {v : V} {x : Nat} (h : Tryz.Tr w ok v x) : ∃ cs T, w.heap[x]? = some (.cells cs T (0, 0)) := by
  obtain ⟨k, tr, n, s, ks, is, h1, -⟩ := h.vbr
  exact h1.un
theorem Tryz.lk_list (l : List V) (hl : l.length ≤ 1000000) (hall : ∀ (k : Nat) (h : k < l.length), Tryz.LkOk l[k]) : Tryz.LkOk (.list l) := by
  intro w ok1 ok2 x y hx hy
  unfold Tryz.Tr at hx
  unfold Tryz.Td at hy
  obtain ⟨-, sv1, xs, hvx, hr1, ht1⟩ := hx
  obtain ⟨-, sv2, ys, hvy, hr2, ht2⟩ := hy
  have lx := Tryz.Trs_len l xs ht1
  have ly := Tryz.Tds_len l ys ht2
  have px : (Jv.ptrs xs).length = l.length := by simp [Jv.ptrs, lx]
  have py : (Jv.ptrs ys).length = l.length := by simp [Jv.ptrs, ly]
  obtain ⟨a1, c1, e1⟩ := Jv.row_form hr1.row
  obtain ⟨a2, c2, e2⟩ := Jv.row_form hr2.row
  rw [px] at e1
  rw [py] at e2
  subst e1 e2
  refine Tryz.like_lst hvx hvy hl fun i hi => ?_
  obtain ⟨g1, d1, f1, -, hg1, cl1⟩ := Jv.row_cells hr1 (by omega)
  obtain ⟨g2, d2, f2, -, hg2, cl2⟩ := Jv.row_cells hr2 (by omega)
  injection f1 with f1 _ _
  injection f2 with f2 _ _
  subst f1 f2
  obtain ⟨p, hp, htp⟩ := Tryz.Trs_get l xs i hi ht1
  obtain ⟨q, hq, htq⟩ := Tryz.Tds_get l ys i hi ht2
  have cx := cl1 i (.pointer (some ⟨p, 0, none⟩)) (by simp [Jv.ptrs, hp])
  have cy := cl2 i (.pointer (some ⟨q, 0, none⟩)) (by simp [Jv.ptrs, hq])
  refine ⟨p, q, ⟨#[]⟩, fun W hW => ?_⟩
  have wx := hvx.keep (hW.block x hvx.lt) hW.size
  have wy := hvy.keep (hW.block y hvy.lt) hW.size
  have bx := (hW.cell (p := ⟨g1, i, none⟩) hg1).trans cx
  have by' := (hW.cell (p := ⟨g2, i, none⟩) hg2).trans cy
  have tp := Tryz.Tr_keep (fun g _ hl => hW.block g hl) hW.size _ _ htp
  have tq := Tryz.Td_keep (fun g _ hl => hW.block g hl) hW.size _ _ htq
  obtain ⟨cs, T, hu⟩ := Tryz.Tr_un tp
  exact ⟨Tryz.pItem wx hi bx, Tryz.rItem wy hi by', hall i hi W _ _ p q tp tq, Tryz.pKey0 _ wx (.inl (.inl (by decide))), Tryz.rKey0 i wy, Tryz.kind_any wx, fun h => absurd h (by decide), fun n => Tryz.same_self (w := W.drewN n) hu⟩
theorem Tryz.lk_obj (ks : List ByteArray) (l : List V) (hkl : ks.length = l.length) (hl : l.length ≤ 64) (hris : Rising ks) (hall : ∀ (k : Nat) (h : k < l.length), Tryz.LkOk l[k]) : Tryz.LkOk (.obj ks l) := by
  intro w ok1 ok2 x y hx hy
  unfold Tryz.Tr at hx
  unfold Tryz.Td at hy
  obtain ⟨-, kv1, sv1, xs, hvx, hk1, hr1, ht1, hn1⟩ := hx
  obtain ⟨-, kv2, sv2, ys, hvy, hk2, hr2, ht2, hn2⟩ := hy
  have lx := Tryz.Trs_len l xs ht1
  have ly := Tryz.Tds_len l ys ht2
  have px : (Jv.ptrs xs).length = l.length := by simp [Jv.ptrs, lx]
  have py : (Jv.ptrs ys).length = l.length := by simp [Jv.ptrs, ly]
  have pk : (ks.map Value.string).length = l.length := by simp [hkl]
  obtain ⟨a1, c1, e1⟩ := Jv.row_form hr1.row
  obtain ⟨a2, c2, e2⟩ := Jv.row_form hr2.row
  obtain ⟨a3, c3, e3⟩ := Jv.row_form hk1.row
  obtain ⟨a4, c4, e4⟩ := Jv.row_form hk2.row
  rw [px] at e1
  rw [py] at e2
  rw [pk] at e3 e4
  subst e1 e2 e3 e4
  refine Tryz.like_ob hvx hvy (by omega) fun i hi => ?_
  obtain ⟨g1, d1, f1, -, hg1, cl1⟩ := Jv.row_cells hr1 (by omega)
  obtain ⟨g2, d2, f2, -, hg2, cl2⟩ := Jv.row_cells hr2 (by omega)
  obtain ⟨g3, d3, f3, -, hg3, cl3⟩ := Jv.row_cells hk1 (by omega)
  obtain ⟨g4, d4, f4, -, hg4, cl4⟩ := Jv.row_cells hk2 (by omega)
  injection f1 with f1 _ _
  injection f2 with f2 _ _
  injection f3 with f3 _ _
  injection f4 with f4 _ _
  subst f1 f2 f3 f4
  obtain ⟨p, hp, htp⟩ := Tryz.Trs_get l xs i hi ht1
  obtain ⟨q, hq, htq⟩ := Tryz.Tds_get l ys i hi ht2
  have hik : i < ks.length := by omega
  have cx := cl1 i (.pointer (some ⟨p, 0, none⟩)) (by simp [Jv.ptrs, hp])
  have cy := cl2 i (.pointer (some ⟨q, 0, none⟩)) (by simp [Jv.ptrs, hq])
  have cz := cl3 i (.string ks[i]) (by simp [hik])
  have cu := cl4 i (.string ks[i]) (by simp [hik])
  refine ⟨p, q, ks[i], fun W hW => ?_⟩
  have wx := hvx.keep (hW.block x hvx.lt) hW.size
  have wy := hvy.keep (hW.block y hvy.lt) hW.size
  have bx := (hW.cell (p := ⟨g1, i, none⟩) hg1).trans cx
  have by' := (hW.cell (p := ⟨g2, i, none⟩) hg2).trans cy
  have bz := (hW.cell (p := ⟨g3, i, none⟩) hg3).trans cz
  have bu := (hW.cell (p := ⟨g4, i, none⟩) hg4).trans cu
  have tp := Tryz.Tr_keep (fun g _ hl => hW.block g hl) hW.size _ _ htp
  have tq := Tryz.Td_keep (fun g _ hl => hW.block g hl) hW.size _ _ htq
  obtain ⟨cs, T, hu⟩ := Tryz.Tr_un tp
  exact ⟨Tryz.pItem wx hi bx, Tryz.rItem wy hi by', hall i hi W _ _ p q tp tq, Tryz.pKey wx rfl hi bz, Tryz.rKey wy hi bu, Tryz.kind_any wx, fun _ => Tryz.getr_own wx (hk1.keep fun g _ hl => hW.block g hl) (hr1.keep fun g _ hl => hW.block g hl) (by omega) (by omega) hris i hik p hp, fun n => Tryz.same_self (w := W.drewN n) hu⟩
/-- like of every value that may be read. -/
theorem Tryz.lk_all : ∀ (d : Nat) (v : V), Gd d v → Tryz.LkOk v := by
  intro d
  induction d with
  | zero =>
    intro v hg
    cases v with
    | list l => exact absurd hg (by simp [Gd])
    | obj ks l => exact absurd hg (by simp [Gd])
    | null => intro w ok1 ok2 x y hx hy; unfold Tryz.Tr at hx; unfold Tryz.Td at hy; exact Tryz.lk_leaf hx.2 hy.2
    | bool b => intro w ok1 ok2 x y hx hy; unfold Tryz.Tr at hx; unfold Tryz.Td at hy; exact Tryz.lk_leaf hx.2 hy.2
    | int n => intro w ok1 ok2 x y hx hy; unfold Tryz.Tr at hx; unfold Tryz.Td at hy; exact Tryz.lk_leaf hx.2 hy.2
    | text s => intro w ok1 ok2 x y hx hy; unfold Tryz.Tr at hx; unfold Tryz.Td at hy; exact Tryz.lk_leaf hx.2 hy.2
  | succ d ih =>
    intro v hg
    cases v with
    | list l =>
      obtain ⟨g1, g2⟩ := hg
      exact Tryz.lk_list l (by omega) fun i hi => ih _ (g2 _ (List.getElem_mem hi))
    | obj ks l =>
      obtain ⟨g0, g1, g2, -, g3⟩ := hg
      exact Tryz.lk_obj ks l g0 g1 g2 fun i hi => ih _ (g3 _ (List.getElem_mem hi))
    | null => intro w ok1 ok2 x y hx hy; unfold Tryz.Tr at hx; unfold Tryz.Td at hy; exact Tryz.lk_leaf hx.2 hy.2
    | bool b => intro w ok1 ok2 x y hx hy; unfold Tryz.Tr at hx; unfold Tryz.Td at hy; exact Tryz.lk_leaf hx.2 hy.2
    | int n => intro w ok1 ok2 x y hx hy; unfold Tryz.Tr at hx; unfold Tryz.Td at hy; exact Tryz.lk_leaf hx.2 hy.2
    | text s => intro w ok1 ok2 x y hx hy; unfold Tryz.Tr at hx; unfold Tryz.Td at hy; exact Tryz.lk_leaf hx.2 hy.2
end Go.Proofs
