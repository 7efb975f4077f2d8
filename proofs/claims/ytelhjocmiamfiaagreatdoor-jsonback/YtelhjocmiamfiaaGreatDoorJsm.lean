/-
  What is asked of values; 'Same' of two texts.
-/
import Derived.Test.YtelhjocmiamfiaaGreatDoorJz
import Derived.LaidEqlPtr
namespace Go.Proofs
open Go.RowKit Go.Jv
theorem Tryz.text_of {w : World} {x : Nat} {k : Int} {b : Bool} {n : Int} {s : ByteArray} {kv sv : Value} (h : Jv.Vb w x k b n s kv sv) :
    Calls Tryz.prog 22 #[.pointer (some ⟨x, 0, none⟩)] w fun e w' => e = .returned (.string s) ∧ w' = w := by
  have hc := h.c3
  clear h
  go_enter Tryz.func22, Tryz.ntmps22
  go_wp2
  go_ret
  exact ⟨rfl, rfl⟩
theorem Tryz.true_of {w : World} {x : Nat} {k : Int} {b : Bool} {n : Int} {s : ByteArray} {kv sv : Value} (h : Jv.Vb w x k b n s kv sv) :
    Calls Tryz.prog 20 #[.pointer (some ⟨x, 0, none⟩)] w fun e w' => e = .returned (.bool b) ∧ w' = w := by
  have hc := h.c1
  clear h
  go_enter Tryz.func20, Tryz.ntmps20
  go_wp2
  go_ret
  exact ⟨rfl, rfl⟩
theorem Tryz.num_of {w : World} {x : Nat} {k : Int} {b : Bool} {n : Int} {s : ByteArray} {kv sv : Value} (h : Jv.Vb w x k b n s kv sv) :
    Calls Tryz.prog 21 #[.pointer (some ⟨x, 0, none⟩)] w fun e w' => e = .returned (.int .i64 n) ∧ w' = w := by
  have hc := h.c2
  clear h
  go_enter Tryz.func21, Tryz.ntmps21
  go_wp2
  go_ret
  exact ⟨rfl, rfl⟩
theorem Tryz.len_of {w : World} {x : Nat} {k : Int} {b : Bool} {n : Int} {s : ByteArray} {kv : Value} {a : Option Addr} {l c : Nat} (h : Jv.Vb w x k b n s kv (.slice a l c)) :
    Calls Tryz.prog 23 #[.pointer (some ⟨x, 0, none⟩)] w fun e w' => e = .returned (.int .i64 l) ∧ w' = w := by
  have hc := h.c5
  clear h
  go_enter Tryz.func23, Tryz.ntmps23
  go_wp2
  go_ret
  exact ⟨rfl, rfl⟩
/-- Two blocks are two, where one of them is as it was laid. -/
theorem Jv.eql_half {P : Program} {w : World} {tp te : TypeId} {j : TypeInfo} {x y : Nat} {ca : Array Value} {ta : TypeId} {v : Value} (hp : P.underlying tp = some (.pointer te)) (hte : P.info? te = some j) (hsz : j.size ≠ 0) (hne : ¬ x = y)
    (ha : w.heap[x]? = some (.cells ca ta (0, 0))) (hb : w.cell? ⟨y, 0, none⟩ = some v) : (binOp .eql tp (.pointer (some ⟨x, 0, none⟩)) (.pointer (some ⟨y, 0, none⟩))).run P w = .ok (.bool false) w := by
  have hb2 : ∃ cb tb lo hi, w.heap[y]? = some (.cells cb tb (lo, hi)) ∧ cb.size ≠ 0 := by
    unfold World.cell? at hb
    split at hb
    · rename_i c t m heq
      refine ⟨c, t, m.1, m.2, heq, ?_⟩
      simp at hb
      have := (Array.getElem?_eq_some_iff.1 hb).1
      omega
    · cases hb
  obtain ⟨cb, tb, lo, hi, hb3, hb4⟩ := hb2
  have hs : (sameAddr ⟨x, 0, none⟩ ⟨y, 0, none⟩).run P w = .ok false w := by
    simp [sameAddr, hne, World.frozen?, ha, hb3, noView, viewAt, World.shape?, mayBeOne, stringish, hb4]
  have h : ∀ d : Nat, (Op.equalIn (d + 1) tp (.pointer (some ⟨x, 0, none⟩)) (.pointer (some ⟨y, 0, none⟩))).run P w = .ok false w := fun d => by
    simp [Op.equalIn, run_underlying hp, sizeOf, typeInfo, hte, hsz, hs]
  simp only [binOp]
  simp [Op.equal, Op.maxDepth, h 9999]
theorem Tryz.info_val : (Tryz.prog.info? 50).map (fun i => i.size) = some 6 := by kernel_rfl
theorem Tryz.eql_val {w : World} {x y : Nat} {ca : Array Value} {ta : TypeId} {v : Value} (hne : ¬ x = y) (ha : w.heap[x]? = some (.cells ca ta (0, 0))) (hb : w.cell? ⟨y, 0, none⟩ = some v) :
    (binOp .eql 24 (.pointer (some ⟨x, 0, none⟩)) (.pointer (some ⟨y, 0, none⟩))).run Tryz.prog w = .ok (.bool false) w := by
  have hi := Tryz.info_val
  cases hj : Tryz.prog.info? 50 with
  | none => rw [hj] at hi; cases hi
  | some j =>
    rw [hj] at hi
    exact Jv.eql_half Tryz.underlying24 hj (by simp at hi; omega) hne ha hb
set_option maxRecDepth 100000 in
set_option maxHeartbeats 2000000 in
theorem Tryz.alike_text {w : World} {x y : Nat} {t : ByteArray} {ca : Array Value} {ta : TypeId} (ha : w.heap[x]? = some (.cells ca ta (0, 0))) (hx : Jv.Vb w x 3 false 0 t Jv.nilS Jv.nilS) (hy : Jv.Vb w y 3 false 0 t Jv.nilS Jv.nilS) (hne : ¬ x = y) (m : Value) :
    Calls Tryz.prog 12 #[.pointer (some ⟨x, 0, none⟩), .pointer (some ⟨y, 0, none⟩), m] w fun e w' => e = .returned (.bool true) ∧ w' = w := by
  have hq := Tryz.eql_val hne ha hy.c0
  clear ha
  have k1 := Tryz.kind_any hx
  have k2 := Tryz.kind_any hy
  have t1 := Tryz.true_of hx
  have t2 := Tryz.true_of hy
  have n1 := Tryz.num_of hx
  have n2 := Tryz.num_of hy
  have x1 := Tryz.text_of hx
  have x2 := Tryz.text_of hy
  have l1 := Tryz.len_of hx
  have l2 := Tryz.len_of hy
  have l3 := Tryz.len_of hx
  clear hx hy
  go_enter Tryz.func12, Tryz.ntmps12
  go_wp2_with (first
    | (go_at_call 15; refine k1.mono ?_; clear k1; rintro e1 w1 ⟨rfl, rfl⟩)
    | (go_at_call 15; refine k2.mono ?_; clear k2; rintro e2 w2 ⟨rfl, rfl⟩)
    | (go_at_call 20; refine t1.mono ?_; clear t1; rintro e1 w1 ⟨rfl, rfl⟩)
    | (go_at_call 20; refine t2.mono ?_; clear t2; rintro e2 w2 ⟨rfl, rfl⟩)
    | (go_at_call 21; refine n1.mono ?_; clear n1; rintro e1 w1 ⟨rfl, rfl⟩)
    | (go_at_call 21; refine n2.mono ?_; clear n2; rintro e2 w2 ⟨rfl, rfl⟩)
    | (go_at_call 22; refine x1.mono ?_; clear x1; rintro e1 w1 ⟨rfl, rfl⟩)
    | (go_at_call 22; refine x2.mono ?_; clear x2; rintro e2 w2 ⟨rfl, rfl⟩)
    | (go_at_call 23; refine l1.mono ?_; clear l1; rintro e1 w1 ⟨rfl, rfl⟩)
    | (go_at_call 23; refine l2.mono ?_; clear l2; rintro e2 w2 ⟨rfl, rfl⟩)
    | (go_at_call 23; refine l3.mono ?_; clear l3; rintro e3 w3 ⟨rfl, rfl⟩)
    | fail)
  go_ret
  exact ⟨rfl, rfl⟩
set_option maxRecDepth 100000 in
theorem Tryz.same_text {w : World} {x y : Nat} {t : ByteArray} {ca : Array Value} {ta : TypeId} (hh : w.heap[x]? = some (.cells ca ta (0, 0))) (hx : Jv.Vb w x 3 false 0 t Jv.nilS Jv.nilS) (hy : Jv.Vb w y 3 false 0 t Jv.nilS Jv.nilS) (hne : ¬ x = y) :
    Calls Tryz.prog 7 #[.pointer (some ⟨x, 0, none⟩), .pointer (some ⟨y, 0, none⟩)] w fun e w' => e = .returned (.bool true) ∧ Below w.heap.size w w' := by
  have ha := fun (W : World) (h : Below w.heap.size w W) (m : Value) => Tryz.alike_text ((h.block x hx.lt).trans hh) (hx.keep (w' := W) (h.block x hx.lt) h.size) (hy.keep (w' := W) (h.block y hy.lt) h.size) hne m
  clear hx hy hh
  have hm := run_makeMap (P := Tryz.prog) 40 w
  go_enter Tryz.func7, Tryz.ntmps7
  go_wp2_with (first
    | (go_at_call 12; refine (ha _ ((Below.refl _ _).alloc (Nat.le_refl _) _) _).mono ?_; rintro e1 w1 ⟨rfl, rfl⟩)
    | fail)
  go_ret
  exact ⟨rfl, (Below.refl _ _).alloc (Nat.le_refl _) _⟩
end Go.Proofs
