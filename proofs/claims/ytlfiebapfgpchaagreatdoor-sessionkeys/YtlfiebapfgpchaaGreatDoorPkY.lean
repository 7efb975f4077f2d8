/-
  Laid together by pack.py of Sy Sz.
-/
import Derived.Test.YtlfiebapfgpchaaGreatDoorPkV
import Derived.LaidEql
import Derived.Stop.Asserts
import Derived.RowKitTokens
import Derived.Lib.IfaceEq
namespace Go.Proofs
open Go.RowKit Go.Wi Go.Se Go.Ct Go.Dg Go.Extern.Stop Go.Stop Go.Extern
theorem Tryz.isTypeOf (v : Value) (w : World) : (Extern.ReflectliteType.typeOf #[.iface 26 v]).run Tryz.prog w = .ok (.iface 172 (.agg #[.pointer (some ⟨5, 26, none⟩)])) w := by kernel_rfl
theorem Tryz.isComparable (w : World) : (Extern.ReflectliteType.method (fun t => do Go.Extern.Rtype.noPackHeld "Comparable" t; pure (.bool (← typeInfo t).comparable)) #[.agg #[.pointer (some ⟨5, 26, none⟩)]]).run Tryz.prog w = .ok (.bool true) w := by kernel_rfl
theorem Tryz.isMethodComparable (v : Value) (w : World) : (Go.method 339 172 v "Comparable").run Tryz.prog w = .ok (151, v) w := by kernel_rfl
theorem Tryz.methodUnwrap (v : Value) (w : World) : (Go.method 339 105 v "Unwrap").run Tryz.prog w = .ok (145, v) w := by kernel_rfl
theorem Tryz.noIsF (v : Value) (xT : TypeId) (w : World) : (Instr.typeAssert (.iface 105 v) xT 174 true).run Tryz.prog w = .ok (.tuple #[.nilIface, .bool false]) w := run_typeAssert_lacksB Tryz.underlying174 (by kernel_rfl) (by kernel_rfl) v xT w
theorem Tryz.hasUnwrapF (v : Value) (xT : TypeId) (w : World) : (Instr.typeAssert (.iface 105 v) xT 177 true).run Tryz.prog w = .ok (.tuple #[.iface 105 v, .bool true]) w := run_typeAssert_hasB Tryz.underlying177 (by kernel_rfl) v xT w
theorem Tryz.noIsE (v : Value) (xT : TypeId) (w : World) : (Instr.typeAssert (.iface 26 v) xT 174 true).run Tryz.prog w = .ok (.tuple #[.nilIface, .bool false]) w := run_typeAssert_lacksB Tryz.underlying174 (by kernel_rfl) (by kernel_rfl) v xT w
theorem Tryz.noUnwrapE (v : Value) (xT : TypeId) (w : World) : (Instr.typeAssert (.iface 26 v) xT 177 true).run Tryz.prog w = .ok (.tuple #[.nilIface, .bool false]) w := run_typeAssert_lacksB Tryz.underlying177 (by kernel_rfl) (by kernel_rfl) v xT w
theorem Tryz.noUnwrapsE (v : Value) (xT : TypeId) (w : World) : (Instr.typeAssert (.iface 26 v) xT 179 true).run Tryz.prog w = .ok (.tuple #[.nilIface, .bool false]) w := run_typeAssert_lacksB Tryz.underlying179 (by kernel_rfl) (by kernel_rfl) v xT w
/-- A flaw, in memory. -/
def Tryz.Fl (w : World) (z : Nat) (n : Int) : Prop := ∃ s, w.heap[z]? = some (.cells #[.int .i64 n, .string s] 107 (0, 0))
set_option maxHeartbeats 2000000 in
theorem Tryz.is_flaw {w : World} {z : Nat} {n : Int} (h : Tryz.Fl w z n) (m : Int) (B : Bool) (hB : (n = m ∧ B = true) ∨ (n ≠ m ∧ B = false)) :
    Calls Tryz.prog 57 #[.iface 105 (.pointer (some ⟨z, 0, none⟩)), .iface 26 (.int .i64 m)] w fun e w' => e = .returned (.bool B) ∧ w' = w := by
  obtain ⟨s, h⟩ := h
  have c0 : w.cell? ⟨z, 0, none⟩ = some (.int .i64 n) := cell_of_row w z 0 _ _ _ h
  have h57 := @run_callFunc_extern Tryz.prog 77 _ Extern.ReflectliteType.typeOf Tryz.func77 (by kernel_rfl) (by kernel_rfl) (by kernel_rfl) (by kernel_rfl)
  have h89 := @run_callFunc_extern Tryz.prog 151 _ (Extern.ReflectliteType.method fun t => do Go.Extern.Rtype.noPackHeld "Comparable" t; pure (.bool (← typeInfo t).comparable)) Tryz.func151 (by kernel_rfl) (by kernel_rfl) (by kernel_rfl) (by kernel_rfl)
  have tT := Tryz.isTypeOf
  have cT := fun W => h89 #[.agg #[.pointer (some ⟨5, 26, none⟩)]] W
  simp only [Tryz.isComparable] at cT
  clear h89
  have nF := Tryz.noIsF
  have uF := Tryz.hasUnwrapF
  have nE := Tryz.noIsE
  have uE := Tryz.noUnwrapE
  have vE := Tryz.noUnwrapsE
  have hei := Lib.run_eql_iface_int (P := Tryz.prog) w (t := 62) (tx := 26) (k := .i64) n m Tryz.underlying62 (by kernel_rfl) Tryz.underlying26
  have hty := run_eql_iface_types (P := Tryz.prog) 105 26 (.pointer (some ⟨z, 0, none⟩)) (.int .i64 m) Tryz.underlying62 (by decide) w
  have mR := Tryz.isMethodComparable
  have mU := Tryz.methodUnwrap
  clear h
  rcases hB with ⟨rfl, rfl⟩ | ⟨hne, rfl⟩
  · go_enter Tryz.func57, Tryz.ntmps57
    go_wp2
    refine wp_loop_rounds 2 ?_
    rw [rounds_succ]
    go_wp2
    rw [rounds_succ]
    go_wp2
    go_ret
    exact ⟨rfl, rfl⟩
  · have hq : (n == m) = false := by simp [hne]
    go_enter Tryz.func57, Tryz.ntmps57
    go_wp2
    refine wp_loop_rounds 2 ?_
    rw [rounds_succ]
    go_wp2
    rw [rounds_succ]
    go_wp2
    go_ret
    exact ⟨rfl, rfl⟩
set_option maxHeartbeats 2000000 in
theorem Tryz.is_same (m : Int) (w : World) : Calls Tryz.prog 57 #[.iface 26 (.int .i64 m), .iface 26 (.int .i64 m)] w fun e w' => e = .returned (.bool true) ∧ w' = w := by
  have h57 := @run_callFunc_extern Tryz.prog 77 _ Extern.ReflectliteType.typeOf Tryz.func77 (by kernel_rfl) (by kernel_rfl) (by kernel_rfl) (by kernel_rfl)
  have h89 := @run_callFunc_extern Tryz.prog 151 _ (Extern.ReflectliteType.method fun t => do Go.Extern.Rtype.noPackHeld "Comparable" t; pure (.bool (← typeInfo t).comparable)) Tryz.func151 (by kernel_rfl) (by kernel_rfl) (by kernel_rfl) (by kernel_rfl)
  have tT := Tryz.isTypeOf
  have cT := fun W => h89 #[.agg #[.pointer (some ⟨5, 26, none⟩)]] W
  simp only [Tryz.isComparable] at cT
  clear h89
  have hei := Lib.run_eql_iface_int (P := Tryz.prog) w (t := 62) (tx := 26) (k := .i64) m m Tryz.underlying62 (by kernel_rfl) Tryz.underlying26
  have mR := Tryz.isMethodComparable
  go_enter Tryz.func57, Tryz.ntmps57
  go_wp2
  refine wp_loop_rounds 1 ?_
  rw [rounds_succ]
  go_wp2
  go_ret
  exact ⟨rfl, rfl⟩
end Go.Proofs
namespace Go.Proofs
open Go.RowKit Go.Wi Go.Se Go.Ct Go.Dg
theorem Tryz.idx0 (W : World) : (Instr.index 109 (.agg #[.int .i64 1, .int .i64 170, .int .i64 171]) (.int .i64 0)).run Tryz.prog W = .ok (.int .i64 1) W := by kernel_rfl
theorem Tryz.idx1 (W : World) : (Instr.index 109 (.agg #[.int .i64 1, .int .i64 170, .int .i64 171]) (.int .i64 1)).run Tryz.prog W = .ok (.int .i64 170) W := by kernel_rfl
theorem Tryz.idx2 (W : World) : (Instr.index 109 (.agg #[.int .i64 1, .int .i64 170, .int .i64 171]) (.int .i64 2)).run Tryz.prog W = .ok (.int .i64 171) W := by kernel_rfl
set_option maxHeartbeats 2000000 in
set_option maxRecDepth 4000 in
theorem Tryz.numberOf_token {w : World} {z : Nat} (h : Tryz.Fl w z 170) : Calls Tryz.prog 28 #[.iface 105 (.pointer (some ⟨z, 0, none⟩))] w fun e w' => e = .returned (.int .i64 170) ∧ w' = w := by
  have h1 := Tryz.is_flaw h 1 false (.inr ⟨by decide, rfl⟩)
  have h2 := Tryz.is_flaw h 170 true (.inl ⟨rfl, rfl⟩)
  clear h
  have i0 := Tryz.idx0
  have i1 := Tryz.idx1
  have i2 := Tryz.idx2
  go_enter Tryz.func28, Tryz.ntmps28
  go_wp2
  refine wp_loop_rounds 2 ?_
  rw [rounds_succ]
  go_wp2_with (first | (go_at_call 57; refine h1.mono ?_; clear h1; rintro e w1 ⟨rfl, rfl⟩) | fail)
  rw [rounds_succ]
  go_wp2_with (first | (go_at_call 57; refine h2.mono ?_; clear h2; rintro e w1 ⟨rfl, rfl⟩) | fail)
  go_ret
  exact ⟨rfl, rfl⟩
set_option maxHeartbeats 2000000 in
set_option maxRecDepth 4000 in
theorem Tryz.numberOf_late {w : World} {z : Nat} {n : Int} (h : Tryz.Fl w z n) (hn : n = 171 ∨ n = 172) : Calls Tryz.prog 28 #[.iface 105 (.pointer (some ⟨z, 0, none⟩))] w fun e w' => e = .returned (.int .i64 n) ∧ w' = w := by
  have h1 := Tryz.is_flaw h 1 false (.inr ⟨by omega, rfl⟩)
  have h2 := Tryz.is_flaw h 170 false (.inr ⟨by omega, rfl⟩)
  rcases hn with rfl | rfl
  · have h3 := Tryz.is_flaw h 171 true (.inl ⟨rfl, rfl⟩)
    clear h
    have i0 := Tryz.idx0
    have i1 := Tryz.idx1
    have i2 := Tryz.idx2
    go_enter Tryz.func28, Tryz.ntmps28
    go_wp2
    refine wp_loop_rounds 3 ?_
    rw [rounds_succ]
    go_wp2_with (first | (go_at_call 57; refine h1.mono ?_; clear h1; rintro e w1 ⟨rfl, rfl⟩) | fail)
    rw [rounds_succ]
    go_wp2_with (first | (go_at_call 57; refine h2.mono ?_; clear h2; rintro e w1 ⟨rfl, rfl⟩) | fail)
    rw [rounds_succ]
    go_wp2_with (first | (go_at_call 57; refine h3.mono ?_; clear h3; rintro e w1 ⟨rfl, rfl⟩) | fail)
    go_ret
    exact ⟨rfl, rfl⟩
  · have h3 := Tryz.is_flaw h 171 false (.inr ⟨by decide, rfl⟩)
    clear h
    have i0 := Tryz.idx0
    have i1 := Tryz.idx1
    have i2 := Tryz.idx2
    go_enter Tryz.func28, Tryz.ntmps28
    go_wp2
    refine wp_loop_rounds 4 ?_
    rw [rounds_succ]
    go_wp2_with (first | (go_at_call 57; refine h1.mono ?_; clear h1; rintro e w1 ⟨rfl, rfl⟩) | fail)
    rw [rounds_succ]
    go_wp2_with (first | (go_at_call 57; refine h2.mono ?_; clear h2; rintro e w1 ⟨rfl, rfl⟩) | fail)
    rw [rounds_succ]
    go_wp2_with (first | (go_at_call 57; refine h3.mono ?_; clear h3; rintro e w1 ⟨rfl, rfl⟩) | fail)
    rw [rounds_succ]
    go_wp2
    go_ret
    exact ⟨rfl, rfl⟩
set_option maxHeartbeats 2000000 in
set_option maxRecDepth 4000 in
theorem Tryz.numberOf_arg (w : World) : Calls Tryz.prog 28 #[.iface 26 (.int .i64 1)] w fun e w' => e = .returned (.int .i64 1) ∧ w' = w := by
  have h1 := Tryz.is_same 1 w
  have i0 := Tryz.idx0
  have i1 := Tryz.idx1
  have i2 := Tryz.idx2
  go_enter Tryz.func28, Tryz.ntmps28
  go_wp2
  refine wp_loop_rounds 1 ?_
  rw [rounds_succ]
  go_wp2_with (first | (go_at_call 57; refine h1.mono ?_; clear h1; rintro e w1 ⟨rfl, rfl⟩) | fail)
  go_ret
  exact ⟨rfl, rfl⟩
/-- The result's box while nothing is said. -/
def Tryz.Zb (w : World) (R : Nat) : Prop := w.heap[R]? = some (.cells #[.string ⟨#[]⟩, .int .i64 0, .int .i64 0] 58 (0, 0))
theorem Tryz.Zb.cells {w2 : World} {R : Nat} (hr2 : Tryz.Zb w2 R) : (∀ o, (w2.alloc o).cell? ⟨R, 0, none⟩ = some (.string ⟨#[]⟩)) ∧ (∀ o, (w2.alloc o).frozen? ⟨R, 0, none⟩ = false) ∧ (∀ u o, ((w2.setCell ⟨R, 0, none⟩ u).alloc o).cell? ⟨R, 1, none⟩ = some (.int .i64 0)) ∧ (∀ u o, ((w2.setCell ⟨R, 0, none⟩ u).alloc o).frozen? ⟨R, 1, none⟩ = false) ∧
    (∀ u v o, (((w2.setCell ⟨R, 0, none⟩ u).setCell ⟨R, 1, none⟩ v).alloc o).cell? ⟨R, 2, none⟩ = some (.int .i64 0)) ∧ (∀ u v o, (((w2.setCell ⟨R, 0, none⟩ u).setCell ⟨R, 1, none⟩ v).alloc o).frozen? ⟨R, 2, none⟩ = false) := by
  have hl2 : R < w2.heap.size := block_lt hr2
  have hra : ∀ o, (w2.alloc o).heap[R]? = some (.cells #[.string ⟨#[]⟩, .int .i64 0, .int .i64 0] 58 (0, 0)) := fun o => (Ct.alloc_old o hl2).trans hr2
  have k1 : ∀ u, (w2.setCell ⟨R, 0, none⟩ u).heap[R]? = some (.cells #[u, .int .i64 0, .int .i64 0] 58 (0, 0)) := fun u => heap_setCell_same w2 R 0 _ _ u hr2
  have k2 : ∀ u v, ((w2.setCell ⟨R, 0, none⟩ u).setCell ⟨R, 1, none⟩ v).heap[R]? = some (.cells #[u, v, .int .i64 0] 58 (0, 0)) := fun u v => heap_setCell_same _ R 1 _ _ v (k1 u)
  have k1a : ∀ u o, ((w2.setCell ⟨R, 0, none⟩ u).alloc o).heap[R]? = _ := fun u o => (Ct.alloc_old o (block_lt (k1 u))).trans (k1 u)
  have k2a : ∀ u v o, (((w2.setCell ⟨R, 0, none⟩ u).setCell ⟨R, 1, none⟩ v).alloc o).heap[R]? = _ := fun u v o => (Ct.alloc_old o (block_lt (k2 u v))).trans (k2 u v)
  exact ⟨fun o => cell_of_row _ _ 0 _ _ _ (hra o), fun o => frozen_of_row _ _ 0 _ _ (hra o), fun u o => cell_of_row _ _ 1 _ _ _ (k1a u o), fun u o => frozen_of_row _ _ 1 _ _ (k1a u o), fun u v o => cell_of_row _ _ 2 _ _ _ (k2a u v o), fun u v o => frozen_of_row _ _ 2 _ _ (k2a u v o)⟩
theorem Tryz.Zb.done {w w2 : World} {R B : Nat} (hr2 : Tryz.Zb w2 R) (hb : Below B w w2) (hB : B ≤ R) (n : Int) (s : ByteArray) :
    ((((w2.setCell ⟨R, 0, none⟩ (.string ⟨#[]⟩)).setCell ⟨R, 1, none⟩ (.int .i64 0)).setCell ⟨R, 2, none⟩ (.int .i64 0)).alloc (.cells #[.int .i64 n, .string s] 107)).heap[R]? = some (.cells #[.string ⟨#[]⟩, .int .i64 0, .int .i64 0] 58 (0, 0)) ∧
    Tryz.Fl ((((w2.setCell ⟨R, 0, none⟩ (.string ⟨#[]⟩)).setCell ⟨R, 1, none⟩ (.int .i64 0)).setCell ⟨R, 2, none⟩ (.int .i64 0)).alloc (.cells #[.int .i64 n, .string s] 107)) w2.heap.size n ∧
    Below B w ((((w2.setCell ⟨R, 0, none⟩ (.string ⟨#[]⟩)).setCell ⟨R, 1, none⟩ (.int .i64 0)).setCell ⟨R, 2, none⟩ (.int .i64 0)).alloc (.cells #[.int .i64 n, .string s] 107)) := by
  have k1 := heap_setCell_same w2 R 0 _ _ (.string ⟨#[]⟩) hr2
  have k2 := heap_setCell_same _ R 1 _ _ (.int .i64 0) k1
  have k3 := heap_setCell_same _ R 2 _ _ (.int .i64 0) k2
  have hs := hb.size
  have hl := block_lt hr2
  have hz : (((w2.setCell ⟨R, 0, none⟩ (.string ⟨#[]⟩)).setCell ⟨R, 1, none⟩ (.int .i64 0)).setCell ⟨R, 2, none⟩ (.int .i64 0)).heap.size = w2.heap.size := by simp
  refine ⟨(Ct.alloc_old _ (block_lt k3)).trans k3, ⟨s, ?_⟩, (Se.belowS (Se.belowS (Se.belowS hb _ 0 _ hB) _ 1 _ hB) _ 2 _ hB).alloc (by rw [hz]; omega) _⟩
  have := heap_alloc_new (((w2.setCell ⟨R, 0, none⟩ (.string ⟨#[]⟩)).setCell ⟨R, 1, none⟩ (.int .i64 0)).setCell ⟨R, 2, none⟩ (.int .i64 0)) (.cells #[.int .i64 n, .string s] 107)
  rw [hz] at this
  exact this
/-- A token that was read, or a flaw of this number. -/
def Tryz.Got (w : World) (r : Option Tk) (n : Int) (e : Ending) (w' : World) : Prop := Below w.heap.size w w' ∧ match r with
  | some x => e = .returned (.tuple #[.agg #[.string x.u, .int .i64 x.n, .int .i64 x.t], .nilIface])
  | none => ∃ z, e = .returned (.tuple #[.agg #[.string ⟨#[]⟩, .int .i64 0, .int .i64 0], .iface 105 (.pointer (some ⟨z, 0, none⟩))]) ∧ Tryz.Fl w' z n ∧ w.heap.size ≤ z
set_option maxHeartbeats 4000000 in
set_option maxRecDepth 4000 in
theorem Tryz.readText_short {w : World} (t : ByteArray) (o : List UInt8) (ht : t.size ≤ 1000) (hd : (dec t.toList).1 = some o) (ho : o.length < 32) (U : Value) :
    Calls Tryz.prog 55 #[.string t, U] w fun e w' => Tryz.Got w none 170 e w' := by
  obtain ⟨W1, hW1⟩ : ∃ W, W = w.alloc (.cells #[.string ⟨#[]⟩, .int .i64 0, .int .i64 0] 58) := ⟨_, rfl⟩
  have hb1 : Below w.heap.size w W1 := by rw [hW1]; exact (Below.refl w.heap.size w).alloc (Nat.le_refl _) _
  have hn1 : W1.heap[w.heap.size]? = some (.cells #[.string ⟨#[]⟩, .int .i64 0, .int .i64 0] 58 (0, 0)) := by rw [hW1]; exact heap_alloc_new w _
  have HW : Hid (w.alloc (.cells #[.string ⟨#[]⟩, .int .i64 0, .int .i64 0] 58) = W1) := hW1.symm
  have hdec : Calls Tryz.prog 73 #[.string t] W1 fun e w' => ∃ C, e = .returned (.tuple #[.slice (some ⟨W1.heap.size, 0, none⟩) o.length C, .nilIface]) ∧ Below W1.heap.size W1 w' := (Tryz.dec_any t (by omega) W1).mono fun e w' h => by
    rcases h.r with ⟨o', C, h1, h2, h3⟩ | ⟨g, h1, _⟩
    · rw [hd] at h1
      cases h1
      exact ⟨C, h2, h.b⟩
    · rw [hd] at h1
      cases h1
  have hlt : ((o.length : Nat) : Int) < 32 := by omega
  have hl1 := block_lt hn1
  clear hW1 hd ht ho
  generalize o.length = N at *
  go_enter Tryz.func55, Tryz.ntmps55
  go_upto_region 1 with (fail)
  rw [HW.out]
  go_upto_region 5 with (first
    | (go_at_call 73; refine hdec.mono ?_; clear hdec; rintro e w2 ⟨C, rfl, hb2⟩)
    | fail)
  have hr2 : w2.heap[w.heap.size]? = _ := (hb2.block _ hl1).trans hn1
  obtain ⟨c0, f0, c1, f1, c2, f2⟩ := Tryz.Zb.cells hr2
  have hl2 : w.heap.size < w2.heap.size := block_lt hr2
  have HZ : Hid (Tryz.Zb w2 w.heap.size) := hr2
  have hB : Below w.heap.size w w2 := hb1.trans (hb2.mono hb1.size)
  clear hr2
  go_wp2
  obtain ⟨z1, z2, z3⟩ := Tryz.Zb.done HZ.out hB (Nat.le_refl _) 170 ⟨#[105, 116, 32, 104, 97, 115, 32, 110, 111, 32, 115, 117, 109]⟩
  refine bodyPost_ret (Se.results_ct rfl _ _ w.heap.size _ _ _ _ rfl z1 Tryz.underlying58 rfl Tryz.infoTok) rfl ⟨z3, w2.heap.size, rfl, z2, hB.size⟩
end Go.Proofs
