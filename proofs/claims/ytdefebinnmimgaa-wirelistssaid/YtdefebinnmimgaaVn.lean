/-
  errors.Is of a fault and ErrWire; an append to a row of one's own; what was written is read (plain).
-/
import Derived.Test.YtdefebinnmimgaaVm
import Derived.LaidEql
import Derived.Stop.Asserts
import Derived.RowKitTokens
import Derived.Lib.IfaceEq
namespace Go.Wi
theorem drop_front (a r : List UInt8) : (a ++ r).drop a.length = r := by simp
theorem cnt_read (a r : List UInt8) (m : Nat) (hm : m < 18446744073709551616) : (Rs.mk (a ++ (cnt m ++ r)) a.length none).cnt = (m, ⟨a ++ (cnt m ++ r), a.length + (cnt m).length, none⟩) := by
  have h := rdC_cnt m 0 0 r (by omega) (by simpa using hm) (by omega)
  simp only [Rs.cnt, drop_front, h]
  simp
theorem int_read (a r : List UInt8) (n : Int) (h1 : -9223372036854775808 ≤ n) (h2 : n ≤ 9223372036854775807) : (Rs.mk (a ++ (cnt (zig n) ++ r)) a.length none).int = (n, ⟨a ++ (cnt (zig n) ++ r), a.length + (cnt (zig n)).length, none⟩) := by
  unfold Rs.int
  rw [cnt_read a r (zig n) (zig_lt h1 h2)]
  simp only [unzig_zig]
theorem flag_read (a r : List UInt8) (b : Bool) : (Rs.mk (a ++ ((if b then 1 else 0) :: r)) a.length none).flag = (b, ⟨a ++ ((if b then 1 else 0) :: r), a.length + 1, none⟩) := by
  have h1 : a.length < (a ++ ((if b then 1 else 0) :: r)).length := by simp
  have h2 : (a ++ ((if b then 1 else 0) :: r))[a.length] = if b then 1 else 0 := by simp
  unfold Rs.flag
  simp only
  rw [dif_pos h1, h2]
  cases b <;> rfl
theorem flag_two (a r : List UInt8) : (Rs.mk (a ++ (2 :: r)) a.length none).flag = (false, ⟨a ++ (2 :: r), a.length, some a.length⟩) := by
  have h1 : a.length < (a ++ (2 :: r)).length := by simp
  have h2 : (a ++ (2 :: r))[a.length] = 2 := by simp
  unfold Rs.flag
  simp only
  rw [dif_pos h1, h2]
  rfl
theorem text_read (a r x : List UInt8) (hx : x.length < 18446744073709551616) : (Rs.mk (a ++ (cnt x.length ++ (x ++ r))) a.length none).text = (x, ⟨a ++ (cnt x.length ++ (x ++ r)), a.length + (cnt x.length).length + x.length, none⟩) := by
  unfold Rs.text
  rw [cnt_read a (x ++ r) x.length hx]
  simp only
  rw [if_neg (by simp; omega)]
  congr 1
  rw [← List.length_append, ← List.append_assoc, drop_front]
  simp
end Go.Wi
namespace Go.Proofs
open Go.RowKit Go.Wi Go.Extern.Stop Go.Stop Go.Extern
/-- 'append' of one byte to a row of one's own. -/
theorem Try.appB {ops : Array Oper} {rest : List Oper} {o : Oper} {a : Act} {Q : Exit → Act → World → Prop} (hgd : o.guard = none) (s y : Operand)
    (ho : o.op = .call { callee := .builtin .append, args := #[s, y], argTypes := #[22, 22] })
    {w : World} {B n : Nat} {V : Value} {l : List UInt8} (hrow : w.ownsRow B 5 1 V n (Lib.byteCells l)) (hB : B ≤ w.heap.size)
    (hs : a.eval s = V) (hy : a.eval y = .slice (some ⟨w.heap.size, 0, none⟩) 1 1) (c : UInt8) (z : Int) (hz : z = (c.toNat : Nat)) (hlen : l.length + 1 ≤ 140737488355328)
    (hK : ∀ ad cap w1, Bs w1 (.slice ad (l ++ [c]).length cap) (l ++ [c]) → Below B w w1 → wpList Try.prog ops Q rest (a.put o.dst (.slice ad (l ++ [c]).length cap)) w1) : wpList Try.prog ops Q (o :: rest) a (w.alloc (.cells #[.int .u8 z] 5)) := by
  subst hz
  obtain ⟨i0, hi0, hz0, hz1, hz2⟩ := info_parts Try.info_u8
  have hn : n = l.length := by have := hrow.1; rw [byteCells_len] at this; omega
  subst hn
  have hnb : (w.alloc (.cells #[.int .u8 (c.toNat : Nat)] 5)).heap[w.heap.size]? = some (.cells #[.int .u8 (c.toNat : Nat)] 5 (0, 0)) := heap_alloc_new w _
  have hb : Below w.heap.size w (w.alloc (.cells #[.int .u8 (c.toNat : Nat)] 5)) := (Below.refl w.heap.size w).alloc (Nat.le_refl _) _
  have hrow1 := Wi.row_heap hrow fun k e => hb.block k (hrow.lt k e).2
  refine wpList_append_lies _ hgd s y 22 ho B 5 i0 _ 1 1 Try.underlying22 hi0 hz0 hz1 hz2 rfl (by omega) V l.length (Lib.byteCells l) hs hrow1 ⟨w.heap.size, 0, none⟩ 1 1 [.int .u8 (c.toNat : Nat)] hy rfl (World.news_of_block hnb) (by simp [Value.oneCell']) (by omega) (by unfold maxLen; omega) (by omega) (Nat.le_trans hB hb.size) _ rfl ?_
  intro g cap w' hown hg hat hlt
  have e : Lib.byteCells l ++ [Value.int .u8 (c.toNat : Nat)] = Lib.byteCells (l ++ [c]) := by simp [Lib.byteCells]
  rw [e] at hown
  have hl : (l ++ [c]).length = l.length + 1 := by simp
  have := hK (some ⟨g, 0, none⟩) cap w' (by rw [hl]; exact Bs.ofRow hown) ((hb.mono hB).trans (Below.grown (Below.refl _ _) hg (Nat.le_trans hB hb.size) fun k e => (hrow.lt k e).1))
  rw [hl] at this
  exact this
theorem Try.isTypeOf (v : Value) (w : World) : (Extern.ReflectliteType.typeOf #[.iface 62 v]).run Try.prog w = .ok (.iface 105 (.agg #[.pointer (some ⟨0, 62, none⟩)])) w := by kernel_rfl
theorem Try.isComparable (w : World) : (Extern.ReflectliteType.method (fun t => do Go.Extern.Rtype.noPackHeld "Comparable" t; pure (.bool (← typeInfo t).comparable)) #[.agg #[.pointer (some ⟨0, 62, none⟩)]]).run Try.prog w = .ok (.bool true) w := by kernel_rfl
theorem Try.isMethodComparable (v : Value) (w : World) : (Go.method 245 105 v "Comparable").run Try.prog w = .ok (89, v) w := by kernel_rfl
theorem Try.methodUnwrap (v : Value) (w : World) : (Go.method 245 60 v "Unwrap").run Try.prog w = .ok (84, v) w := by kernel_rfl
theorem Try.noIsF (v : Value) (xT : TypeId) (w : World) : (Instr.typeAssert (.iface 60 v) xT 107 true).run Try.prog w = .ok (.tuple #[.nilIface, .bool false]) w := run_typeAssert_lacksB Try.underlying107 (by kernel_rfl) (by kernel_rfl) v xT w
theorem Try.hasUnwrapF (v : Value) (xT : TypeId) (w : World) : (Instr.typeAssert (.iface 60 v) xT 110 true).run Try.prog w = .ok (.tuple #[.iface 60 v, .bool true]) w := run_typeAssert_hasB Try.underlying110 (by kernel_rfl) v xT w
set_option maxHeartbeats 2000000 in
theorem Try.is_fault (z a : Nat) (w : World) (h : w.heap[z]? = some (.cells #[.int .i64 a, .int .i64 60] 64 (0, 0))) :
    Calls Try.prog 37 #[.iface 60 (.pointer (some ⟨z, 0, none⟩)), .iface 62 (.int .i64 60)] w fun e w' => e = .returned (.bool true) ∧ w' = w := by
  have c1 := cell_of_row w z 1 _ _ _ h
  have h57 := @run_callFunc_extern Try.prog 57 _ Extern.ReflectliteType.typeOf Try.func57 (by kernel_rfl) (by kernel_rfl) (by kernel_rfl) (by kernel_rfl)
  have h89 := @run_callFunc_extern Try.prog 89 _ (Extern.ReflectliteType.method fun t => do Go.Extern.Rtype.noPackHeld "Comparable" t; pure (.bool (← typeInfo t).comparable)) Try.func89 (by kernel_rfl) (by kernel_rfl) (by kernel_rfl) (by kernel_rfl)
  have tT := Try.isTypeOf
  have cT := fun W => h89 #[.agg #[.pointer (some ⟨0, 62, none⟩)]] W
  simp only [Try.isComparable] at cT
  clear h89
  have nF := Try.noIsF
  have uF := Try.hasUnwrapF
  have hei := Lib.run_eql_iface_int (P := Try.prog) w (t := 38) (tx := 62) (k := .i64) 60 60 Try.underlying38 (by kernel_rfl) Try.underlying62
  have hty := run_eql_iface_types (P := Try.prog) 60 62 (.pointer (some ⟨z, 0, none⟩)) (.int .i64 60) Try.underlying38 (by decide) w
  have mR := Try.isMethodComparable
  have mU := Try.methodUnwrap
  clear h
  go_enter Try.func37, Try.ntmps37
  go_wp2
  refine wp_loop_rounds 2 ?_
  rw [rounds_succ]
  go_wp2
  rw [rounds_succ]
  go_wp2
  go_ret
  exact ⟨rfl, rfl⟩
end Go.Proofs
