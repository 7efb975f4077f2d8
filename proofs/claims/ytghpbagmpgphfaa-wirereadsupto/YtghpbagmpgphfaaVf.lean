/-
  A WRITER: in memory; count, Int, Flag, Text, Bytes, NewWriter.
-/
import Derived.Test.YtghpbagmpgphfaaVd
import Derived.Test.YtghpbagmpgphfaaVe
namespace Go.Proofs
open Go.RowKit Go.Wi
theorem Try.info_u8 : (Try.prog.info? 5).map (fun i => (i.zero, i.size, i.bytes)) = some (some (.int .u8 0), 1, 1) := by kernel_rfl
theorem Wi.row_heap {w w' : World} {B : Nat} {e : TypeId} {size : Nat} {v : Value} {n : Nat} {xs : List Value} (h : w.ownsRow B e size v n xs) (hk : ∀ k, v.ownBlock = some k → w'.heap[k]? = w.heap[k]?) : w'.ownsRow B e size v n xs := by
  refine ⟨h.1, ?_⟩
  rcases h.2 with h0 | ⟨g, cap, cur, rfl, h1, h2, h3⟩
  · exact .inl h0
  · exact .inr ⟨g, cap, cur, rfl, h1, (hk g rfl).trans h2, h3⟩
/-- A writer that has written l, all of it in blocks of its own. -/
structure Try.Wt (T : TypeId) (w : World) (own : Nat → Prop) (x : Nat) (l : List UInt8) : Prop where
  ex : ∃ V, w.heap[x]? = some (.cells #[V] T (0, 0)) ∧ w.ownsRow 0 5 1 V l.length (Lib.byteCells l) ∧ V.ownBlock ≠ some x ∧ (∀ k, V.ownBlock = some k → own k)
  ox : own x
  lt : ∀ k, own k → k < w.heap.size
theorem Try.Wt.keep {T : TypeId} {w w' : World} {own : Nat → Prop} {x : Nat} {l : List UInt8} (h : Try.Wt T w own x l) (hk : ∀ k, own k → w'.heap[k]? = w.heap[k]?) (hs : w.heap.size ≤ w'.heap.size) : Try.Wt T w' own x l := by
  obtain ⟨V, h1, h2, h3, h4⟩ := h.ex
  exact ⟨⟨V, (hk x h.ox).trans h1, Wi.row_heap h2 fun k e => hk k (h4 k e), h3, h4⟩, h.ox, fun k e => Nat.lt_of_lt_of_le (h.lt k e) hs⟩
theorem Try.Wt.below {T : TypeId} {w w' : World} {own : Nat → Prop} {x : Nat} {l : List UInt8} (h : Try.Wt T w own x l) (g : Below w.heap.size w w') : Try.Wt T w' own x l :=
  h.keep (fun k e => g.block k (h.lt k e)) g.size
/-- What a call that writes leaves. -/
structure Try.WChg (T : TypeId) (own : Nat → Prop) (w w' : World) (x : Nat) (l : List UInt8) : Prop where
  ex : ∃ own', Try.Wt T w' own' x l ∧ ∀ k, own' k → own k ∨ w.heap.size ≤ k
  wo : Wo own w w'
theorem Try.WChg.refl {T : TypeId} {own : Nat → Prop} {w : World} {x : Nat} {l : List UInt8} (h : Try.Wt T w own x l) : Try.WChg T own w w x l := ⟨⟨own, h, fun _ e => .inl e⟩, Wo.refl _ _⟩
theorem Try.WChg.trans {T : TypeId} {own own1 : Nat → Prop} {w w1 w2 : World} {x : Nat} {l : List UInt8} (hw : Wo own w w1) (ho : ∀ k, own1 k → own k ∨ w.heap.size ≤ k) (g : Try.WChg T own1 w1 w2 x l) : Try.WChg T own w w2 x l := by
  obtain ⟨own2, h1, h2⟩ := g.ex
  have hs := hw.size
  refine ⟨⟨own2, h1, fun k e => ?_⟩, hw.step ho g.wo⟩
  rcases h2 k e with e1 | e1
  · exact ho k e1
  · exact .inr (by omega)
/-- Behind an append and the store. -/
theorem Try.Wt.appended {T : TypeId} {w w1 : World} {own : Nat → Prop} {x : Nat} {l : List UInt8} {V v' : Value} (h : Try.Wt T w own x l) (hx : w.heap[x]? = some (.cells #[V] T (0, 0))) (hV : V.ownBlock ≠ some x) (hVo : ∀ k, V.ownBlock = some k → own k)
    (l' : List UInt8) (hr : w1.ownsRow 0 5 1 v' l'.length (Lib.byteCells l')) (hg : Wo (fun k => V.ownBlock = some k) w w1) (hl : ∀ k, v'.ownBlock = some k → V.ownBlock = some k ∨ w.heap.size ≤ k) :
    w1.cell? ⟨x, 0, none⟩ = some V ∧ w1.frozen? ⟨x, 0, none⟩ = false ∧ Try.WChg T own w (w1.setCell ⟨x, 0, none⟩ v') x l' := by
  have hxl := h.lt x h.ox
  have hx1 : w1.heap[x]? = some (.cells #[V] T (0, 0)) := (hg.block x hxl hV).trans hx
  have hx2 := heap_setCell_same w1 x 0 #[V] T v' hx1
  have hnx : v'.ownBlock ≠ some x := fun e => by
    rcases hl x e with e1 | e1
    · exact hV e1
    · omega
  have hs : (w1.setCell ⟨x, 0, none⟩ v').heap.size = w1.heap.size := by simp
  refine ⟨cell_of_row _ _ _ _ _ _ hx1, frozen_of_row _ _ _ _ _ hx1, ⟨⟨fun k => own k ∨ (w.heap.size ≤ k ∧ k < w1.heap.size), ⟨⟨v', hx2, ownsRow_setCell_other hr hnx v', hnx, fun k e => ?_⟩, .inl h.ox, ?_⟩, fun k e => e.imp id (·.1)⟩, (hg.mono hVo).setCell x 0 v' (.inl h.ox)⟩⟩
  · rcases hl k e with e1 | e1
    · exact .inl (hVo k e1)
    · exact .inr ⟨e1, (hr.lt k e).2⟩
  · rw [hs]
    rintro k (e | e)
    · exact Nat.lt_of_lt_of_le (h.lt k e) hg.size
    · exact e.2
/-- 'append' of one byte. -/
theorem Try.app1 {ops : Array Oper} {rest : List Oper} {o : Oper} {a : Act} {Q : Exit → Act → World → Prop} (hgd : o.guard = none) (s y : Operand)
    (ho : o.op = .call { callee := .builtin .append, args := #[s, y], argTypes := #[22, 22] })
    {T : TypeId} {w : World} {own : Nat → Prop} {x : Nat} {l : List UInt8} {V : Value} (h : Try.Wt T w own x l) (hx : w.heap[x]? = some (.cells #[V] T (0, 0))) (hrow : w.ownsRow 0 5 1 V l.length (Lib.byteCells l)) (hV : V.ownBlock ≠ some x) (hVo : ∀ k, V.ownBlock = some k → own k)
    (hs : a.eval s = V) (hy : a.eval y = .slice (some ⟨w.heap.size, 0, none⟩) 1 1) (c : UInt8) (z : Int) (hz : z = (c.toNat : Nat)) (hlen : l.length + 1 ≤ 140737488355328)
    (hK : ∀ g n cap w1, w1.cell? ⟨x, 0, none⟩ = some V → w1.frozen? ⟨x, 0, none⟩ = false → Try.WChg T own w (w1.setCell ⟨x, 0, none⟩ (.slice (some ⟨g, 0, none⟩) n cap)) x (l ++ [c]) → wpList Try.prog ops Q rest (a.put o.dst (.slice (some ⟨g, 0, none⟩) n cap)) w1) : wpList Try.prog ops Q (o :: rest) a (w.alloc (.cells #[.int .u8 z] 5)) := by
  subst hz
  obtain ⟨i0, hi0, hz0, hz1, hz2⟩ := info_parts Try.info_u8
  have hn : (w.alloc (.cells #[.int .u8 (c.toNat : Nat)] 5)).heap[w.heap.size]? = some (.cells #[.int .u8 (c.toNat : Nat)] 5 (0, 0)) := heap_alloc_new w _
  have hb : Below w.heap.size w (w.alloc (.cells #[.int .u8 (c.toNat : Nat)] 5)) := (Below.refl w.heap.size w).alloc (Nat.le_refl _) _
  have hrow1 := Wi.row_heap hrow fun k e => hb.block k (h.lt k (hVo k e))
  refine wpList_append_lies _ hgd s y 22 ho 0 5 i0 _ 1 1 Try.underlying22 hi0 hz0 hz1 hz2 rfl (by omega) V l.length (Lib.byteCells l) hs hrow1 ⟨w.heap.size, 0, none⟩ 1 1 [.int .u8 (c.toNat : Nat)] hy rfl (World.news_of_block hn) (by simp [Value.oneCell']) (by omega) (by unfold maxLen; omega) (by omega) (by omega) _ rfl ?_
  intro g cap w' hown hg hat hlt
  have hsz : (w.alloc (.cells #[.int .u8 (c.toNat : Nat)] 5)).heap.size = w.heap.size + 1 := by simp
  have hw : Wo (fun k => V.ownBlock = some k) w w' := (Wo.ofBelow hb).grown hg fun k e => .inl e
  have e : Lib.byteCells l ++ [Value.int .u8 (c.toNat : Nat)] = Lib.byteCells (l ++ [c]) := by simp [Lib.byteCells]
  rw [e] at hown
  obtain ⟨h1, h2, h3⟩ := h.appended hx hV hVo (l ++ [c]) (v' := .slice (some ⟨g, 0, none⟩) (l.length + 1) cap) (by rw [List.length_append]; exact hown) hw fun k e => by
    cases e
    rcases hat with e1 | e1
    · exact .inl e1
    · exact .inr (by show w.heap.size ≤ g; rw [e1, hsz]; omega)
  exact hK _ _ _ w' h1 h2 h3
set_option maxRecDepth 10000 in
theorem Wi.or128 (n : Nat) : bits .or .u8 ((n : Int) % 256) 128 = (((UInt8.ofNat (128 + n % 128)).toNat : Nat) : Int) := by
  have h := u8_or_nat (n % 256) 128 (by omega) (by decide)
  have e : ∀ x, x < 256 → x ||| 128 = 128 + x % 128 := by decide
  rw [e (n % 256) (by omega), show n % 256 % 128 = n % 128 by omega] at h
  rw [UInt8.toNat_ofNat', show (128 + n % 128) % 2 ^ 8 = 128 + n % 128 by omega]
  exact h
set_option maxHeartbeats 1000000 in
theorem Try.count_any {w : World} {own : Nat → Prop} {x : Nat} {l : List UInt8} (h : Try.Wt 69 w own x l) (n : Nat) (hn : n < 18446744073709551616) (hlen : l.length ≤ 140737488355300) :
    Calls Try.prog 30 #[.pointer (some ⟨x, 0, none⟩), .int .u64 n] w fun e w' => (∃ v, e = .returned v) ∧ Try.WChg 69 own w w' x (l ++ cnt n) := by
  go_enter Try.func30, Try.ntmps30
  go_wp2
  go_loopw [1] (fun i wr => ∃ (m : Nat) (l' : List UInt8), i = .int .u64 m ∧ m ≤ n ∧ l'.length + (cnt m).length ≤ l.length + 10 ∧ l' ++ cnt m = l ++ cnt n ∧ Try.WChg 69 own w wr x l') (fun i _ => (intOf i).toNat)
  case atStart => exact ⟨n, l, rfl, Nat.le_refl _, by have := cnt_len10 hn; omega, rfl, Try.WChg.refl h⟩
  case round =>
    obtain ⟨m, l', rfl, hm, hl', he, hC⟩ := hrel
    obtain ⟨own1, hW, ho⟩ := hC.ex
    obtain ⟨V, hx, hrow, hV, hVo⟩ := hW.ex
    have hc := cell_of_row wr x 0 _ _ _ hx
    have hf := frozen_of_row wr x 0 _ _ hx
    have hc1 := cnt_len10 (n := m) (by omega)
    have Hhx : Hid (wr.heap[x]? = some (.cells #[V] 69 (0, 0))) := hx
    have Hrow : Hid (wr.ownsRow 0 5 1 V l'.length (Lib.byteCells l')) := hrow
    have Hhe : Hid (l' ++ cnt m = l ++ cnt n) := he
    have Hlen : Hid (l'.length + 1 ≤ 140737488355328) := (by show l'.length + 1 ≤ _; omega)
    clear hx hrow he hn hlen
    by_cases hm1 : 128 ≤ m
    · have q0 : (128 : Int) ≤ (m : Int) := by omega
      have hor := Wi.or128 m
      have hcg := cnt_ge hm1
      have Hcg : Hid (cnt m = UInt8.ofNat (128 + m % 128) :: cnt (m / 128)) := hcg
      rw [hcg, List.length_cons] at hl'
      clear hcg hc1
      go_wp2_with (first | (at_builtin; refine Try.app1 rfl _ _ rfl hW Hhx.out Hrow.out hV hVo rfl rfl (UInt8.ofNat (128 + m % 128)) _ (by rw [UInt8.toNat_ofNat']; omega) Hlen.out ?_; intro g1 n1 cap1 w1 hc2 hf2 hC2) | fail)
      go_roundw
      case rel => 
        refine ⟨m / 128, l' ++ [UInt8.ofNat (128 + m % 128)], by simp, by omega, by simp; omega, ?_, Try.WChg.trans hC.wo ho hC2⟩
        rw [← Hhe.out, Hcg.out, List.append_assoc]; rfl
      case measure => simp [intOf]; omega
    · have q0 : ¬ (128 : Int) ≤ (m : Int) := by omega
      have hcl := cnt_lt (n := m) (by omega)
      have Hcl : Hid (cnt m = [UInt8.ofNat m]) := hcl
      have hmm : ((m : Int) % 256) = (((UInt8.ofNat m).toNat : Nat) : Int) := by rw [UInt8.toNat_ofNat']; omega
      rw [hcl] at hl'
      clear hcl hc1
      go_wp2_with (first | (at_builtin; refine Try.app1 rfl _ _ rfl hW Hhx.out Hrow.out hV hVo rfl rfl (UInt8.ofNat m) _ (by rw [UInt8.toNat_ofNat']; omega) Hlen.out ?_; intro g1 n1 cap1 w1 hc2 hf2 hC2) | fail)
      go_end0
      refine ⟨⟨_, rfl⟩, ?_⟩
      rw [← Hhe.out, Hcl.out]
      exact Try.WChg.trans hC.wo ho hC2
theorem Wi.xor0 (a : Int) (h1 : -9223372036854775808 ≤ a) (h2 : a ≤ 9223372036854775807) : bits .xor .i64 a 0 = a := by
  show IntKind.i64.wrap ((BitVec.ofInt 64 a ^^^ BitVec.ofInt 64 0).toNat : Int) = _
  have e : BitVec.ofInt 64 0 = 0#64 := by decide
  rw [e, BitVec.xor_zero, BitVec.toNat_ofInt]
  simp [IntKind.wrap, IntKind.bits, IntKind.signed]
  omega
theorem Wi.xorm (a : Int) (h1 : -9223372036854775808 ≤ a) (h2 : a ≤ 9223372036854775807) : bits .xor .i64 a (-1) = -a - 1 := by
  show IntKind.i64.wrap ((BitVec.ofInt 64 a ^^^ BitVec.ofInt 64 (-1)).toNat : Int) = _
  have e : BitVec.ofInt 64 (-1) = BitVec.allOnes 64 := by decide
  rw [e, BitVec.xor_allOnes, BitVec.toNat_not, BitVec.toNat_ofInt]
  simp [IntKind.wrap, IntKind.bits, IntKind.signed]
  omega
theorem Wi.zig_bits (n : Int) (h1 : -9223372036854775808 ≤ n) (h2 : n ≤ 9223372036854775807) : IntKind.u64.wrap (bits .xor .i64 (wrap64 (n * 2)) (n / 9223372036854775808)) = ((zig n : Nat) : Int) := by
  have hw : -9223372036854775808 ≤ wrap64 (n * 2) ∧ wrap64 (n * 2) ≤ 9223372036854775807 := by unfold wrap64; omega
  by_cases hn : 0 ≤ n
  · rw [show n / 9223372036854775808 = 0 by omega, Wi.xor0 _ hw.1 hw.2]
    unfold zig wrap64
    rw [if_pos hn]
    simp [IntKind.wrap, IntKind.bits, IntKind.signed]
    omega
  · rw [show n / 9223372036854775808 = -1 by omega, Wi.xorm _ hw.1 hw.2]
    unfold zig wrap64
    rw [if_neg hn]
    simp [IntKind.wrap, IntKind.bits, IntKind.signed]
    omega
set_option maxHeartbeats 1000000 in
theorem Try.wInt_any {w : World} {own : Nat → Prop} {x : Nat} {l : List UInt8} (h : Try.Wt 69 w own x l) (n : Int) (hn1 : -9223372036854775808 ≤ n) (hn2 : n ≤ 9223372036854775807) (hlen : l.length ≤ 140737488355300) :
    Calls Try.prog 11 #[.pointer (some ⟨x, 0, none⟩), .int .i64 n] w fun e w' => (∃ v, e = .returned v) ∧ Try.WChg 69 own w w' x (l ++ cnt (zig n)) := by
  have h1 := Try.count_any h (zig n) (zig_lt hn1 hn2) hlen
  rw [← Wi.zig_bits n hn1 hn2] at h1
  clear hn1 hn2 hlen
  go_enter Try.func11, Try.ntmps11
  go_wp2_with (first | (go_at_call 30; refine h1.mono ?_; clear h1; rintro e w2 ⟨⟨v, rfl⟩, h2⟩) | fail)
  go_end0
  exact ⟨⟨_, rfl⟩, h2⟩
set_option maxHeartbeats 1000000 in
theorem Try.wFlag_any {w : World} {own : Nat → Prop} {x : Nat} {l : List UInt8} (h : Try.Wt 69 w own x l) (b : Bool) (hlen : l.length ≤ 140737488355300) :
    Calls Try.prog 13 #[.pointer (some ⟨x, 0, none⟩), .bool b] w fun e w' => (∃ v, e = .returned v) ∧ Try.WChg 69 own w w' x (l ++ [if b then 1 else 0]) := by
  obtain ⟨V, hx, hrow, hV, hVo⟩ := h.ex
  have hc := cell_of_row w x 0 _ _ _ hx
  have hf := frozen_of_row w x 0 _ _ hx
  have Hhx : Hid (w.heap[x]? = some (.cells #[V] 69 (0, 0))) := hx
  have Hrow : Hid (w.ownsRow 0 5 1 V l.length (Lib.byteCells l)) := hrow
  have Hlen : Hid (l.length + 1 ≤ 140737488355328) := (by show l.length + 1 ≤ _; omega)
  clear hx hrow hlen
  go_enter Try.func13, Try.ntmps13
  cases b
  · go_wp2_with (first | (at_builtin; refine Try.app1 rfl _ _ rfl h Hhx.out Hrow.out hV hVo rfl rfl 0 _ (by rfl) Hlen.out ?_; intro g1 n1 cap1 w1 hc2 hf2 hC2) | fail)
    go_end0
    exact ⟨⟨_, rfl⟩, hC2⟩
  · go_wp2_with (first | (at_builtin; refine Try.app1 rfl _ _ rfl h Hhx.out Hrow.out hV hVo rfl rfl 1 _ (by rfl) Hlen.out ?_; intro g1 n1 cap1 w1 hc2 hf2 hC2) | fail)
    go_end0
    exact ⟨⟨_, rfl⟩, hC2⟩
theorem Wi.strCells_eq (s : ByteArray) : Lib.strCells s = Lib.byteCells s.data.toList := rfl
/-- 'append' of a text. -/
theorem Try.appS {ops : Array Oper} {rest : List Oper} {o : Oper} {a : Act} {Q : Exit → Act → World → Prop} (hgd : o.guard = none) (s y : Operand)
    (ho : o.op = .call { callee := .builtin .append, args := #[s, y], argTypes := #[22, 9] })
    {T : TypeId} {w : World} {own : Nat → Prop} {x : Nat} {l : List UInt8} {V : Value} (h : Try.Wt T w own x l) (hx : w.heap[x]? = some (.cells #[V] T (0, 0))) (hrow : w.ownsRow 0 5 1 V l.length (Lib.byteCells l)) (hV : V.ownBlock ≠ some x) (hVo : ∀ k, V.ownBlock = some k → own k)
    (hs : a.eval s = V) (t : ByteArray) (hy : a.eval y = .string t) (hlen : l.length + t.size ≤ 140737488355328)
    (hK : ∀ ad n cap w1, w1.cell? ⟨x, 0, none⟩ = some V → w1.frozen? ⟨x, 0, none⟩ = false → Try.WChg T own w (w1.setCell ⟨x, 0, none⟩ (.slice ad n cap)) x (l ++ t.data.toList) → wpList Try.prog ops Q rest (a.put o.dst (.slice ad n cap)) w1) : wpList Try.prog ops Q (o :: rest) a w := by
  obtain ⟨i0, hi0, hz0, hz1, hz2⟩ := info_parts Try.info_u8
  refine wpList_plain hgd fun K hK' => ?_
  obtain ⟨v', w', hr, h2, h3, h4⟩ := Lib.run_append_own_string (P := Try.prog) w 0 22 9 o.type 5 i0 Try.underlying22 Try.underlying9 hi0 hz0 hz1 hz2 V l.length (Lib.byteCells l) hrow t (by unfold maxLen; omega) hlen (by omega)
  have hloc : ∀ k, v'.ownBlock = some k → V.ownBlock = some k ∨ w.heap.size ≤ k := by
    rcases hrow.2 with ⟨e, h0⟩ | ⟨g, cap, cur, e, hB, hg, q1, q2, q3, q4⟩
    · obtain ⟨v'', w'', hr', h2', -, -⟩ := Lib.run_append_own_string (P := Try.prog) w w.heap.size 22 9 o.type 5 i0 Try.underlying22 Try.underlying9 hi0 hz0 hz1 hz2 V l.length (Lib.byteCells l) ⟨hrow.1, .inl ⟨e, h0⟩⟩ t (by unfold maxLen; omega) hlen (by omega)
      rw [hr] at hr'
      injection hr' with e1 e2
      subst e1 e2
      exact fun k e => .inr (h2'.lt k e).1
    · subst e
      by_cases hroom : l.length + t.size ≤ cap
      · have hr' := Lib.run_append_room_string (P := Try.prog) w 22 9 o.type 5 i0 Try.underlying22 Try.underlying9 hi0 hz1 g l.length cap cur hg t hroom (by omega)
        rw [hr] at hr'
        injection hr' with e1 e2
        subst e1
        exact fun k e => .inl e
      · have holds : ∀ j u, (Lib.byteCells l)[j]? = some u → w.cell? ((⟨g, 0, none⟩ : Addr).add j) = some u := hrow.cells (g := g) rfl
        have hr' := Lib.run_append_grow_string (P := Try.prog) w 22 9 o.type 5 i0 (.int .u8 0) Try.underlying22 Try.underlying9 hi0 hz0 ⟨g, 0, none⟩ l.length cap (Lib.byteCells l) (by rw [hz1, byteCells_len]; omega) holds t (by omega) (by omega) (by rw [hz2]; exact growslice_fits (by omega) (by omega))
        rw [hr] at hr'
        injection hr' with e1 e2
        subst e1
        exact fun k e => .inr (by cases e; exact Nat.le_refl _)
  have hw : Wo (fun k => V.ownBlock = some k) w w' := (Wo.refl _ w).grown h3 fun k e => .inl e
  rw [Wi.strCells_eq, ← byteCells_app] at h2
  have hll : (l ++ t.data.toList).length = l.length + t.size := by rw [List.length_append]; rfl
  have hv' : ∃ ad n cap, v' = .slice ad n cap := by
    rcases h2.2 with ⟨e, _⟩ | ⟨g, cap, cur, e, _⟩
    · exact ⟨_, _, _, e⟩
    · exact ⟨_, _, _, e⟩
  obtain ⟨c1, c2, c3⟩ := h.appended hx hV hVo (l ++ t.data.toList) (v' := v') (by rw [hll]; exact h2) hw hloc
  obtain ⟨ad, n, cap, rfl⟩ := hv'
  unfold Oper.wp execOp
  simp only [ho, resolve, invoke, builtin, Sem.run_bind, Sem.run_pure, Result.andThen_ok, List.map_toArray, List.map_cons, List.map_nil, hs, hy, hr]
  exact hK' _ _ (hK _ _ _ w' c1 c2 c3)
set_option maxHeartbeats 1000000 in
theorem Try.wText_any {w : World} {own : Nat → Prop} {x : Nat} {l : List UInt8} (h : Try.Wt 69 w own x l) (t : ByteArray) (hlen : l.length + t.size ≤ 140737488355290) :
    Calls Try.prog 12 #[.pointer (some ⟨x, 0, none⟩), .string t] w fun e w' => (∃ v, e = .returned v) ∧ Try.WChg 69 own w w' x (l ++ (cnt t.size ++ t.data.toList)) := by
  have h1 := Try.count_any h t.size (by omega) (by omega)
  have hcl := cnt_len10 (n := t.size) (by omega)
  have Hlen : Hid ((l ++ cnt t.size).length + t.size ≤ 140737488355328) := (by show (l ++ cnt t.size).length + t.size ≤ _; rw [List.length_append]; omega)
  have hts : IntKind.u64.wrap (t.size : Int) = t.size := by rw [IntKind.wrap_u64]; omega
  clear hcl hlen
  go_enter Try.func12, Try.ntmps12
  go_wp2_with (first
    | (go_at_call 30; refine h1.mono ?_; clear h1; rintro e w2 ⟨⟨v, rfl⟩, h2⟩; obtain ⟨own1, hW, ho⟩ := h2.ex; obtain ⟨V, hx, hrow, hV, hVo⟩ := hW.ex; have hc := cell_of_row w2 x 0 _ _ _ hx; have hf := frozen_of_row w2 x 0 _ _ hx; have Hhx : Hid (w2.heap[x]? = some (.cells #[V] 69 (0, 0))) := hx; have Hrow : Hid (w2.ownsRow 0 5 1 V (l ++ cnt t.size).length (Lib.byteCells (l ++ cnt t.size))) := hrow; clear hx hrow)
    | (at_builtin; refine Try.appS rfl _ _ rfl hW Hhx.out Hrow.out hV hVo rfl t rfl Hlen.out ?_; intro ad1 n1 cap1 w3 hc3 hf3 hC3)
    | fail)
  go_end0
  refine ⟨⟨_, rfl⟩, ?_⟩
  rw [← List.append_assoc]
  exact Try.WChg.trans h2.wo ho hC3
end Go.Proofs
