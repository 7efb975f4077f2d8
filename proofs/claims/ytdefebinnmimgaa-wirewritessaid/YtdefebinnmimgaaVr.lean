/-
  THE DOCUMENT'S WRITER; things written by both, block by block.
-/
import Derived.Test.YtdefebinnmimgaaVp
namespace Go.Proofs
open Go.RowKit Go.Wi
set_option maxHeartbeats 1000000 in
theorem Try.refNew_any (w : World) :
    Calls Try.prog 42 #[] w fun e w' => ∃ x, e = .returned (.pointer (some ⟨x, 0, none⟩)) ∧ Try.Wt 79 w' (fun k => w.heap.size ≤ k ∧ k < w'.heap.size) x [] ∧ Below w.heap.size w w' := by
  go_enter Try.func42, Try.ntmps42
  go_wp2
  go_ret
  refine ⟨w.heap.size, rfl, ⟨⟨_, heap_alloc_new w _, World.ownsRow_nil _ _ _ _, by simp [Value.ownBlock], fun k e => by cases e⟩, ⟨Nat.le_refl _, by simp⟩, fun k e => e.2⟩, (Below.refl _ w).alloc (Nat.le_refl _) _⟩
set_option maxHeartbeats 1000000 in
theorem Try.refCount_any {w : World} {own : Nat → Prop} {x : Nat} {l : List UInt8} (h : Try.Wt 79 w own x l) (n : Nat) (hn : n < 18446744073709551616) (hlen : l.length ≤ 140737488355300) :
    Calls Try.prog 66 #[.pointer (some ⟨x, 0, none⟩), .int .u64 n] w fun e w' => (∃ v, e = .returned v) ∧ Try.WChg 79 own w w' x (l ++ cnt n) := by
  go_enter Try.func66, Try.ntmps66
  go_wp2
  go_loopw [1] (fun i wr => ∃ (m : Nat) (l' : List UInt8), i = .int .u64 m ∧ m ≤ n ∧ l'.length + (cnt m).length ≤ l.length + 10 ∧ l' ++ cnt m = l ++ cnt n ∧ Try.WChg 79 own w wr x l') (fun i _ => (intOf i).toNat)
  case atStart => exact ⟨n, l, rfl, Nat.le_refl _, by have := cnt_len10 hn; omega, rfl, Try.WChg.refl h⟩
  case round =>
    obtain ⟨m, l', rfl, hm, hl', he, hC⟩ := hrel
    obtain ⟨own1, hW, ho⟩ := hC.ex
    obtain ⟨V, hx, hrow, hV, hVo⟩ := hW.ex
    have hc := cell_of_row wr x 0 _ _ _ hx
    have hf := frozen_of_row wr x 0 _ _ hx
    have hc1 := cnt_len10 (n := m) (by omega)
    have Hhx : Hid (wr.heap[x]? = some (.cells #[V] 79 (0, 0))) := hx
    have Hrow : Hid (wr.ownsRow 0 5 1 V l'.length (Lib.byteCells l')) := hrow
    have Hhe : Hid (l' ++ cnt m = l ++ cnt n) := he
    have Hlen : Hid (l'.length + 1 ≤ 140737488355328) := (by show l'.length + 1 ≤ _; omega)
    have hwq : IntKind.u64.wrap ((m : Int) / 128) = ((m / 128 : Nat) : Int) := by rw [IntKind.wrap_u64]; omega
    clear hx hrow he hn hlen
    by_cases hm1 : 128 ≤ m
    · have q0 : (128 : Int) ≤ (m : Int) := by omega
      have hcg := cnt_ge hm1
      have Hcg : Hid (cnt m = UInt8.ofNat (128 + m % 128) :: cnt (m / 128)) := hcg
      rw [hcg, List.length_cons] at hl'
      clear hcg hc1
      go_wp2_with (first | (at_builtin; refine Try.app1 rfl _ _ rfl hW Hhx.out Hrow.out hV hVo rfl rfl (UInt8.ofNat (128 + m % 128)) _ (by rw [UInt8.toNat_ofNat']; omega) Hlen.out ?_; intro g1 n1 cap1 w1 hc2 hf2 hC2) | fail)
      go_roundw
      case rel => 
        refine ⟨m / 128, l' ++ [UInt8.ofNat (128 + m % 128)], by first | rfl | rw [hwq] | simp [hwq], by omega, by simp; omega, ?_, Try.WChg.trans hC.wo ho hC2⟩
        rw [← Hhe.out, Hcg.out, List.append_assoc]; rfl
      case measure => simp [intOf]; omega
    · have q0 : ¬ (128 : Int) ≤ (m : Int) := by omega
      have hcl := cnt_lt (n := m) (by omega)
      have Hcl : Hid (cnt m = [UInt8.ofNat m]) := hcl
      have hmm : ((m : Int) % 256) = (((UInt8.ofNat m).toNat : Nat) : Int) := by rw [UInt8.toNat_ofNat']; omega
      rw [hcl] at hl'
      clear hcl hc1
      go_wp2_with (first | (at_builtin; refine Try.app1 rfl _ _ rfl hW Hhx.out Hrow.out hV hVo rfl rfl (UInt8.ofNat m) _ (by rw [UInt8.toNat_ofNat']; omega) Hlen.out ?_; intro g1 n1 cap1 w1 hc2 hf2 hC2) | fail)
      go_end0
      refine ⟨⟨_, rfl⟩, ?_⟩
      rw [← Hhe.out, Hcl.out]
      exact Try.WChg.trans hC.wo ho hC2
set_option maxHeartbeats 1000000 in
theorem Try.refFlag_any {w : World} {own : Nat → Prop} {x : Nat} {l : List UInt8} (h : Try.Wt 79 w own x l) (b : Bool) (hlen : l.length ≤ 140737488355300) :
    Calls Try.prog 64 #[.pointer (some ⟨x, 0, none⟩), .bool b] w fun e w' => (∃ v, e = .returned v) ∧ Try.WChg 79 own w w' x (l ++ [if b then 1 else 0]) := by
  obtain ⟨V, hx, hrow, hV, hVo⟩ := h.ex
  have hc := cell_of_row w x 0 _ _ _ hx
  have hf := frozen_of_row w x 0 _ _ hx
  have Hhx : Hid (w.heap[x]? = some (.cells #[V] 79 (0, 0))) := hx
  have Hrow : Hid (w.ownsRow 0 5 1 V l.length (Lib.byteCells l)) := hrow
  have Hlen : Hid (l.length + 1 ≤ 140737488355328) := (by show l.length + 1 ≤ _; omega)
  clear hx hrow hlen
  go_enter Try.func64, Try.ntmps64
  cases b
  · go_wp2_with (first | (at_builtin; refine Try.app1 rfl _ _ rfl h Hhx.out Hrow.out hV hVo rfl rfl 0 _ (by rfl) Hlen.out ?_; intro g1 n1 cap1 w1 hc2 hf2 hC2) | fail)
    go_end0
    exact ⟨⟨_, rfl⟩, hC2⟩
  · go_wp2_with (first | (at_builtin; refine Try.app1 rfl _ _ rfl h Hhx.out Hrow.out hV hVo rfl rfl 1 _ (by rfl) Hlen.out ?_; intro g1 n1 cap1 w1 hc2 hf2 hC2) | fail)
    go_end0
    exact ⟨⟨_, rfl⟩, hC2⟩
set_option maxHeartbeats 1000000 in
theorem Try.refText_any {w : World} {own : Nat → Prop} {x : Nat} {l : List UInt8} (h : Try.Wt 79 w own x l) (t : ByteArray) (hlen : l.length + t.size ≤ 140737488355290) :
    Calls Try.prog 65 #[.pointer (some ⟨x, 0, none⟩), .string t] w fun e w' => (∃ v, e = .returned v) ∧ Try.WChg 79 own w w' x (l ++ (cnt t.size ++ t.data.toList)) := by
  have h1 := Try.refCount_any h t.size (by omega) (by omega)
  have hcl := cnt_len10 (n := t.size) (by omega)
  have Hlen : Hid ((l ++ cnt t.size).length + t.size ≤ 140737488355328) := (by show (l ++ cnt t.size).length + t.size ≤ _; rw [List.length_append]; omega)
  have hts : IntKind.u64.wrap (t.size : Int) = t.size := by rw [IntKind.wrap_u64]; omega
  clear hcl hlen
  go_enter Try.func65, Try.ntmps65
  go_wp2_with (first
    | (go_at_call 66; refine h1.mono ?_; clear h1; rintro e w2 ⟨⟨v, rfl⟩, h2⟩; obtain ⟨own1, hW, ho⟩ := h2.ex; obtain ⟨V, hx, hrow, hV, hVo⟩ := hW.ex; have hc := cell_of_row w2 x 0 _ _ _ hx; have hf := frozen_of_row w2 x 0 _ _ hx; have Hhx : Hid (w2.heap[x]? = some (.cells #[V] 79 (0, 0))) := hx; have Hrow : Hid (w2.ownsRow 0 5 1 V (l ++ cnt t.size).length (Lib.byteCells (l ++ cnt t.size))) := hrow; clear hx hrow)
    | (at_builtin; refine Try.appS rfl _ _ rfl hW Hhx.out Hrow.out hV hVo rfl t rfl Hlen.out ?_; intro ad1 n1 cap1 w3 hc3 hf3 hC3)
    | fail)
  go_end0
  refine ⟨⟨_, rfl⟩, ?_⟩
  rw [← List.append_assoc]
  exact Try.WChg.trans h2.wo ho hC3
set_option maxHeartbeats 1000000 in
theorem Try.refInt_any {w : World} {own : Nat → Prop} {x : Nat} {l : List UInt8} (h : Try.Wt 79 w own x l) (n : Int) (hn1 : -9223372036854775808 ≤ n) (hn2 : n ≤ 9223372036854775807) (hlen : l.length ≤ 140737488355300) :
    Calls Try.prog 63 #[.pointer (some ⟨x, 0, none⟩), .int .i64 n] w fun e w' => (∃ v, e = .returned v) ∧ Try.WChg 79 own w w' x (l ++ cnt (zig n)) := by
  have h1 : ∀ z : Int, z = ((zig n : Nat) : Int) → Calls Try.prog 66 #[.pointer (some ⟨x, 0, none⟩), .int .u64 z] w fun e w' => (∃ v, e = .returned v) ∧ Try.WChg 79 own w w' x (l ++ cnt (zig n)) := fun z hz => by
    subst hz
    exact Try.refCount_any h (zig n) (zig_lt hn1 hn2) hlen
  have Hz : Hid (zig n = if 0 ≤ n then 2 * n.toNat else 2 * (-(n + 1)).toNat + 1) := rfl
  have Hn : Hid (-9223372036854775808 ≤ n ∧ n ≤ 9223372036854775807) := ⟨hn1, hn2⟩
  clear hlen hn1 hn2 h
  go_enter Try.func63, Try.ntmps63
  by_cases h0 : 0 ≤ n
  · go_wp2_with (first | (go_at_call 66; refine (h1 _ (by have hn := Hn.out; rw [Hz.out, if_pos h0]; simp only [IntKind.wrap_u64]; omega)).mono ?_; clear h1; rintro e w2 ⟨⟨v, rfl⟩, h2⟩) | fail)
    (try simp only [Exit.inBlock, Exit.then])
    refine bodyPost_ret (results_none rfl _ _ _) rfl ?_
    exact ⟨⟨_, rfl⟩, h2⟩
  · go_wp2_with (first | (go_at_call 66; refine (h1 _ (by have hn := Hn.out; rw [Hz.out, if_neg h0]; rw [Wi.w64 (n + 1) (by omega) (by omega), Wi.w64 (-(n + 1)) (by omega) (by omega)]; simp only [IntKind.wrap_u64]; omega)).mono ?_; clear h1; rintro e w2 ⟨⟨v, rfl⟩, h2⟩) | fail)
    go_end0
    exact ⟨⟨_, rfl⟩, h2⟩
theorem Try.WChg.call {T : TypeId} {own : Nat → Prop} {w0 w : World} {y : Nat} {l l' : List UInt8} {fn : FuncId} {args : Array Value} (h : Try.WChg T own w0 w y l) (hc : ∀ own1, Try.Wt T w own1 y l → Calls Try.prog fn args w fun e w' => (∃ v, e = .returned v) ∧ Try.WChg T own1 w w' y l') :
    Calls Try.prog fn args w fun e w' => (∃ v, e = .returned v) ∧ Try.WChg T own w0 w' y l' := by
  obtain ⟨own1, h1, h2⟩ := h.ex
  exact (hc own1 h1).mono fun _ _ ⟨e1, e2⟩ => ⟨e1, Try.WChg.trans h.wo h2 e2⟩
/-- Numbers that lie apart from a writer's blocks. -/
structure Wi.Ap (w : World) (own : Nat → Prop) (v : Value) (li : List Int) : Prop where
  is : Is w v li
  ap : li ≠ [] → ∀ k, v.ownBlock = some k → ¬ own k
theorem Wi.Ap.keep {w w' : World} {own : Nat → Prop} {v : Value} {li : List Int} (h : Wi.Ap w own v li) (g : Wo own w w') : Is w' v li := by
  obtain ⟨ad, cap, rfl, h1⟩ := h.is.ex
  refine ⟨⟨ad, cap, rfl, ?_⟩, h.is.ok⟩
  by_cases h0 : li = []
  · exact .inl h0
  · rcases h1 with h1 | ⟨gg, o, rfl, hg, h1⟩
    · exact .inl h1
    · exact .inr ⟨gg, o, rfl, Nat.lt_of_lt_of_le hg g.size, fun j hj => (World.cell?_of_block (w := w) (a := ⟨gg, o + j, none⟩) (g.block gg hg (h.ap h0 gg rfl))).trans (h1 j hj)⟩
set_option maxHeartbeats 1000000 in
theorem Try.wOneC {w0 w : World} {own : Nat → Prop} {y : Nat} {l : List UInt8} (h : Try.WChg 88 own w0 w y l) (n : Int) (hn : In64 n) (hlen : l.length ≤ 140737488355300) :
    Calls Try.prog 60 #[.pointer (some ⟨y, 0, none⟩), .int .i64 n] w fun e w' => (∃ v, e = .returned v) ∧ Try.WChg 88 own w0 w' y (l ++ cnt (zig n)) := by
  have h1 := h.call (fun own1 hW => Try.wInt_any hW n hn.1 hn.2 hlen)
  clear hlen hn
  go_enter Try.func60, Try.ntmps60
  go_wp2_with (first | (go_at_call 17; refine h1.mono ?_; clear h1; rintro e w2 ⟨⟨v, rfl⟩, h2⟩) | fail)
  go_end0
  exact ⟨⟨_, rfl⟩, h2⟩
set_option maxHeartbeats 2000000 in
theorem Try.writeListC {w : World} {own : Nat → Prop} {y : Nat} {l : List UInt8} {lv : Value} {li : List Int} (h : Try.Wt 88 w own y l) (hI : Wi.Ap w own lv li) (hlen : l.length + 10 * li.length ≤ 140737488355000) :
    Calls Try.prog 59 #[.pointer (some ⟨y, 0, none⟩), lv, .func (.func 60) #[] #[]] w fun e w' => (∃ v, e = .returned v) ∧ Try.WChg 88 own w w' y (l ++ (cnt li.length ++ zs li)) := by
  obtain ⟨ad, cap, rfl, -⟩ := hI.is.ex
  have HI : Hid (Wi.Ap w own (.slice ad li.length cap) li) := hI
  have h1 := Try.count_any h li.length (by omega) (by omega)
  have hw64 : IntKind.u64.wrap (li.length : Int) = li.length := by rw [IntKind.wrap_u64]; omega
  have hcl := cnt_len10 (n := li.length) (by omega)
  have Hcl : Hid (1 ≤ (cnt li.length).length ∧ (cnt li.length).length ≤ 10) := hcl
  have Hlen : Hid (l.length + 10 * li.length ≤ 140737488355000) := hlen
  have hl63 : li.length ≤ 9223372036854775807 := by omega
  have Hok : Hid (∀ n ∈ li, In64 n) := hI.is.ok
  have hfn := Try.funcNil 100 (.inl rfl) 60
  clear hlen hcl h hI
  go_enter Try.func59, Try.ntmps59
  go_wp2_with (first
    | (go_at_call 47; refine h1.mono ?_; clear h1; rintro e w2 ⟨⟨v2, rfl⟩, hW2⟩)
    | fail)
  have HW2 : Hid (Try.WChg 88 own w w2 y (l ++ cnt li.length)) := hW2
  clear hW2
  go_loopw [7, 17] (fun _ i wr => ∃ k : Nat, k ≤ li.length ∧ i = .int .i64 k ∧ Try.WChg 88 own w wr y ((l ++ cnt li.length) ++ zs (li.take k))) (fun _ i _ => li.length - (intOf i).toNat)
  case atStart => exact ⟨0, Nat.zero_le _, rfl, by simpa [zs] using HW2.out⟩
  case round =>
    obtain ⟨k, hk, rfl, hW⟩ := hrel
    by_cases hkm : k < li.length
    · have q0 : (k : Int) < (li.length : Int) := by omega
      have hc : ∃ sb so, ad = some ⟨sb, so, none⟩ ∧ wr.cell? ⟨sb, so + k, none⟩ = some (.int .i64 li[k]) := by
        obtain ⟨a1, c1, e1, hcs⟩ := (HI.out.keep hW.wo).ex
        cases e1
        rcases hcs with rfl | ⟨sb, so, e, hb, h2⟩
        · simp at hkm
        · exact ⟨sb, so, e, h2 k hkm⟩
      obtain ⟨sb, so, rfl, hc⟩ := hc
      have hzl := zs_len (li.take k) (fun n hn => Hok.out n (List.mem_of_mem_take hn))
      have Hzl : Hid (((l ++ cnt li.length) ++ zs (li.take k)).length ≤ 140737488355300) := (by
        have h2 := Hlen.out
        have h3 := Hcl.out
        rw [List.length_take] at hzl
        show ((l ++ cnt li.length) ++ zs (li.take k)).length ≤ _
        rw [List.length_append, List.length_append]; omega)
      have h3 := Try.wOneC hW li[k] (Hok.out _ (List.getElem_mem hkm)) Hzl.out
      have Hz : Hid (((l ++ cnt li.length) ++ zs (li.take k)) ++ cnt (zig li[k]) = (l ++ cnt li.length) ++ zs (li.take (k + 1))) := (by
        have e : zs (li.take (k + 1)) = zs (li.take k) ++ cnt (zig li[k]) := by
          rw [← List.take_append_getElem hkm, zs_app]; simp [zs]
        show _ = _
        rw [e, List.append_assoc (l ++ cnt li.length)])
      clear hzl
      go_wp2_with (first
        | (go_at_call 60; refine h3.mono ?_; clear h3; rintro e w4 ⟨⟨v4, rfl⟩, hW4⟩)
        | fail)
      go_roundw
      case rel => exact ⟨k + 1, by omega, by go_num, by rw [← Hz.out]; exact hW4⟩
      case measure => simp [intOf]; omega
    · have q0 : ¬ (k : Int) < (li.length : Int) := by omega
      have hkk : k = li.length := by omega
      subst hkk
      go_wp2
      go_end0
      refine ⟨⟨_, rfl⟩, ?_⟩
      rw [List.take_length, List.append_assoc] at hW
      exact hW
end Go.Proofs
