/-
  THINGS WRITTEN by the program's writer and by the document's, each in its own blocks.
-/
import Derived.Test.YtdefebinnmimgaaVr
namespace Go.Proofs
open Go.RowKit Go.Wi
theorem Wi.Ap.below {w w' : World} {own : Nat → Prop} {v : Value} {li : List Int} (h : Wi.Ap w own v li) (_hlt : ∀ k, own k → k < w.heap.size) (g : Below w.heap.size w w') : Wi.Ap w' own v li :=
  ⟨h.is.up g, h.ap⟩
/-- What both begin with. -/
theorem Wi.boxed {w : World} (p : Wi.Th) (ad : Option Addr) (n cap : Nat) : Below w.heap.size w (w.alloc (.cells #[.int .i64 p.k, .int .i64 p.n, .bool p.y, .string p.s, .slice ad n cap] 34)) ∧ (w.alloc (.cells #[.int .i64 p.k, .int .i64 p.n, .bool p.y, .string p.s, .slice ad n cap] 34)).heap[w.heap.size]? = some (.cells #[.int .i64 p.k, .int .i64 p.n, .bool p.y, .string p.s, .slice ad n cap] 34 (0, 0)) :=
  ⟨(Below.refl _ w).alloc (Nat.le_refl _) _, heap_alloc_new w _⟩
set_option maxHeartbeats 4000000 in
theorem Try.writesC {w : World} {own : Nat → Prop} {y : Nat} {l : List UInt8} (h : Try.Wt 88 w own y l) (p : Wi.Th) (li : List Int) (hI : Wi.Ap w own p.lv li) (hk : In64 p.k) (hn : In64 p.n) (hlen : l.length + wt p li ≤ 140737488355000) :
    Calls Try.prog 39 #[.pointer (some ⟨y, 0, none⟩), Wi.thV p] w fun e w' => (∃ v, e = .returned v) ∧ Try.WChg 88 own w w' y (l ++ tb p li) := by
  obtain ⟨ad, cap, e, -⟩ := hI.is.ex
  unfold Wi.thV
  rw [e]
  rw [e] at hI
  have Hn : Hid (In64 p.n) := hn
  have HI : Hid (Wi.Ap w own (.slice ad li.length cap) li) := hI
  have Hlen : Hid (l.length + (10 + p.s.size + 10 * li.length) ≤ 140737488355000) := hlen
  obtain ⟨hb0, hc0⟩ := Wi.boxed (w := w) p ad li.length cap
  have hkd := Try.kind_any p.k p.n p.y p.s ad li.length cap (w.alloc (.cells #[.int .i64 p.k, .int .i64 p.n, .bool p.y, .string p.s, .slice ad li.length cap] 34)) hk
  have hW4 : ∀ W, Below (w.alloc (.cells #[.int .i64 p.k, .int .i64 p.n, .bool p.y, .string p.s, .slice ad li.length cap] 34)).heap.size (w.alloc (.cells #[.int .i64 p.k, .int .i64 p.n, .bool p.y, .string p.s, .slice ad li.length cap] 34)) W → Below w.heap.size w W ∧ W.heap[w.heap.size]? = some (.cells #[.int .i64 p.k, .int .i64 p.n, .bool p.y, .string p.s, .slice ad li.length cap] 34 (0, 0)) := fun W hW =>
    ⟨hb0.trans (hW.mono hb0.size), (hW.block _ (block_lt hc0)).trans hc0⟩
  have HW : Hid (Try.Wt 88 w own y l) := h
  have hfin : ∀ W W' l', Below w.heap.size w W → Try.WChg 88 own W W' y l' → Try.WChg 88 own w W' y l' := fun W W' l' hb hc => Try.WChg.trans (Wo.ofBelow hb) (fun k e => .inl e) hc
  clear hb0 hc0 hk hn hI hlen h e
  have hkl := Wi.kd_lt p.k
  have hk4 : Wi.kd p.k = 0 ∨ Wi.kd p.k = 1 ∨ Wi.kd p.k = 2 ∨ Wi.kd p.k = 3 := by omega
  clear hkl
  go_enter Try.func39, Try.ntmps39
  rcases hk4 with e | e | e | e
  · rw [e] at hkd
    have Ht : Hid (tb p li = cnt (zig p.n)) := (by show _ = _; unfold tb; rw [if_pos e])
    clear e
    go_wp2_with (first
      | (go_at_call 14; refine hkd.mono ?_; clear hkd; rintro e w4 ⟨rfl, hb4⟩; obtain ⟨hbb4, hx4⟩ := hW4 w4 hb4; have c1 := cell_of_row w4 _ 1 _ _ _ hx4; have h4 := Try.wInt_any (HW.out.below hbb4) p.n Hn.out.1 Hn.out.2 (Nat.le_trans (Nat.le_of_add_right_le Hlen.out) (by decide)); clear hx4)
      | (go_at_call 17; refine h4.mono ?_; clear h4; rintro e w5 ⟨⟨v5, rfl⟩, hW5⟩)
      | fail)
    go_end0
    exact ⟨⟨_, rfl⟩, by rw [Ht.out]; exact hfin _ _ _ hbb4 hW5⟩
  · rw [e] at hkd
    have Ht : Hid (tb p li = [if p.y then 1 else 0]) := (by show _ = _; unfold tb; rw [if_neg (by omega), if_pos e])
    clear e
    go_wp2_with (first
      | (go_at_call 14; refine hkd.mono ?_; clear hkd; rintro e w4 ⟨rfl, hb4⟩; obtain ⟨hbb4, hx4⟩ := hW4 w4 hb4; have c1 := cell_of_row w4 _ 2 _ _ _ hx4; have h4 := Try.wFlag_any (HW.out.below hbb4) p.y (Nat.le_trans (Nat.le_of_add_right_le Hlen.out) (by decide)); clear hx4)
      | (go_at_call 19; refine h4.mono ?_; clear h4; rintro e w5 ⟨⟨v5, rfl⟩, hW5⟩)
      | fail)
    go_end0
    exact ⟨⟨_, rfl⟩, by rw [Ht.out]; exact hfin _ _ _ hbb4 hW5⟩
  · rw [e] at hkd
    have Ht : Hid (tb p li = cnt p.s.size ++ p.s.data.toList) := (by show _ = _; unfold tb; rw [if_neg (by omega), if_neg (by omega), if_pos e])
    clear e
    go_wp2_with (first
      | (go_at_call 14; refine hkd.mono ?_; clear hkd; rintro e w4 ⟨rfl, hb4⟩; obtain ⟨hbb4, hx4⟩ := hW4 w4 hb4; have c1 := cell_of_row w4 _ 3 _ _ _ hx4; have h4 := Try.wText_any (HW.out.below hbb4) p.s (by have := Hlen.out; omega); clear hx4)
      | (go_at_call 21; refine h4.mono ?_; clear h4; rintro e w5 ⟨⟨v5, rfl⟩, hW5⟩)
      | fail)
    go_end0
    exact ⟨⟨_, rfl⟩, by rw [Ht.out]; exact hfin _ _ _ hbb4 hW5⟩
  · rw [e] at hkd
    have Ht : Hid (tb p li = cnt li.length ++ zs li) := (by show _ = _; unfold tb; rw [if_neg (by omega), if_neg (by omega), if_neg (by omega)])
    clear e
    go_wp2_with (first
      | (go_at_call 14; refine hkd.mono ?_; clear hkd; rintro e w4 ⟨rfl, hb4⟩; obtain ⟨hbb4, hx4⟩ := hW4 w4 hb4; have c1 := cell_of_row w4 _ 4 _ _ _ hx4; have h4 := Try.writeListC (HW.out.below hbb4) (HI.out.below HW.out.lt hbb4) (by have := Hlen.out; omega); clear hx4)
      | (go_at_call 59; refine h4.mono ?_; clear h4; rintro e w5 ⟨⟨v5, rfl⟩, hW5⟩)
      | fail)
    go_end0
    exact ⟨⟨_, rfl⟩, by rw [Ht.out]; exact hfin _ _ _ hbb4 hW5⟩
set_option maxHeartbeats 4000000 in
theorem Try.wroteC {w : World} {own : Nat → Prop} {y : Nat} {l : List UInt8} (h : Try.Wt 79 w own y l) (p : Wi.Th) (li : List Int) (hI : Wi.Ap w own p.lv li) (hk : In64 p.k) (hn : In64 p.n) (hlen : l.length + wt p li ≤ 140737488355000) :
    Calls Try.prog 43 #[.pointer (some ⟨y, 0, none⟩), Wi.thV p] w fun e w' => (∃ v, e = .returned v) ∧ Try.WChg 79 own w w' y (l ++ tb p li) := by
  obtain ⟨ad, cap, e, -⟩ := hI.is.ex
  unfold Wi.thV
  rw [e]
  rw [e] at hI
  have Hn : Hid (In64 p.n) := hn
  have HI : Hid (Wi.Ap w own (.slice ad li.length cap) li) := hI
  have Hlen : Hid (l.length + (10 + p.s.size + 10 * li.length) ≤ 140737488355000) := hlen
  obtain ⟨hb0, hc0⟩ := Wi.boxed (w := w) p ad li.length cap
  have hkd := Try.kind_any p.k p.n p.y p.s ad li.length cap (w.alloc (.cells #[.int .i64 p.k, .int .i64 p.n, .bool p.y, .string p.s, .slice ad li.length cap] 34)) hk
  have hW4 : ∀ W, Below (w.alloc (.cells #[.int .i64 p.k, .int .i64 p.n, .bool p.y, .string p.s, .slice ad li.length cap] 34)).heap.size (w.alloc (.cells #[.int .i64 p.k, .int .i64 p.n, .bool p.y, .string p.s, .slice ad li.length cap] 34)) W → Below w.heap.size w W ∧ W.heap[w.heap.size]? = some (.cells #[.int .i64 p.k, .int .i64 p.n, .bool p.y, .string p.s, .slice ad li.length cap] 34 (0, 0)) := fun W hW =>
    ⟨hb0.trans (hW.mono hb0.size), (hW.block _ (block_lt hc0)).trans hc0⟩
  have HW : Hid (Try.Wt 79 w own y l) := h
  have hfin : ∀ W W' l', Below w.heap.size w W → Try.WChg 79 own W W' y l' → Try.WChg 79 own w W' y l' := fun W W' l' hb hc => Try.WChg.trans (Wo.ofBelow hb) (fun k e => .inl e) hc
  clear hb0 hc0 hk hn hI hlen h e
  have hkl := Wi.kd_lt p.k
  have hk4 : Wi.kd p.k = 0 ∨ Wi.kd p.k = 1 ∨ Wi.kd p.k = 2 ∨ Wi.kd p.k = 3 := by omega
  clear hkl
  go_enter Try.func43, Try.ntmps43
  rcases hk4 with e | e | e | e
  · rw [e] at hkd
    have Ht : Hid (tb p li = cnt (zig p.n)) := (by show _ = _; unfold tb; rw [if_pos e])
    clear e
    go_wp2_with (first
      | (go_at_call 14; refine hkd.mono ?_; clear hkd; rintro e w4 ⟨rfl, hb4⟩; obtain ⟨hbb4, hx4⟩ := hW4 w4 hb4; have c1 := cell_of_row w4 _ 1 _ _ _ hx4; have h4 := Try.refInt_any (HW.out.below hbb4) p.n Hn.out.1 Hn.out.2 (Nat.le_trans (Nat.le_of_add_right_le Hlen.out) (by decide)); clear hx4)
      | (go_at_call 63; refine h4.mono ?_; clear h4; rintro e w5 ⟨⟨v5, rfl⟩, hW5⟩)
      | fail)
    go_end0
    exact ⟨⟨_, rfl⟩, by rw [Ht.out]; exact hfin _ _ _ hbb4 hW5⟩
  · rw [e] at hkd
    have Ht : Hid (tb p li = [if p.y then 1 else 0]) := (by show _ = _; unfold tb; rw [if_neg (by omega), if_pos e])
    clear e
    go_wp2_with (first
      | (go_at_call 14; refine hkd.mono ?_; clear hkd; rintro e w4 ⟨rfl, hb4⟩; obtain ⟨hbb4, hx4⟩ := hW4 w4 hb4; have c1 := cell_of_row w4 _ 2 _ _ _ hx4; have h4 := Try.refFlag_any (HW.out.below hbb4) p.y (Nat.le_trans (Nat.le_of_add_right_le Hlen.out) (by decide)); clear hx4)
      | (go_at_call 64; refine h4.mono ?_; clear h4; rintro e w5 ⟨⟨v5, rfl⟩, hW5⟩)
      | fail)
    go_end0
    exact ⟨⟨_, rfl⟩, by rw [Ht.out]; exact hfin _ _ _ hbb4 hW5⟩
  · rw [e] at hkd
    have Ht : Hid (tb p li = cnt p.s.size ++ p.s.data.toList) := (by show _ = _; unfold tb; rw [if_neg (by omega), if_neg (by omega), if_pos e])
    clear e
    go_wp2_with (first
      | (go_at_call 14; refine hkd.mono ?_; clear hkd; rintro e w4 ⟨rfl, hb4⟩; obtain ⟨hbb4, hx4⟩ := hW4 w4 hb4; have c1 := cell_of_row w4 _ 3 _ _ _ hx4; have h4 := Try.refText_any (HW.out.below hbb4) p.s (by have := Hlen.out; omega); clear hx4)
      | (go_at_call 65; refine h4.mono ?_; clear h4; rintro e w5 ⟨⟨v5, rfl⟩, hW5⟩)
      | fail)
    go_end0
    exact ⟨⟨_, rfl⟩, by rw [Ht.out]; exact hfin _ _ _ hbb4 hW5⟩
  · rw [e] at hkd
    have Ht : Hid (tb p li = cnt li.length ++ zs li) := (by show _ = _; unfold tb; rw [if_neg (by omega), if_neg (by omega), if_neg (by omega)])
    have hw64 : IntKind.u64.wrap (li.length : Int) = li.length := by have := Hlen.out; rw [IntKind.wrap_u64]; omega
    have hl63 : li.length ≤ 1000000000000000 := by have := Hlen.out; omega
    clear e
    go_wp2_with (first
      | (go_at_call 14; refine hkd.mono ?_; clear hkd; rintro e w4 ⟨rfl, hb4⟩; obtain ⟨hbb4, hx4⟩ := hW4 w4 hb4; have c1 := cell_of_row w4 _ 4 _ _ _ hx4; have h4 := Try.refCount_any (HW.out.below hbb4) li.length (by have := Hlen.out; omega) (by have := Hlen.out; omega))
      | (go_at_call 66; refine h4.mono ?_; clear h4; rintro e w5 ⟨⟨v5, rfl⟩, hW5⟩)
      | fail)
    have HW5 : Hid (Try.WChg 79 own w4 w5 y (l ++ cnt li.length)) := hW5
    have Hx4 : Hid (w4.heap[w.heap.size]? = some (.cells #[.int .i64 p.k, .int .i64 p.n, .bool p.y, .string p.s, .slice ad li.length cap] 34 (0, 0))) := hx4
    have Hbb4 : Hid (Below w.heap.size w w4) := hbb4
    have hng : ¬ own w.heap.size := fun e => by have := HW.out.lt _ e; omega
    clear hW5 c1 hx4 hbb4
    go_loopw [4] (fun i wr => ∃ k : Nat, k ≤ li.length ∧ i = .int .i64 k ∧ Try.WChg 79 own w4 wr y ((l ++ cnt li.length) ++ zs (li.take k))) (fun i _ => li.length - (intOf i).toNat)
    case atStart => exact ⟨0, Nat.zero_le _, rfl, by simpa [zs] using HW5.out⟩
    case round =>
      obtain ⟨k, hk, rfl, hC⟩ := hrel
      have d4 := cell_of_row wr _ 4 _ _ _ ((hC.wo.block _ (block_lt Hx4.out) hng).trans Hx4.out)
      by_cases hkm : k < li.length
      · have q0 : (k : Int) < (li.length : Int) := by omega
        have hc : ∃ sb so, ad = some ⟨sb, so, none⟩ ∧ wr.cell? ⟨sb, so + k, none⟩ = some (.int .i64 li[k]) := by
          obtain ⟨a1, c1, e1, hcs⟩ := ((HI.out.below HW.out.lt Hbb4.out).keep hC.wo).ex
          cases e1
          rcases hcs with rfl | ⟨sb, so, e, hb, h2⟩
          · simp at hkm
          · exact ⟨sb, so, e, h2 k hkm⟩
        obtain ⟨sb, so, rfl, hc⟩ := hc
        have Hok := HI.out.is.ok
        have hzl := zs_len (li.take k) (fun n hn => Hok n (List.mem_of_mem_take hn))
        have hcl := cnt_len10 (n := li.length) (by omega)
        have Hzl : Hid (((l ++ cnt li.length) ++ zs (li.take k)).length ≤ 140737488355300) := (by
          have h2 := Hlen.out
          rw [List.length_take] at hzl
          show ((l ++ cnt li.length) ++ zs (li.take k)).length ≤ _
          rw [List.length_append, List.length_append]; omega)
        have hIn := Hok _ (List.getElem_mem hkm)
        have h3 : Calls Try.prog 63 #[.pointer (some ⟨y, 0, none⟩), .int .i64 li[k]] wr fun e w' => (∃ v, e = .returned v) ∧ Try.WChg 79 own w4 w' y (((l ++ cnt li.length) ++ zs (li.take k)) ++ cnt (zig li[k])) := by
          obtain ⟨own1, g1, g2⟩ := hC.ex
          exact (Try.refInt_any g1 li[k] hIn.1 hIn.2 Hzl.out).mono fun _ _ ⟨e1, e2⟩ => ⟨e1, Try.WChg.trans hC.wo g2 e2⟩
        have Hz : Hid (((l ++ cnt li.length) ++ zs (li.take k)) ++ cnt (zig li[k]) = (l ++ cnt li.length) ++ zs (li.take (k + 1))) := (by
          have e : zs (li.take (k + 1)) = zs (li.take k) ++ cnt (zig li[k]) := by
            rw [← List.take_append_getElem hkm, zs_app]; simp [zs]
          show _ = _
          rw [e, List.append_assoc (l ++ cnt li.length)])
        clear hzl hcl hIn Hok
        go_wp2_with (first
          | (go_at_call 63; refine h3.mono ?_; clear h3; rintro e w6 ⟨⟨v6, rfl⟩, hW6⟩)
          | fail)
        go_roundw
        case rel => exact ⟨k + 1, by omega, by go_num, by rw [← Hz.out]; exact hW6⟩
        case measure => simp [intOf]; omega
      · have q0 : ¬ (k : Int) < (li.length : Int) := by omega
        have hkk : k = li.length := by omega
        subst hkk
        go_wp2
        go_end0
        refine ⟨⟨_, rfl⟩, ?_⟩
        rw [List.take_length, List.append_assoc] at hC
        rw [Ht.out]
        exact hfin _ _ _ Hbb4.out hC
end Go.Proofs
