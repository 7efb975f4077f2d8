/-
  WireLists: made, its walk.
-/
import Derived.Test.YtdefebinnmimgaaWm
namespace Go.Proofs
open Go.RowKit Go.Wi
set_option maxRecDepth 100000 in
set_option maxHeartbeats 4000000 in
theorem Try.made_any {w : World} {lv : Value} {ll : List (List ByteArray)} (h : Txs w lv ll) (hy : yw ll ≤ 2147483647) :
    Calls Try.prog 25 #[lv] w fun e w' => ∃ v, e = .returned v ∧ Wi.Lent w.heap.size w' v ll ∧ Below w.heap.size w w' := by
  have hlen := yw_len ll
  obtain ⟨ad, cap, rfl, hcs⟩ := h.ex
  have HCS : Hid (∀ k (hk : k < ll.length), ∃ g o u, ad = some ⟨g, o, none⟩ ∧ ∀ (W : World), Below w.heap.size w W → W.cell? ⟨g, o + k, none⟩ = some u ∧ Tx W u ll[k]) := fun k hk => by
    rcases hcs with rfl | ⟨g, o, e, hg, h2⟩
    · simp at hk
    · obtain ⟨u, h3, h4⟩ := h2 k hk
      exact ⟨g, o, u, e, fun W hW => ⟨(hW.cell (p := ⟨g, o + k, none⟩) hg).trans h3, h4.up hW⟩⟩
  have HY : Hid (yw ll ≤ 2147483647) := hy
  obtain ⟨i0, hi0, hz0, hz1, hz2⟩ := info_parts Try.info_str6
  obtain ⟨i1, hi1, hy0, hy1, hy2⟩ := info_parts Try.info_strs6
  have hln : ll.length ≤ 214748364 := by omega
  clear h hcs hy hlen
  go_enter Try.func25, Try.ntmps25
  go_wp2
  go_loopw [3, 4] (fun ov i wr => ∃ (k : Nat) (vs : List Value), k ≤ ll.length ∧ i = .int .i64 k ∧ Try.Mk w wr ov vs (ll.take k)) (fun _ i _ => ll.length - (intOf i).toNat)
  case atStart => exact ⟨0, [], Nat.zero_le _, rfl, World.ownsRow_nil _ _ _ _, rfl, fun j hj => by simp at hj, Below.refl _ _⟩
  case round =>
    obtain ⟨k, vs, hk, rfl, hM⟩ := hrel
    have hwz := hM.bel.size
    have hlk : (ll.take k).length = k := by rw [List.length_take]; omega
    by_cases hkm : k < ll.length
    · have q0 : (k : Int) < (ll.length : Int) := by omega
      obtain ⟨g, o, u, rfl, hW⟩ := HCS.out k hkm
      obtain ⟨cu, hT⟩ := hW wr hM.bel
      obtain ⟨ua, uc, rfl, -⟩ := hT.ex
      have hxl : ll[k].length ≤ 214748364 := by have h1 := yw_at hkm; have h2 := xw_len ll[k]; have := HY.out; omega
      have Hst : Hid (ll.take k ++ [ll[k]] = ll.take (k + 1)) := List.take_append_getElem hkm
      generalize ll[k] = l at *
      have HM : Hid (Try.Mk w wr u3 vs (ll.take k)) := hM
      have HW : Hid (∀ (W : World), Below w.heap.size w W → W.cell? ⟨g, o + k, none⟩ = some (.slice ua l.length uc) ∧ Tx W (.slice ua l.length uc) l) := hW
      clear hM hW
      go_wp2_with (first
        | (at_builtin; refine Try.appTx rfl _ _ rfl hT rfl rfl (by omega) ?_; intro v5 w5 hown5 hb5; clear hT; have hown5' := Wi.rowMono hown5 hwz; have hz5 := hb5.size)
        | (at_builtin; refine wpList_append_lies _ rfl _ _ 50 rfl w.heap.size 9 i0 _ 1 16 Try.underlying50 hi0 hz0 hz1 hz2 rfl (by omega) v5 l.length (tc l) (by rfl) (hown5'.alloc _) ⟨w5.heap.size, 0, none⟩ 2 2 [.string beh, .string beh] (by rfl) (by rfl) (World.news_of_block (cs := #[.string beh, .string beh]) (t := 9) (fr := (0, 0)) (heap_alloc_new w5 _)) (by simp [Value.oneCell']) (by omega) (by unfold maxLen; omega) (by omega) (by simp; omega) (w5.heap.size + 1) (by simp) ?_; intro g6 c6 w6 hown6 hgrow6 hat6 hlt6
           have hb6 : Below wr.heap.size wr w6 := (hb5.alloc hz5 _).grown ⟨hgrow6.os, hgrow6.tape, hgrow6.output, hgrow6.size, hgrow6.block⟩ (by simp; omega) (fun k hk => (hown5.lt k hk).1)
           have hM6 := HM.out.keep hb6
           have cu6 := (HW.out w6 hM6.bel).1
           have hcap6 := (Wi.rowCap hown6).1
           have hc6 : (l.length : Int) ≤ (c6 : Int) := by omega
           have hrow6 := hM6.row
           rw [hlk] at hrow6
           have hz6 := hb6.size
           have HM6 : Hid (Try.Mk w w6 u3 vs (ll.take k)) := hM6
           clear hM6 hcap6)
        | (at_builtin; refine wpList_append_lies _ rfl _ _ 46 rfl w.heap.size 50 i1 _ 1 24 Try.underlying46 hi1 hy0 hy1 hy2 rfl (by omega) u3 k vs (by rfl) (hrow6.alloc _) ⟨w6.heap.size, 0, none⟩ 1 1 [.slice (some ⟨g6, 0, none⟩) l.length c6] (by rfl) (by rfl) (World.news_of_block (cs := #[.slice (some ⟨g6, 0, none⟩) l.length c6]) (t := 50) (fr := (0, 0)) (heap_alloc_new w6 _)) (by simp [Value.oneCell']) (by omega) (by unfold maxLen; omega) (by omega) (by simp; omega) (w6.heap.size + 1) (by simp) ?_; intro g7 c7 w7 hown7 hgrow7 hat7 hlt7)
        | fail)
      go_roundw
      case rel =>
        refine ⟨k + 1, vs ++ [.slice (some ⟨g6, 0, none⟩) l.length c6], by omega, by go_num, ?_⟩
        have hn := (HM6.out.keep ((Below.refl _ _).alloc (Nat.le_refl _) (.cells #[.slice (some ⟨g6, 0, none⟩) l.length c6] 50))).next (l := l) (g := g6) (c := c6) (hown6.alloc _) ⟨hgrow7.os, hgrow7.tape, hgrow7.output, hgrow7.size, hgrow7.block⟩ (by rw [hlk]; exact hown7)
        rw [Hst.out, hlk] at hn
        exact hn
      case measure => simp [intOf]; omega
    · have q0 : ¬ (k : Int) < (ll.length : Int) := by omega
      obtain rfl : k = ll.length := by omega
      rw [List.take_length] at hM
      have hrow := hM.row
      have HM : Hid (Try.Mk w wr u3 vs ll) := hM
      have hn3 : (((wr.alloc (.cells #[.string beh] 9)).alloc (.cells #[.string beh] 9)).alloc (.cells #[.slice (some ⟨wr.heap.size, 0, none⟩) 1 1, .slice (some ⟨wr.heap.size + 1, 0, none⟩) 1 1] 50)).heap[wr.heap.size + 1 + 1]? = some (.cells #[.slice (some ⟨wr.heap.size, 0, none⟩) 1 1, .slice (some ⟨wr.heap.size + 1, 0, none⟩) 1 1] 50 (0, 0)) := by
        have := heap_alloc_new ((wr.alloc (.cells #[.string beh] 9)).alloc (.cells #[.string beh] 9)) (.cells #[.slice (some ⟨wr.heap.size, 0, none⟩) 1 1, .slice (some ⟨wr.heap.size + 1, 0, none⟩) 1 1] 50)
        rwa [World.size_alloc, World.size_alloc] at this
      have hn2 : (((wr.alloc (.cells #[.string beh] 9)).alloc (.cells #[.string beh] 9)).alloc (.cells #[.slice (some ⟨wr.heap.size, 0, none⟩) 1 1, .slice (some ⟨wr.heap.size + 1, 0, none⟩) 1 1] 50)).heap[wr.heap.size + 1]? = some (.cells #[.string beh] 9 (0, 0)) := by
        rw [Below.heap_alloc _ _ _ (by simp)]
        have := heap_alloc_new (wr.alloc (.cells #[.string beh] 9)) (.cells #[.string beh] 9)
        rwa [World.size_alloc] at this
      have hn1 : (((wr.alloc (.cells #[.string beh] 9)).alloc (.cells #[.string beh] 9)).alloc (.cells #[.slice (some ⟨wr.heap.size, 0, none⟩) 1 1, .slice (some ⟨wr.heap.size + 1, 0, none⟩) 1 1] 50)).heap[wr.heap.size]? = some (.cells #[.string beh] 9 (0, 0)) := by
        rw [Below.heap_alloc _ _ _ (by simp; omega), Below.heap_alloc _ _ _ (by simp)]
        exact heap_alloc_new wr _
      have hb3 : Below wr.heap.size wr (((wr.alloc (.cells #[.string beh] 9)).alloc (.cells #[.string beh] 9)).alloc (.cells #[.slice (some ⟨wr.heap.size, 0, none⟩) 1 1, .slice (some ⟨wr.heap.size + 1, 0, none⟩) 1 1] 50)) := (((Below.refl _ _).alloc (Nat.le_refl _) _).alloc (by simp) _).alloc (by simp; omega) _
      have HL : Hid (∀ g c W, World.grownBy (((wr.alloc (.cells #[.string beh] 9)).alloc (.cells #[.string beh] 9)).alloc (.cells #[.slice (some ⟨wr.heap.size, 0, none⟩) 1 1, .slice (some ⟨wr.heap.size + 1, 0, none⟩) 1 1] 50)) W u3.ownBlock → W.ownsRow w.heap.size 50 1 (.slice (some ⟨g, 0, none⟩) (ll.length + 2) c) (ll.length + 2) (vs ++ [.slice (some ⟨wr.heap.size, 0, none⟩) 1 1, .slice (some ⟨wr.heap.size + 1, 0, none⟩) 1 1]) → Wi.Lent w.heap.size W (.slice (some ⟨g, 0, none⟩) ll.length c) ll ∧ Below w.heap.size w W) := fun g c W hg ho =>
        ⟨(HM.out.keep hb3).lent hwz (Nat.le_succ_of_le hwz) hn1 hn2 hg ho, (HM.out.keep hb3).bel.grown hg (HM.out.keep hb3).bel.size (fun k hk => (HM.out.row.lt k hk).1)⟩
      clear hM HCS hn1 hn2 hb3
      go_wp2_with (first
        | (at_builtin; refine wpList_append_lies _ rfl _ _ 46 rfl w.heap.size 50 i1 _ 1 24 Try.underlying46 hi1 hy0 hy1 hy2 rfl (by omega) u3 ll.length vs (by rfl) (((hrow.alloc _).alloc _).alloc _) ⟨wr.heap.size + 1 + 1, 0, none⟩ 2 2 [.slice (some ⟨wr.heap.size, 0, none⟩) 1 1, .slice (some ⟨wr.heap.size + 1, 0, none⟩) 1 1] (by rfl) (by rfl) (World.news_of_block (cs := #[.slice (some ⟨wr.heap.size, 0, none⟩) 1 1, .slice (some ⟨wr.heap.size + 1, 0, none⟩) 1 1]) (t := 50) (fr := (0, 0)) hn3) (by simp [Value.oneCell']) (by omega) (by unfold maxLen; omega) (by omega) (by simp; omega) (wr.heap.size + 1 + 1 + 1) (by simp) ?_; intro g7 c7 w7 hown7 hgrow7 hat7 hlt7; have hcap7 := (Wi.rowCap hown7).1; have hc7 : (ll.length : Int) ≤ (c7 : Int) := by omega)
        | fail)
      go_ret
      obtain ⟨r1, r2⟩ := HL.out g7 c7 w7 ⟨hgrow7.os, hgrow7.tape, hgrow7.output, hgrow7.size, hgrow7.block⟩ hown7
      exact ⟨_, rfl, r1, r2⟩
end Go.Proofs
