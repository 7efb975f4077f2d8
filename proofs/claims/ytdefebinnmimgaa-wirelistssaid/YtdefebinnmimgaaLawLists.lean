/-
  WireLists: the walk.
-/
import Derived.Test.YtdefebinnmimgaaWq6
namespace Go.Proofs
open Go.RowKit Go.Wi
theorem Try.assertF6 (v : Value) (w : World) : (Instr.typeAssert (.iface 60 v) 38 60 true).run Try.prog w = .ok (.tuple #[v, .bool true]) w := by kernel_rfl
set_option maxRecDepth 100000 in
set_option maxHeartbeats 8000000 in
theorem Try.wireListsWalk (lv : Value) (ll : List (List ByteArray)) (less : Int) (w : World) (hT : Txs w lv ll) (hlen : ll.length ≤ 140737488355328) (hin : ∀ l ∈ ll, l.length ≤ 140737488355328) (hz : ∀ l ∈ ll, ∀ s ∈ l, s.size ≤ 140737488355328) (hless : -9223372036854775808 ≤ less ∧ less ≤ 9223372036854775807) :
    Calls Try.prog 5 #[lv, .int .i64 less] w fun e w' => e = .returned (.bool true) ∧ Below w.heap.size w w' := by
  have h0 := Try.shown_any w
  obtain ⟨ad, cap, rfl, -⟩ := hT.ex
  have hMany := fun W hW => Try.many_any (w := W) (Txs.up hT hW) hlen hin hz
  have hMade := fun W hW hy => Try.made_any (w := W) (Txs.up hT hW) hy
  have HT : Hid (Txs w (.slice ad ll.length cap) ll) := hT
  have HLE : Hid (-9223372036854775808 ≤ less ∧ less ≤ 9223372036854775807) := hless
  have hl63 : ll.length ≤ 9223372036854775807 := by omega
  clear hT hlen hin hz hless
  go_enter Try.func5, Try.ntmps5
  go_upto_if 37 with (first
    | (go_at_call 9; refine h0.mono ?_; clear h0; rintro e w1 ⟨rfl, hb1⟩; have h1 := Try.newWriter_one w1)
    | (go_at_call 13; refine h1.mono ?_; clear h1; rintro e w2 ⟨x, rfl, hW2, hx1, hx2, hb2⟩; have hbw2 : Below w.heap.size w w2 := hb1.trans (hb2.mono hb1.size); have hwx : w.heap.size ≤ x := Nat.le_trans hb1.size hx1; have h2 := hMany w2 hbw2; clear hMany)
    | (go_at_call 24; refine h2.mono ?_; clear h2; rintro e w3 ⟨⟨bb, rfl, hbb⟩, rfl⟩)
    | fail)
  cases bb with
  | true =>
    go_wp2
    go_ret
    exact ⟨rfl, hbw2⟩
  | false =>
    have hy := hbb rfl
    have hyl := yw_len ll
    have hn : ll.length ≤ 214748364 := by omega
    have h3 := hMade _ hbw2 hy
    have HIN : Hid (∀ l ∈ ll, l.length ≤ 214748364 ∧ xw l ≤ 2147483647 ∧ ∀ s ∈ l, s.size < 18446744073709551616) := fun l hl => by
      have h1 := yw_mem hl
      have h2 := xw_len l
      exact ⟨by omega, by omega, fun s hs => by have := xw_mem hs; omega⟩
    have HY : Hid (yw ll ≤ 2147483647) := hy
    clear hMade hbb hy hyl hb1 hb2 hx1
    go_wp2_with (first
      | (go_at_call 25; refine h3.mono ?_; clear h3; rintro e w4 ⟨lent, rfl, hL4, hb4⟩
         have hx4 := hb4.size
         obtain ⟨lg, lc, rfl, -⟩ := hL4.ex
         have hWL4 : Try.WL w4 w4 x [] := ⟨⟨_, hW2.below hb4, fun k e => .inl e⟩, Wo.refl _ _⟩
         have h4 := Try.writeLists_any hWL4 (Wi.Txso.mono hL4.txs (fun g hg => ⟨hg.2, by omega⟩)) (by have := HY.out; simp; omega)
         clear hWL4 hW2)
      | (go_at_call 26; refine h4.mono ?_; clear h4; rintro e w5 ⟨⟨v5, rfl⟩, hW5⟩
         rw [List.nil_append] at hW5
         have hL5 := hL4.keep (w' := w5) (fun g k1 k2 => hW5.wo.block g k2 (by omega)) hW5.wo.size
         have hbw4 : Below w.heap.size w w4 := hbw2.trans (hb4.mono hbw2.size)
         have hbw5 : Below w.heap.size w w5 := Wo.toBelow hbw4 hW5.wo (fun k e => by omega) hbw4.size
         have h5 := Try.still_any hL5 (Txs.up HT.out hbw5) hn (fun l hl => (HIN.out l hl).1)
         have hys := ys_len ll (by have := HY.out; omega)
         have hcl := cnt_len10 (n := ll.length) (by omega)
         have htl : (cnt ll.length ++ ys ll).length ≤ 3000000000 := by rw [List.length_append]; have := HY.out; omega
         have htl2 : (cnt ll.length).length + ll.length ≤ (cnt ll.length ++ ys ll).length := by rw [List.length_append]; omega
         have hint := lists_int ll.length hn (ys ll)
         have hthi := lists_thing ll.length hn (ys ll)
         have hnon := lists_none ll.length hn (ys ll)
         obtain ⟨t, ht⟩ : ∃ t, t = cnt ll.length ++ ys ll := ⟨_, rfl⟩
         rw [← ht] at hW5 htl htl2 hint hthi hnon
         have Ht : Hid (t = cnt ll.length ++ ys ll) := ht
         have HINT : Hid _ := hint
         have HTHI : Hid _ := hthi
         have HNON : Hid _ := hnon
         clear hL4 hL5 hbw4 hys hcl ht hint hthi hnon hx4 hx2 hb4 hbw2)
      | (go_at_call 30; refine h5.mono ?_; clear h5; rintro e w6 ⟨rfl, q6, rfl⟩
         obtain ⟨ownW, hWt, -⟩ := hW5.ex
         have h6 := Try.bytes_any (hWt.below (belowN (Below.refl _ _) q6)) (by omega)
         have hbw6 : Below w.heap.size w (w5.drewN q6) := belowN hbw5 q6
         clear hW5 hWt hbw5)
      | (go_at_call 22; refine h6.mono ?_; clear h6; rintro e w7 ⟨ad7, cap7, rfl, hown7, hb7⟩
         have hbw7 : Below w.heap.size w w7 := hbw6.trans (hb7.mono hbw6.size)
         have hB7 : Bs w7 (.slice ad7 t.length cap7) t := Bs.ofRow hown7
         have hlt7 := hown7.lt
         have h7 : Calls Try.prog 12 #[.slice (some ⟨w7.heap.size + 1, 0, none⟩) 1 1] ((w7.alloc (.cells #[.int .i64 0] 3)).alloc (.cells #[.int .u8 5] 5)) fun e w' => ∃ x, e = .returned (.pointer (some ⟨x, 0, none⟩)) ∧ Try.RB (w7.heap.size + 1 + 1) ((w7.alloc (.cells #[.int .i64 0] 3)).alloc (.cells #[.int .u8 5] 5)) w' x ⟨[5], 0, none⟩ := by
           have := Try.RB.new (Wi.bs_const (w7.alloc (.cells #[.int .i64 0] 3)) 5 [5] (0, 0)) (by decide)
           simp only [World.size_alloc] at this
           exact this
         have hc7 : ((w7.alloc (.cells #[.int .i64 0] 3)).alloc (.cells #[.int .u8 5] 5)).heap[w7.heap.size]? = some (.cells #[.int .i64 0] 3 (0, 0)) := by
           rw [Below.heap_alloc _ _ _ (by simp)]
           exact heap_alloc_new w7 _
         have hb78 : Below w7.heap.size w7 ((w7.alloc (.cells #[.int .i64 0] 3)).alloc (.cells #[.int .u8 5] 5)) := ((Below.refl _ _).alloc (Nat.le_refl _) _).alloc (by simp) _
         have hs78 : ((w7.alloc (.cells #[.int .i64 0] 3)).alloc (.cells #[.int .u8 5] 5)).heap.size = w7.heap.size + 1 + 1 := by simp
         clear hown7 hb7 hbw6)
      | fail)
    refine h7.mono ?_
    clear h7
    rintro e w9 ⟨z, rfl, hR9⟩
    obtain ⟨own9, hRd9, ho9⟩ := hR9.ex
    have hc9 : w9.heap[w7.heap.size]? = some (.cells #[.int .i64 0] 3 (0, 0)) := (hR9.bel.block _ (by omega)).trans hc7
    have hb79 : Below w7.heap.size w7 w9 := hb78.trans (hR9.bel.mono (by omega))
    have hs9 : w7.heap.size + 1 + 1 ≤ w9.heap.size := hR9.le
    have h9 := Try.readTexts_cut hRd9 hc9 (fun e => by have := ho9 _ e; omega) 1 (Wi.w64 _ (by omega) (by omega)) 9 (by unfold In64; omega) 5 (by omega) cut_thing 1 cut_text
    have hzz := ho9 z hRd9.ox
    clear hc7 hb78 hs78 hR9 hc9 hRd9
    go_upto_region 23 with (first
      | (go_at_call 31; refine h9.mono ?_; clear h9; rintro e w10 ⟨rfl, hC10⟩
         obtain ⟨own10, hRd10, ho10⟩ := hC10.ex
         have c10 := cell_of_row w10 _ 0 _ _ _ hC10.cc
         have hRB10 : Try.RB (w7.heap.size + 1 + 1) w10 w10 z (Rs.mk [5] 1 none).text.2 := ⟨⟨own10, hRd10, fun k e => (ho10 k e).elim (fun e1 => ho9 k e1) (fun e1 => by omega)⟩, Below.refl _ _⟩
         have h10 := hRB10.errSome cut_text
         have hb710 : Below w7.heap.size w7 w10 := Wo.toBelow hb79 hC10.wo (fun k e => by rcases e with e | e <;> omega) hb79.size
         have hc10 := hC10.cc
         clear hC10 hRd10 hRB10 ho10 ho9 hb79)
      | (go_at_call 16; refine h10.mono ?_; clear h10; rintro e w11 ⟨z11, rfl, -, hR11⟩
         have hb711 : Below w7.heap.size w7 w11 := hb710.trans (hR11.bel.mono (by omega))
         have hc11 : w11.heap[w7.heap.size]? = some (.cells #[.int .i64 1] 3 (0, 0)) := (hR11.bel.block _ (by omega)).trans hc10
         have hB11 := hB7.below hb711 (fun k e => (hlt7 k e).2)
         have hbw11 : Below w.heap.size w w11 := hbw7.trans (hb711.mono hbw7.size)
         have hlt11 : ∀ k, (Value.slice ad7 t.length cap7).ownBlock = some k → k < w11.heap.size := fun k e => Nat.lt_of_lt_of_le (hlt7 k e).2 hb711.size
         have hs11 := hb711.size
         have h11 := Try.RB.new hB11 (by omega)
         clear hR11 hc10 hB7 hb710 c10 hzz hs9)
      | (go_at_call 12; refine h11.mono ?_; clear h11; rintro e w12 ⟨r, rfl, hR12⟩; have h12 := hR12.int; simp only [HINT.out] at h12; clear hR12)
      | (go_at_call 15; refine h12.mono ?_; clear h12; rintro e w13 ⟨rfl, hR13⟩)
      | fail)
    go_cut [102] from 77 to 102 (fun b wx => b = .bool false ∧ wx = w13)
    case first =>
      by_cases hev : ll.length % 2 = 0
      · have e1 : (ll.length : Int) % 2 = 0 := by omega
        have e2 : unzig ll.length = (ll.length : Int) / 2 := by unfold unzig; rw [if_pos hev]; omega
        have e3 : ¬ (ll.length : Int) % 2 = 1 := by omega
        have e4 : ((ll.length : Int) % 2 == 1) = false := by simpa using e3
        clear hev
        go_wp2
        go_meet
        case rel => exact ⟨by first | rfl | simp, rfl⟩
      · have e1 : ¬ (ll.length : Int) % 2 = 0 := by omega
        have e3 : (ll.length : Int) % 2 = 1 := by omega
        have e2 : (unzig ll.length != -((ll.length : Int) / 2) - 1) = false := by
          have : unzig ll.length = -((ll.length : Int) / 2) - 1 := by unfold unzig; rw [if_neg hev]; omega
          simp [this]
        have e4 : ((ll.length : Int) % 2 == 0) = false := by simpa using e1
        clear hev
        go_wp2
        go_meet
        case rel => exact ⟨by first | rfl | simp, rfl⟩
    case rest =>
      obtain ⟨rfl, rfl⟩ := hcut
      have hz13 := hR13.bel.size
      have HTW : Hid (∀ (W : World), Below w.heap.size w W → ∀ k (hk : k < ll.length), ∃ g o ua uc, ad = some ⟨g, o, none⟩ ∧ W.cell? ⟨g, o + k, none⟩ = some (.slice ua ll[k].length uc) ∧ ∀ i (hi : i < ll[k].length), ∃ ug uo, ua = some ⟨ug, uo, none⟩ ∧ W.cell? ⟨ug, uo + i, none⟩ = some (.string ll[k][i])) := fun W hW k hk => by
        obtain ⟨ad', cap', e, hcs⟩ := (Txs.up HT.out hW).ex
        injection e with e1 e2 e3
        subst e1
        rcases hcs with rfl | ⟨g, o, e, hg, h2⟩
        · simp at hk
        · obtain ⟨u, h3, h4⟩ := h2 k hk
          obtain ⟨ua, uc, rfl, h5⟩ := h4.ex
          refine ⟨g, o, ua, uc, e, h3, fun i hi => ?_⟩
          rcases h5 with h5 | ⟨ug, uo, e2, -, h6⟩
          · rw [h5] at hi; simp at hi
          · exact ⟨ug, uo, e2, h6 i hi⟩
      have HR13 : Hid (Try.RB w11.heap.size w11 wc r ⟨t, (cnt ll.length).length, none⟩) := hR13
      have HBW : Hid (Below w.heap.size w w11) := hbw11
      have HC11 : Hid (w11.heap[w7.heap.size]? = some (.cells #[.int .i64 1] 3 (0, 0))) := hc11
      have hcw : w7.heap.size < w11.heap.size := block_lt hc11
      clear hR13 hbw11 hc11
      go_wp2
      go_loopw [16] (fun i wr => ∃ k p : Nat, k ≤ ll.length ∧ i = .int .i64 k ∧ p = (cnt ll.length ++ ys (ll.take k)).length ∧ Try.RB w11.heap.size w11 wr r ⟨t, p, none⟩) (fun i _ => ll.length - (intOf i).toNat)
      case atStart => exact ⟨0, (cnt ll.length).length, Nat.zero_le _, rfl, by simp [ys], HR13.out⟩
      case round =>
        obtain ⟨k, p, hk, rfl, hp, hR⟩ := hrel
        clear HR13
        by_cases hkm : k < ll.length
        · have q0 : (k : Int) < (ll.length : Int) := by omega
          have hbwr : Below w.heap.size w wr := HBW.out.trans (hR.bel.mono HBW.out.size)
          obtain ⟨hl1, -, hl3⟩ := HIN.out ll[k] (List.getElem_mem hkm)
          have hcr : wr.heap[w7.heap.size]? = some (.cells #[.int .i64 1] 3 (0, 0)) := (hR.bel.block _ hcw).trans HC11.out
          rw [hp] at hR
          obtain ⟨p2, hp2⟩ : ∃ p2, p2 = (cnt ll.length ++ ys (ll.take k)).length + (cnt ll[k].length).length + (xs ll[k]).length := ⟨_, rfl⟩
          have hrt := Try.readTexts_ok (cnt ll.length ++ ys (ll.take k)) (ys (ll.drop (k + 1))) ll[k] t (by rw [Ht.out, ys_split hkm]; simp only [List.append_assoc]) (Try.RS.of hR hcr hcw) hl3 (by omega) p2 hp2
          have Hp2 : Hid (p2 = (cnt ll.length ++ ys (ll.take (k + 1))).length) := (by show p2 = _; rw [hp2, ys_next hkm]; simp only [List.length_append]; omega)
          have HTk := fun W hW => HTW.out W hW k hkm
          generalize ll[k] = l at *
          obtain ⟨g, o, ua, uc, rfl, cu, -⟩ := HTk wr hbwr
          have HTK : Hid _ := HTk
          clear hp2 HTk hp hcr hl3
          go_wp2_with (first
            | (go_at_call 31; refine hrt.mono ?_; clear hrt; rintro e w14 ⟨ma, mc, rfl, hS14⟩
               have hbw14 : Below w.heap.size w w14 := HBW.out.trans (hS14.bel.mono HBW.out.size)
               obtain ⟨g', o', va, vc, e', cu14, cs14⟩ := HTK.out w14 hbw14
               injection e' with e'
               injection e' with e1 e2 e3
               subst e1 e2
               have HV : Hid (∀ i (hi : i < l.length), ∃ ug uo, va = some ⟨ug, uo, none⟩ ∧ w14.cell? ⟨ug, uo + i, none⟩ = some (.string l[i])) := cs14
               have HMM : Hid (∀ i (hi : i < l.length), ∃ gm, ma = some ⟨gm, 0, none⟩ ∧ w14.cell? ⟨gm, i, none⟩ = some (.string l[i])) := fun i hi => by
                 obtain ⟨gm, cm, em, -, -⟩ := hS14.row.form (by omega)
                 injection em with em1 em2 em3
                 subst em1 em3
                 exact ⟨gm, rfl, rcell hS14.row (tc_at hi)⟩
               have HS14 : Hid (Try.RB w11.heap.size w11 w14 r ⟨t, p2, none⟩) := hS14.rb
               clear cs14 e3 hS14 hbw14 cu)
            | fail)
          go_loopw [18] (fun i wx => ∃ j q' : Nat, j ≤ l.length ∧ i = .int .i64 j ∧ wx = w14.drewN q') (fun i _ => l.length - (intOf i).toNat)
          case atStart => exact ⟨0, 0, Nat.zero_le _, rfl, rfl⟩
          case round =>
            obtain ⟨j, q', hj, rfl, rfl⟩ := hrel
            by_cases hjm : j < l.length
            · have q2 : (j : Int) < (l.length : Int) := by omega
              obtain ⟨ug, uo, rfl, c1⟩ := HV.out j hjm
              obtain ⟨gm, rfl, c2⟩ := HMM.out j hjm
              generalize l[j] = s at *
              go_wp2
              go_quiet (fail)
              go_wp2
              go_roundw
              case rel => exact ⟨j + 1, _, by omega, by go_num, rfl⟩
              case measure => simp [intOf]; omega
            · have q2 : ¬ (j : Int) < (l.length : Int) := by omega
              go_wp2
              go_roundw
              case rel => exact ⟨k + 1, p2, by omega, by go_num, Hp2.out, HS14.out.drewN _⟩
              case measure => simp [intOf]; omega
        · have q0 : ¬ (k : Int) < (ll.length : Int) := by omega
          obtain rfl : k = ll.length := by omega
          rw [List.take_length, ← Ht.out] at hp
          subst hp
          have h15 := hR.fin
          have hfin : (Rs.mk t t.length none).fin = true := by simp [Rs.fin]
          simp only [hfin] at h15
          clear HTW hfin hR
          go_upto_region 40 with (first
            | (go_at_call 23; refine h15.mono ?_; clear h15; rintro e w15 ⟨rfl, hR15⟩
               have hB15 := hB11.below hR15.bel hlt11
               have hc15 : w15.heap[w7.heap.size]? = some (.cells #[.int .i64 1] 3 (0, 0)) := (hR15.bel.block _ hcw).trans HC11.out
               have hbw15 : Below w.heap.size w w15 := HBW.out.trans (hR15.bel.mono HBW.out.size)
               have hs15 := hR15.bel.size
               have h16 := Try.RB.new hB15 (by omega)
               clear hR15)
            | (go_at_call 12; refine h16.mono ?_; clear h16; rintro e w16 ⟨q, rfl, hR16⟩
               have hB16 := hB15.below hR16.bel (fun k e => Nat.lt_of_lt_of_le (hlt11 k e) hs15)
               have hc16 : w16.heap[w7.heap.size]? = some (.cells #[.int .i64 1] 3 (0, 0)) := (hR16.bel.block _ (by omega)).trans hc15
               have hbw16 : Below w.heap.size w w16 := hbw15.trans (hR16.bel.mono hbw15.size)
               obtain ⟨own16, hRd16, ho16⟩ := hR16.ex
               have hs16 := hR16.bel.size
               clear hR16 hB15 hc15 hbw15)
            | fail)
          by_cases hn0 : ll.length = 0
          · have e0 : (ll.length : Int) = 0 := by omega
            go_wp2
            go_ret
            exact ⟨rfl, hbw16⟩
          · have e0 : ¬ (ll.length : Int) = 0 := by omega
            have e0' : ((ll.length : Int) == 0) = false := by simpa using e0
            have c16 := cell_of_row w16 _ 0 _ _ _ hc16
            have f16 := frozen_of_row w16 _ 0 _ _ hc16
            have hc17 := heap_setCell_same w16 w7.heap.size 0 #[.int .i64 1] 3 (.int .i64 0) hc16
            have hs17 : (w16.setCell ⟨w7.heap.size, 0, none⟩ (.int .i64 0)).heap.size = w16.heap.size := by simp
            have hw17 : Wo (fun k => k = w7.heap.size) w16 (w16.setCell ⟨w7.heap.size, 0, none⟩ (.int .i64 0)) := (Wo.refl _ w16).setCell _ 0 _ (.inl rfl)
            have hB17 : Bs (w16.setCell ⟨w7.heap.size, 0, none⟩ (.int .i64 0)) (.slice ad7 t.length cap7) t := hB16.keep fun k e => hw17.block k (by have := (hlt7 k e).2; omega) (by have := (hlt7 k e).2; omega)
            have h18 := Try.RB.new hB17 (by omega)
            clear hB16 hc16
            generalize hW17 : w16.setCell ⟨w7.heap.size, 0, none⟩ (.int .i64 0) = W17 at *
            go_upto_if 184 with (first
              | (go_at_call 12; refine h18.mono ?_; clear h18; rintro e w18 ⟨z2, rfl, hR18⟩
                 have h19 := Try.readInts_ok (Try.RN.of hR18 hc17) (ll.length : Int) (by unfold In64; omega) ll.length HTHI.out rfl (by simp only; omega) (by omega)
                 clear hR18)
              | (go_at_call 34; refine h19.mono ?_; clear h19; rintro e w19 ⟨ad19, cap19, rfl, hN19⟩
                 have c19 : w19.cell? ⟨w7.heap.size, 0, none⟩ = some (.int .i64 ll.length) := cell_of_row w19 _ 0 _ _ _ hN19.kept
                 have hrow19 := hN19.row
                 rw [Wi.ups_len] at hrow19
                 obtain ⟨g19, cc19, e19, -, -⟩ := hrow19.form (by omega)
                 injection e19 with e191 e192 e193
                 subst e191 e193
                 obtain ⟨last, hlast⟩ : ∃ last : Nat, ll.length = last + 1 := ⟨ll.length - 1, by omega⟩
                 have cl19 : w19.cell? ⟨g19, last, none⟩ = some (.int .i64 ll.length) := by
                   refine rcell hrow19 ?_
                   rw [hlast, Wi.ups_succ]
                   simp [Wi.ics, Wi.ups]
                 have hl1 : (ll.length : Int) - 1 = (last : Int) := by omega
                 have hl2 : last < ll.length := by omega
                 have HN19 : Hid (Try.RN W17 w19 z2 ⟨t, (cnt ll.length).length, none⟩ (.slice (some ⟨g19, 0, none⟩) ll.length cap19) (Wi.ups ll.length) w7.heap.size (Try.cn ll.length)) := hN19
                 clear hN19 hrow19 e192 hlast)
              | fail)
            have hRd19 : Try.Rd w19 own16 q ⟨t, 0, none⟩ := hRd16.keep (fun k e => by
              have hk1 := ho16 k e
              have hk2 := hRd16.lt k e
              exact (HN19.out.wo.block k (by omega) (by omega)).trans (hw17.block k hk2 (by omega))) (by have := HN19.out.wo.size; omega)
            have hbw19 : Below w.heap.size w w19 := Wo.toBelow (Wo.toBelow hbw16 hw17 (fun k e => by have := hbw7.size; omega) hbw16.size) HN19.out.wo (fun k e => by have := hbw7.size; omega) (by have := hbw16.size; omega)
            have hs19 := HN19.out.wo.size
            have HOK : Hid (∀ m : Int, m < ll.length → (Wi.thing ⟨t, 0, none⟩ m).1 = 0 ∧ (Wi.thing ⟨t, 0, none⟩ m).2.f = some 0) := HNON.out
            clear c19 cl19 hl1 hl2 hRd16 hc17 hB17 hw17 c16 f16
            go_upto_if 187 with fail
            go_cut [22] from 185 to 190 (fun v wx => ∃ m : Nat, v = .int .i64 m ∧ m ≤ 9223372036854775807 ∧ wx = w19)
            case first =>
              by_cases hneg : less < 0
              · have w1 : wrap64 (less + 1) = less + 1 := Wi.w64 _ (by have := HLE.out; omega) (by omega)
                have w2 : wrap64 (-(less + 1)) = -(less + 1) := Wi.w64 _ (by omega) (by have := HLE.out; omega)
                go_wp2
                go_meet
                case rel => exact ⟨(-(less + 1)).toNat, by rw [Int.toNat_of_nonneg (by omega), Wi.w64 _ (by omega) (by have := HLE.out; omega)], by have := HLE.out; omega, rfl⟩
              · go_wp2
                go_meet
                case rel => exact ⟨less.toNat, by rw [Int.toNat_of_nonneg (by omega)], by have := HLE.out; omega, rfl⟩
            case rest =>
              obtain ⟨m, rfl, hm, rfl⟩ := hcut
              have hmo : (m : Int) % (ll.length : Int) < ll.length := Int.emod_lt_of_pos _ (by omega)
              have hmz : 0 ≤ (m : Int) % (ll.length : Int) := Int.emod_nonneg _ (by omega)
              obtain ⟨k1, k2⟩ := HOK.out _ hmo
              have h20 := Try.readInts_none hRd19 ((m : Int) % (ll.length : Int)) (by unfold In64; omega) 36 k1
              clear k1
              have hta := Try.assertF6
              go_wp2_with (first
                | (go_at_call 34; refine h20.mono ?_; clear h20; rintro e w20 ⟨rfl, hC20⟩
                   obtain ⟨own20, hRd20, ho20⟩ := hC20.ex
                   have hRB20 : Try.RB w15.heap.size w20 w20 q _ := ⟨⟨own20, hRd20, fun k e => (ho20 k e).elim (fun e1 => ho16 k e1) (fun e1 => by omega)⟩, Below.refl _ _⟩
                   have h21 := hRB20.errSome k2
                   have hbw20 : Below w.heap.size w w20 := Wo.toBelow hbw19 hC20.wo (fun k e => by have := ho16 q hRd19.ox; have := hbw7.size; omega) hbw19.size
                   clear hRB20 hRd20 hC20)
                | (go_at_call 16; refine h21.mono ?_; clear h21; rintro e w21 ⟨z21, rfl, hz21, hR21⟩
                   have c0 := cell_of_row w21 _ 0 _ _ _ hz21
                   have c1 := cell_of_row w21 _ 1 _ _ _ hz21
                   have hbw21 : Below w.heap.size w w21 := hbw20.trans (hR21.bel.mono (by have := hbw7.size; omega))
                   clear hR21 hz21)
                | fail)
              go_ret
              exact ⟨rfl, hbw21⟩
end Go.Proofs
