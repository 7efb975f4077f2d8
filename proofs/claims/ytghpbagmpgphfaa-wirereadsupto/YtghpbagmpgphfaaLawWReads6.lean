/-
  WireReads: the walk.
-/
import Derived.Test.YtghpbagmpgphfaaWqS
import Derived.Deep.DeepCutAuto
namespace Go.Proofs
open Go.RowKit Go.Wi
set_option maxRecDepth 4000 in
set_option maxHeartbeats 8000000 in
theorem Try.wireReadsWalk (v : Value) (b : List UInt8) (u : Value) (q : List Wi.Th) (w : World) (hB : Bs w v b) (hlen : b.length ≤ 1048576) (hP : Wi.Things w u q) :
    Calls Try.prog 3 #[v, u] w fun e w' => e = .returned (.bool true) ∧ Below w.heap.size w w' := by
  have h0 := Try.shown_any w
  obtain ⟨ad, cap, rfl, hcap, hn, h1⟩ := hB.ex
  obtain ⟨ua, ucap, rfl, hucap, hum, -⟩ := hP.ex
  have HB : Hid (Bs w (.slice ad b.length cap) b) := hB
  have HP : Hid (Wi.Things w (.slice ua q.length ucap) q) := hP
  have Hlen : Hid (b.length ≤ 1048576) := hlen
  have hum' : q.length ≤ 9223372036854775807 := Nat.le_trans hucap hum
  have hlb : b.length ≤ 1048576 := hlen
  clear hB hP hlen h1 hn hum
  go_enter Try.func3, Try.ntmps3
  go_upto_region 5 with (first
    | (go_at_call 4; refine h0.mono ?_; clear h0; rintro e w1 ⟨rfl, hb1⟩; have HB1 : Hid (Bs w1 (.slice ad b.length cap) b) := Wi.Bs.up HB.out hb1)
    | (at_make; refine Try.makeB rfl _ _ rfl _ (b.length + 8) rfl rfl (by have := Hlen.out; first | omega | (unfold wrap64; omega)) (by have := Hlen.out; omega) ?_; intro w2 hg2 hb2; have HB2 : Hid (Bs w2 (.slice ad b.length cap) b) := Wi.Bs.up HB1.out hb2; obtain ⟨w3, hrun3, hg3, hb3⟩ := Try.copyB w1.heap.size (List.replicate (b.length + 8) 0) (b.length + 8) hg2 (b.length + 8) (by simp) HB2.out (by simp) w1.heap.size w1 hb2 (Nat.le_refl _))
    | fail)
  have hD3 : b ++ (List.replicate (b.length + 8) (0 : UInt8)).drop b.length = Wi.gv b 0 := by
    rw [List.drop_replicate, show b.length + 8 - b.length = 8 by omega]; rfl
  rw [hD3] at hg3
  have HB3 : Hid (Bs w3 (.slice ad b.length cap) b) := Wi.Bs.up HB1.out hb3
  have HG3 : Hid (w3.heap[w1.heap.size]? = some (.cells (Lib.byteCells (Wi.gv b 0)).toArray 5 (0, 0))) := hg3
  have Hb3 : Hid (Below w1.heap.size w1 w3) := hb3
  have Hb1 : Hid (Below w.heap.size w w1) := hb1
  clear hD3 hg3 hb3 hb1 hg2 hb2 hrun3
  obtain ⟨g, hg⟩ : ∃ g, g = w1.heap.size := ⟨_, rfl⟩
  have Hg : Hid (g = w1.heap.size) := hg
  rw [← hg] at HG3 Hb3 ⊢
  clear hg
  go_loopw [7] (fun i wr => ∃ k : Nat, k ≤ 8 ∧ i = .int .i64 ((b.length + k : Nat) : Int) ∧ wr.heap[g]? = some (.cells (Lib.byteCells (Wi.gv b k)).toArray 5 (0, 0)) ∧ Below g w1 wr) (fun i _ => b.length + 8 - (intOf i).toNat)
  case atStart => exact ⟨0, Nat.zero_le _, rfl, HG3.out, Hb3.out⟩
  case round =>
    obtain ⟨k, hk, rfl, hrow, hbl⟩ := hrel
    clear HG3 Hb3
    by_cases hk8 : k < 8
    · have q0 : ((b.length + k : Nat) : Int) < ((b.length + 8 : Nat) : Int) := by omega
      have hln := Wi.gv_len b k hk
      obtain ⟨o1, c1⟩ : ∃ o : Nat, wr.cell? ⟨g, b.length + k, none⟩ = some (.int .u8 o) := ⟨((Wi.gv b k)[b.length + k]'(by omega)).toNat, by
        rw [cell_of_row wr g (b.length + k) _ _ _ hrow, List.getElem?_toArray, byteCell (by omega)]⟩
      have f1 := frozen_of_row wr g (b.length + k) _ _ hrow
      have hset := heap_setCell_same wr g (b.length + k) _ 5 (.int .u8 ((201 : UInt8).toNat : Nat)) hrow
      rw [Wi.bc_set, Wi.gv_set b k hk8] at hset
      have Hset : Hid ((wr.setCell ⟨g, b.length + k, none⟩ (.int .u8 201)).heap[g]? = some (.cells (Lib.byteCells (Wi.gv b (k + 1))).toArray 5 (0, 0))) := hset
      have Hbl : Hid (Below g w1 (wr.setCell ⟨g, b.length + k, none⟩ (.int .u8 201))) := hbl.setCell (p := ⟨g, b.length + k, none⟩) (Nat.le_refl _) _
      clear hset hbl hrow hln
      go_wp2
      go_roundw
      case rel => exact ⟨k + 1, by omega, by go_num, Hset.out, Hbl.out⟩
      case measure => simp [intOf]; omega
    · have q0 : ¬ ((b.length + k : Nat) : Int) < ((b.length + 8 : Nat) : Int) := by omega
      have hk8e : k = 8 := by omega
      subst hk8e
      obtain ⟨wa, hwa⟩ : ∃ wa : World, wa = wr := ⟨_, rfl⟩
      subst hwa
      have h8 : Wi.gv b 8 = Wi.tk b 0 := rfl
      rw [h8] at hrow
      have Hrow : Hid (wa.heap[g]? = some (.cells (Lib.byteCells (Wi.tk b 0)).toArray 5 (0, 0))) := hrow
      have hB4 : ∀ W, Below wa.heap.size wa W → Bs W (.slice (some ⟨g, 0, none⟩) b.length (b.length + 8)) b := fun W hW => by
        have h9 := Wi.bs_block hrow b.length (b.length + 8) (by rw [Wi.tk_len b 0 (by omega)]; omega) (by omega)
        have h10 : (Wi.tk b 0).take b.length = b := by show List.take _ (b ++ _) = b; rw [List.take_append_of_le_length (Nat.le_refl _), List.take_length]
        rw [h10] at h9
        exact Wi.Bs.up h9 hW
      have hgw : g < wa.heap.size := block_lt hrow
      have h4 := Try.newReader_any (hB4 wa (Below.refl _ _)) (by have := Hlen.out; omega)
      have Hbl : Hid (Below g w1 wa) := hbl
      clear hrow hbl h8
      go_upto_region 13 with (first
        | (go_at_call 5; refine h4.mono ?_; clear h4; rintro e w4 ⟨r, rfl, hR4, hb4⟩; have h5 := Try.newReader_any (hB4 w4 hb4) (by have := Hlen.out; omega))
        | (go_at_call 5; refine h5.mono ?_; clear h5; rintro e w5 ⟨rq, rfl, hR5, hb5⟩)
        | fail)
      have Hrow5 : Hid (w5.heap[g]? = some (.cells (Lib.byteCells (Wi.tk b 0)).toArray 5 (0, 0))) := (hb5.block g (by have := hb4.size; omega)).trans ((hb4.block g hgw).trans Hrow.out)
      have HR : Hid (Try.Rd w5 (fun k => wa.heap.size ≤ k ∧ k < w4.heap.size) r ⟨b, 0, none⟩ ∧ Try.Rd w5 (fun k => w4.heap.size ≤ k ∧ k < w5.heap.size) rq ⟨b, 0, none⟩) := ⟨hR4.below hb5, hR5⟩
      have Hsz : Hid (g < wa.heap.size ∧ wa.heap.size ≤ w4.heap.size ∧ w4.heap.size ≤ w5.heap.size) := ⟨hgw, hb4.size, hb5.size⟩
      have Hbl5 : Hid (Below g w1 w5) := (Hbl.out.trans (hb4.mono (Nat.le_of_lt hgw))).trans (hb5.mono (by have := hb4.size; omega))
      clear Hrow Hbl hB4 hgw hb4 hb5 hR4 hR5
      go_loopw [10, 11] (fun i _ wr => ∃ k : Nat, k ≤ b.length + 8 ∧ i = .int .i64 (k : Int) ∧ wr.heap[g]? = some (.cells (Lib.byteCells (Wi.tk b k)).toArray 5 (0, 0)) ∧ Wo (fun k => k = g) w5 wr) (fun i _ _ => b.length + 8 - (intOf i).toNat)
      case atStart => exact ⟨0, Nat.zero_le _, rfl, Hrow5.out, Wo.refl _ _⟩
      case round =>
        obtain ⟨k, hk, rfl, hrow, hwo⟩ := hrel
        clear Hrow5
        by_cases hk8 : k < b.length + 8
        · have q0 : (k : Int) < ((b.length + 8 : Nat) : Int) := by omega
          obtain ⟨hkl, hat⟩ := Wi.tk_at b k hk8
          have c1 : wr.cell? ⟨g, k, none⟩ = some (.int .u8 ((Wi.tk b k)[k].toNat : Nat)) := by
            rw [cell_of_row wr g k _ _ _ hrow, List.getElem?_toArray, byteCell (by omega)]
          have f1 := frozen_of_row wr g k _ _ hrow
          have hset := heap_setCell_same wr g k _ 5 (.int .u8 ((202 : UInt8).toNat : Nat)) hrow
          rw [Wi.bc_set, Wi.tk_set b k hk8] at hset
          have Hset : Hid ((wr.setCell ⟨g, k, none⟩ (.int .u8 202)).heap[g]? = some (.cells (Lib.byteCells (Wi.tk b (k + 1))).toArray 5 (0, 0))) := hset
          have Hwo : Hid (Wo (fun k => k = g) w5 (wr.setCell ⟨g, k, none⟩ (.int .u8 202))) := hwo.setCell g k _ (.inl rfl)
          by_cases hkb : k < b.length
          · have q1 : (k : Int) < (b.length : Int) := by omega
            rw [dif_pos hkb] at hat
            rw [hat] at c1
            have HBx : Bs wr (.slice ad b.length cap) b := Wi.Bs.up HB1.out (by rw [← Hg.out]; exact Wo.toBelow Hbl5.out hwo (fun k e => Nat.le_of_eq e.symm) (by have := Hsz.out; omega))
            obtain ⟨ad', cap', e, -, -, h11⟩ := HBx.ex
            have e1 : ad = ad' := by injection e
            subst e1
            rcases h11 with h11 | ⟨g2, o2, rfl, hg2, h11⟩
            · rw [h11] at hkb; exact absurd hkb (by simp)
            · have c2 := h11 k _ (byteCell hkb)
              generalize b[k] = bx at *
              clear h11 hset hwo hrow hat
              go_wp2
              go_roundw
              case rel => exact ⟨k + 1, by omega, by go_num, Hset.out, Hwo.out⟩
              case measure => simp [intOf]; omega
          · have q1 : ¬ (k : Int) < (b.length : Int) := by omega
            rw [dif_neg hkb] at hat
            rw [hat] at c1
            clear hset hwo hrow hat
            go_wp2
            go_roundw
            case rel => exact ⟨k + 1, by omega, by go_num, Hset.out, Hwo.out⟩
            case measure => simp [intOf]; omega
        · have q0 : ¬ (k : Int) < ((b.length + 8 : Nat) : Int) := by omega
          have hbx : Below w1.heap.size w1 wr := by rw [← Hg.out]; exact Wo.toBelow Hbl5.out hwo (fun k e => Nat.le_of_eq e.symm) (by have := Hsz.out; omega)
          have HBx : Hid (Bs wr (.slice ad b.length cap) b) := Wi.Bs.up HB1.out hbx
          have hRx : Try.Rd wr (fun k => wa.heap.size ≤ k ∧ k < w4.heap.size) r ⟨b, 0, none⟩ := HR.out.1.keep (fun k e => hwo.block k (HR.out.1.lt k e) (fun e2 => by have h1 := Hsz.out; have h2 : k = g := e2; have h3 : _ ∧ _ := e; omega)) hwo.size
          have hQx : Try.Rd wr (fun k => w4.heap.size ≤ k ∧ k < w5.heap.size) rq ⟨b, 0, none⟩ := HR.out.2.keep (fun k e => hwo.block k (HR.out.2.lt k e) (fun e2 => by have h1 := Hsz.out; have h2 : k = g := e2; have h3 : _ ∧ _ := e; omega)) hwo.size
          have HRx : Hid (Try.Rd wr (fun k => wa.heap.size ≤ k ∧ k < w4.heap.size) r ⟨b, 0, none⟩ ∧ Try.Rd wr (fun k => w4.heap.size ≤ k ∧ k < w5.heap.size) rq ⟨b, 0, none⟩) := ⟨hRx, hQx⟩
          have h6 := Try.xNew_any HBx.out (by have := Hlen.out; omega)
          have Hbx : Hid (Below w1.heap.size w1 wr) := hbx
          have Hsx : Hid (w5.heap.size ≤ wr.heap.size) := hwo.size
          clear hrow hwo hbx hRx hQx HR
          go_upto_region 25 with (first
            | (go_at_call 6; refine h6.mono ?_; clear h6; rintro e w6 ⟨x, rfl, hX6, hb6⟩; have h7 := Try.xNew_any (Wi.Bs.up HBx.out hb6) (by have := Hlen.out; omega))
            | (go_at_call 6; refine h7.mono ?_; clear h7; rintro e w7 ⟨y, rfl, hY7, hb7⟩)
            | fail)
          generalize hw8 : w7.alloc (Obj.cells #[.slice none 0 0, .slice none 0 0, .slice none 0 0, .slice none 0 0] 33) = w8
          have hkb8 : w8.heap[w7.heap.size]? = some (.cells #[.slice none 0 0, .slice none 0 0, .slice none 0 0, .slice none 0 0] 33 (0, 0)) := by rw [← hw8]; exact heap_alloc_new _ _
          have hb8 : Below w7.heap.size w7 w8 := by rw [← hw8]; exact (Below.refl _ _).alloc (Nat.le_refl _) _
          have hs6 := hb6.size
          have hs7 := hb7.size
          have hs1 := Hb1.out.size
          have hb68 : Below w6.heap.size w6 w8 := hb7.trans (hb8.mono hs7)
          have hb58 : Below wr.heap.size wr w8 := hb6.trans (hb68.mono hs6)
          have HP8 : Hid (Wi.Things w8 (.slice ua q.length ucap) q) := Wi.Things.up HP.out (Hb1.out.trans ((Hbx.out.trans (hb58.mono Hbx.out.size)).mono hs1))
          have HZ : Hid (Try.Zw w.heap.size w w8 r x rq y w7.heap.size ⟨b, 0, none⟩ ⟨b, 0, none⟩ ⟨b, 0, none⟩ ⟨b, 0, none⟩ 0 (.slice none 0 0) [] (.slice none 0 0) []) :=
            Try.Zw.start (a1 := wa.heap.size) (a2 := w4.heap.size) (a3 := w5.heap.size) (a4 := wr.heap.size) (a5 := w6.heap.size) (a6 := w7.heap.size) (HRx.out.1.below hb58) (HRx.out.2.below hb58) Hsx.out (hX6.keep (fun k e => hb68.block k (hX6.lt k e)) hb68.size) (hY7.keep (fun k e => hb8.block k (hY7.lt k e)) hb8.size) (by have h1 := Hsz.out; have h2 := Hg.out; omega) (Nat.le_refl _) (Try.KL.start hkb8) (Hb1.out.trans ((Hbx.out.trans (hb58.mono Hbx.out.size)).mono hs1))
          generalize w7.heap.size = kb at *
          clear hw8 hkb8 hb8 hs6 hs7 hs1 hb68 hb58 hb6 hb7 hX6 hY7 HRx Hbx Hsx HBx hlb
          go_loopw [15, 16, 17, 18, 19, 20, 21, 22] (fun i _ _ _ _ _ _ _ wr => ∃ (k N : Nat) (sA sB : Rs), k ≤ q.length ∧ k ≤ 1000 ∧ N ≤ 8 * k ∧ i = .int .i64 (k : Int) ∧ Try.Zw w.heap.size w wr r x rq y kb sA sA sB sB N (.slice none 0 0) [] (.slice none 0 0) [] ∧ sA.t = b ∧ sB.t = b) (fun i _ _ _ _ _ _ _ _ => q.length - (intOf i).toNat)
          case atStart => exact ⟨0, 0, _, _, Nat.zero_le _, Nat.zero_le _, Nat.zero_le _, rfl, HZ.out, rfl, rfl⟩
          case round =>
            obtain ⟨k, N, sA, sB, hk, hk1, hN, rfl, hZ, hA, hBt⟩ := hrel
            have HN : Hid (N ≤ 8 * k) := hN
            have HtA0 : Hid (sA.t = b ∧ sB.t = b) := ⟨hA, hBt⟩
            clear HZ hN hA hBt
            by_cases hkq : k < q.length
            · by_cases hk2 : k < 1000
              · have q0 : (k : Int) < (q.length : Int) := by omega
                have q1 : (k : Int) < 1000 := by omega
                obtain ⟨p, hp⟩ : ∃ p, q[k]? = some p := ⟨_, List.getElem?_eq_getElem hkq⟩
                obtain ⟨ad', cap', e, -, -, hP2⟩ := (Wi.Things.up HP.out hZ.bel).ex
                cases e
                rcases hP2 with hP2 | ⟨pb, po, rfl, hpb, hP2⟩
                · rw [hP2] at hkq; exact absurd hkq (by simp)
                · obtain ⟨c0, c1, c2, c3, c4⟩ := hP2 k p hp
                  obtain ⟨hok1, hok2, la, ln, lc, hlv⟩ := HP.out.ok p (List.mem_of_getElem? hp)
                  obtain ⟨tA, iA⟩ := Wi.aft_on p sA hZ.inn
                  obtain ⟨tB, iB⟩ := Wi.aft_on p sB hZ.swap.inn
                  have HtA : Hid ((Wi.aft p sA).t = b) := tA.trans HtA0.out.1
                  have HtB1 : Hid ((Wi.aft p sB).t = b) := tB.trans HtA0.out.2
                  have h4 := Try.reads_any hZ p hok1 hok2 ⟨la, ln, lc, hlv⟩ (by have := HN.out; omega) (by rw [HtA0.out.1]; have := Hlen.out; omega)
                  have Hok : Hid ((In64 p.k ∧ In64 p.n) ∧ p.lv = .slice la ln lc) := ⟨⟨hok1, hok2⟩, hlv⟩
                  rw [hlv] at c4
                  have hv : Wi.thV p = .agg #[.int .i64 p.k, .int .i64 p.n, .bool p.y, .string p.s, .slice la ln lc] := by unfold Wi.thV; rw [hlv]
                  rw [hv] at h4
                  obtain ⟨sA', hsA⟩ : ∃ s', s' = Wi.aft p sA := ⟨_, rfl⟩
                  rw [← hsA] at h4 HtA
                  have HBel : Hid (∀ W, Below w.heap.size w W → W.cell? ⟨pb, po + k * 5, none⟩ = some (.int .i64 p.k) ∧ W.cell? ⟨pb, po + k * 5 + 1, none⟩ = some (.int .i64 p.n) ∧ W.cell? ⟨pb, po + k * 5 + 2, none⟩ = some (.bool p.y) ∧ W.cell? ⟨pb, po + k * 5 + 3, none⟩ = some (.string p.s) ∧ W.cell? ⟨pb, po + k * 5 + 4, none⟩ = some (.slice la ln lc)) := fun W hW => by
                    obtain ⟨ad2, cap2, e2, -, -, hP3⟩ := (Wi.Things.up HP.out hW).ex
                    cases e2
                    rcases hP3 with hP3 | ⟨pb2, po2, e3, -, hP3⟩
                    · rw [hP3] at hp; cases hp
                    · cases e3
                      have := hP3 k p hp
                      rw [Hok.out.2] at this
                      exact this
                  clear hP2 hok1 hok2 hlv hv tA tB iA iB hsA hZ hp
                  have hrem : ((k : Int).tmod 2) = ((k % 2 : Nat) : Int) := rfl
                  by_cases hpar : k % 2 = 1
                  · have q2 : ((k % 2 : Nat) : Int) = 1 := by omega
                    obtain ⟨sB', hsB⟩ : ∃ s', s' = Wi.aft p sB := ⟨_, rfl⟩
                    have HtB : Hid (sB'.t = b) := by show _ = _; rw [hsB]; exact HtB1.out
                    have HsB : Hid (sB' = Wi.aft p sB) := hsB
                    clear hsB hpar
                    go_upto_region 33 with (first
                      | (go_at_call 7; refine h4.mono ?_; clear h4; rintro e w5 ⟨rfl, N5, hN5, hZ5⟩; obtain ⟨d0, d1, d2, d3, d4⟩ := HBel.out w5 hZ5.bel; have h5 := Try.reads_any hZ5.swap p Hok.out.1.1 Hok.out.1.2 ⟨la, ln, lc, Hok.out.2⟩ (by have := HN.out; omega) (by rw [HtA0.out.2]; have := Hlen.out; omega); rw [← HsB.out] at h5; unfold Wi.thV at h5; rw [Hok.out.2] at h5; clear hZ5)
                      | (go_at_call 7; refine h5.mono ?_; clear h5; rintro e w6 ⟨rfl, N6, hN6, hZ6s⟩; have hZ6 := hZ6s.swap; clear hZ6s)
                      | fail)
                    clear d0 d1 d2 d3 d4 c0 c1 c2 c3 c4
                    cases hf : sA'.f with
                    | none =>
                      have hF := hZ6.faultNone hf
                      have hE := hZ6.errNone hf
                      have HZ9 : Hid (Try.Zw w.heap.size w w6 r x rq y kb sA' sA' sB' sB' N6 (.slice none 0 0) [] (.slice none 0 0) []) := hZ6
                      clear hZ6 hf
                      go_wp2_with (first
                        | (go_at_call 8; refine hF.mono ?_; clear hF; rintro e w9 ⟨rfl, rfl⟩)
                        | (go_at_call 9; refine hE.mono ?_; clear hE; rintro e w9 ⟨rfl, rfl⟩)
                        | fail)
                      go_roundw
                      case rel => exact ⟨k + 1, N6, sA', sB', by omega, by omega, by have := HN.out; omega, by go_num, HZ9.out, HtA.out, HtB.out⟩
                      case measure => simp [intOf]; omega
                    | some a =>
                      have hF := hZ6.faultSome hf
                      have hE := hZ6.errSome hf
                      clear hZ6 hf
                      go_wp2_with (first
                        | (go_at_call 8; refine hF.mono ?_; clear hF; rintro e w9 ⟨rfl, rfl⟩)
                        | (go_at_call 9; refine hE.mono ?_; clear hE; rintro e w10 ⟨z, rfl, hz, hZ10⟩; have hta := Try.assertFault z w10; have z0 := cell_of_row w10 z 0 _ _ _ hz; have z1 := cell_of_row w10 z 1 _ _ _ hz)
                        | fail)
                      go_roundw
                      case rel => exact ⟨k + 1, N6, sA', sB', by omega, by omega, by have := HN.out; omega, by go_num, hZ10, HtA.out, HtB.out⟩
                      case measure => simp [intOf]; omega
                  · have q2 : ((k % 2 : Nat) : Int) = 0 := by omega
                    have HtB : Hid (sB.t = b) := HtA0.out.2
                    clear hpar
                    go_upto_region 33 with (first
                      | (go_at_call 7; refine h4.mono ?_; clear h4; rintro e w5 ⟨rfl, N5, hN5, hZ5⟩)
                      | fail)
                    clear c0 c1 c2 c3 c4
                    cases hf : sA'.f with
                    | none =>
                      have hF := hZ5.faultNone hf
                      have hE := hZ5.errNone hf
                      have HZ9 : Hid (Try.Zw w.heap.size w w5 r x rq y kb sA' sA' sB sB N5 (.slice none 0 0) [] (.slice none 0 0) []) := hZ5
                      clear hZ5 hf
                      go_wp2_with (first
                        | (go_at_call 8; refine hF.mono ?_; clear hF; rintro e w9 ⟨rfl, rfl⟩)
                        | (go_at_call 9; refine hE.mono ?_; clear hE; rintro e w9 ⟨rfl, rfl⟩)
                        | fail)
                      go_roundw
                      case rel => exact ⟨k + 1, N5, sA', sB, by omega, by omega, by have := HN.out; omega, by go_num, HZ9.out, HtA.out, HtB.out⟩
                      case measure => simp [intOf]; omega
                    | some a =>
                      have hF := hZ5.faultSome hf
                      have hE := hZ5.errSome hf
                      clear hZ5 hf
                      go_wp2_with (first
                        | (go_at_call 8; refine hF.mono ?_; clear hF; rintro e w9 ⟨rfl, rfl⟩)
                        | (go_at_call 9; refine hE.mono ?_; clear hE; rintro e w10 ⟨z, rfl, hz, hZ10⟩; have hta := Try.assertFault z w10; have z0 := cell_of_row w10 z 0 _ _ _ hz; have z1 := cell_of_row w10 z 1 _ _ _ hz)
                        | fail)
                      go_roundw
                      case rel => exact ⟨k + 1, N5, sA', sB, by omega, by omega, by have := HN.out; omega, by go_num, hZ10, HtA.out, HtB.out⟩
                      case measure => simp [intOf]; omega
              · have q0 : (k : Int) < (q.length : Int) := by omega
                have q1 : ¬ (k : Int) < 1000 := by omega
                have hbel := hZ.bel
                clear hZ
                go_wp2
                go_ret
                exact ⟨rfl, hbel⟩
            · have q0 : ¬ (k : Int) < (q.length : Int) := by omega
              have hbel := hZ.bel
              clear hZ
              go_wp2
              go_ret
              exact ⟨rfl, hbel⟩
end Go.Proofs
