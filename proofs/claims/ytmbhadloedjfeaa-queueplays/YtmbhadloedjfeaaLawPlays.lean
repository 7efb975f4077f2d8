/-
  QueuePlays: its walk.
-/
import Derived.Test.YtmbhadloedjfeaaRk
namespace Go.Proofs
open Go.RowKit Go.Wi Go.Qu
set_option maxHeartbeats 16000000 in
set_option maxRecDepth 20000 in
theorem Try.queuePlaysWalk (x1 x2 x3 y1 y2 y3 : Int) (v : Value) (l : List Qu.O) (w : World) (hI : Qu.Ops w v l) :
    Calls Try.prog 3 #[.agg #[.int .i64 x1, .int .i64 x2, .int .i64 x3], .agg #[.int .i64 y1, .int .i64 y2, .int .i64 y3], v] w fun z w' => z = .returned (.bool true) ∧ Below w.heap.size w w' := by
  obtain ⟨⟨ad, cap, rfl, hIv⟩, hib⟩ := hI
  have HIV : Hid (l = [] ∨ ∃ g o, ad = some ⟨g, o, none⟩ ∧ g < w.heap.size ∧ ∀ j (hj : j < l.length), Qu.oAt w g (o + j * 6) l[j]) := hIv
  have HIB : Hid _ := hib
  clear hIv hib
  have hsh := fun W => Try.shown_any W
  have hm1 := fun W => Try.made_any x1 x2 x3 W
  have hm2 := fun W => Try.made_any y1 y2 y3 W
  go_enter Try.func3, Try.ntmps3
  go_upto_region 1 with (fail)
  have hb0 : Below w.heap.size w ((w.alloc (.cells #[.int .i64 x1, .int .i64 x2, .int .i64 x3] 23)).alloc (.cells #[.int .i64 y1, .int .i64 y2, .int .i64 y3] 23)) := ((Below.refl _ w).alloc (Nat.le_refl _) _).alloc (by simp) _
  have z0 : ((w.alloc (.cells #[.int .i64 x1, .int .i64 x2, .int .i64 x3] 23)).alloc (.cells #[.int .i64 y1, .int .i64 y2, .int .i64 y3] 23)).heap.size = w.heap.size + 2 := by simp
  have cA : ∀ (j : Nat) u, #[Value.int .i64 x1, .int .i64 x2, .int .i64 x3][j]? = some u → ((w.alloc (.cells #[.int .i64 x1, .int .i64 x2, .int .i64 x3] 23)).alloc (.cells #[.int .i64 y1, .int .i64 y2, .int .i64 y3] 23)).cell? ⟨w.heap.size, j, none⟩ = some u := fun j u hu => by
    rw [World.cell?_alloc_past _ _ _ (by simp), World.cell?_alloc_new]; exact hu
  have cB : ∀ (j : Nat) u, #[Value.int .i64 y1, .int .i64 y2, .int .i64 y3][j]? = some u → ((w.alloc (.cells #[.int .i64 x1, .int .i64 x2, .int .i64 x3] 23)).alloc (.cells #[.int .i64 y1, .int .i64 y2, .int .i64 y3] 23)).cell? ⟨w.heap.size + 1, j, none⟩ = some u := fun j u hu => by
    rw [World.cell?_alloc_at _ _ _ _ (by simp)]; exact hu
  generalize (w.alloc (.cells #[.int .i64 x1, .int .i64 x2, .int .i64 x3] 23)).alloc (.cells #[.int .i64 y1, .int .i64 y2, .int .i64 y3] 23) = w0 at *
  have HCA : Hid _ := cA
  have HCB : Hid _ := cB
  have HB0 : Hid _ := hb0
  have HZ0 : Hid _ := z0
  clear cA cB hb0 z0
  go_wp2_with (first
    | (go_at_call 4; refine (hsh _).mono ?_; clear hsh; rintro z w1 ⟨rfl, hb1⟩; have k0 := (hb1.cell (p := ⟨w.heap.size, 0, none⟩) (by have := HZ0.out; show w.heap.size < w0.heap.size; omega)).trans (HCA.out 0 _ rfl); have k1 := (hb1.cell (p := ⟨w.heap.size, 1, none⟩) (by have := HZ0.out; show w.heap.size < w0.heap.size; omega)).trans (HCA.out 1 _ rfl); have k2 := (hb1.cell (p := ⟨w.heap.size, 2, none⟩) (by have := HZ0.out; show w.heap.size < w0.heap.size; omega)).trans (HCA.out 2 _ rfl); have HB1 : Hid _ := hb1; clear hb1)
    | (go_at_call 5; refine (hm1 _).mono ?_; clear hm1; rintro z w2 ⟨pv, rfl, ⟨o1, hP, ho1⟩, hb2⟩; have hb12 : Below w0.heap.size w0 w2 := HB1.out.trans (hb2.mono HB1.out.size); have i0 := (hb12.cell (p := ⟨w.heap.size + 1, 0, none⟩) (by have := HZ0.out; show w.heap.size + 1 < w0.heap.size; omega)).trans (HCB.out 0 _ rfl); have i1 := (hb12.cell (p := ⟨w.heap.size + 1, 1, none⟩) (by have := HZ0.out; show w.heap.size + 1 < w0.heap.size; omega)).trans (HCB.out 1 _ rfl); have i2 := (hb12.cell (p := ⟨w.heap.size + 1, 2, none⟩) (by have := HZ0.out; show w.heap.size + 1 < w0.heap.size; omega)).trans (HCB.out 2 _ rfl); have HP : Hid _ := hP; have HO1 : Hid _ := ho1; have HB12 : Hid _ := hb12; clear hb2 hP ho1 hb12 k0 k1 k2)
    | (go_at_call 5; refine (hm2 _).mono ?_; clear hm2; rintro z w3 ⟨qv, rfl, ⟨o2, hQ, ho2⟩, hb3⟩; have HQ : Hid _ := hQ; have HO2 : Hid _ := ho2; have HB3 : Hid _ := hb3; clear hb3 hQ ho2 i0 i1 i2)
    | fail)
  have HST : Hid (Try.P2 w.heap.size w3 pv qv 0 ∧ Below w.heap.size w w3) := by
    have a0 := HZ0.out
    have a1 := HB1.out.size
    have a2 := HB12.out.size
    have a3 := HB3.out.size
    refine ⟨⟨⟨o1, o2, HP.out.keep (fun k e => HB3.out.block k (HP.out.lt k e)) a3 (Nat.le_refl _), HQ.out, fun k e1 e2 => ?_, fun k e => ?_, fun k e => ?_⟩, by omega⟩, HB0.out.trans ((HB12.out.trans (HB3.out.mono (by omega))).mono (by omega))⟩
    · have := HP.out.lt k e1
      have := HO2.out k e2
      omega
    · have := HO1.out k e
      omega
    · have := HO2.out k e
      omega
  clear HP HO1 HQ HO2 HB12 HB3 HB1 HCA HCB HB0 HZ0
  have k1 : (1999 : Int) < 2000 := by omega
  have k2 : (2000 : Int) < 2001 := by omega
  generalize (2000 : Int) = K at *
  have HK : Hid _ := k1
  clear k1
  go_loopw [12] (fun iv wr => ∃ i : Nat, iv = .int .i64 i ∧ i ≤ l.length ∧ i ≤ 2000 ∧ Try.P2 w.heap.size wr pv qv i ∧ Below w.heap.size w wr) (fun iv _ => 2000 - (intOf iv).toNat)
  case atStart => exact ⟨0, rfl, by omega, by omega, HST.out.1, HST.out.2⟩
  case round =>
    obtain ⟨i, rfl, hil, hi1, hP, hbel⟩ := hrel
    clear HST
    by_cases hi : i < l.length ∧ i < 2000
    · obtain ⟨hi2, hi3⟩ := hi
      rcases HIV.out with h0 | ⟨g0, o, rfl, hg0, hcells⟩
      · rw [h0] at hi2; simp at hi2
      · obtain ⟨c0, c1, c2, c3, c4, c5⟩ := hcells i hi2
        have hb := HIB.out l[i] (List.getElem_mem hi2)
        generalize l[i] = O at *
        obtain ⟨ok, oh, oa, ob, oc, ot⟩ := O
        simp only at c0 c1 c2 c3 c4 c5 hb
        obtain ⟨hb1, hb2⟩ := hb
        have d0 := (hbel.cell (p := ⟨g0, o + i * 6, none⟩) hg0).trans c0
        have d1 := (hbel.cell (p := ⟨g0, o + i * 6 + 1, none⟩) hg0).trans c1
        have d2 := (hbel.cell (p := ⟨g0, o + i * 6 + 2, none⟩) hg0).trans c2
        have d3 := (hbel.cell (p := ⟨g0, o + i * 6 + 3, none⟩) hg0).trans c3
        have d4 := (hbel.cell (p := ⟨g0, o + i * 6 + 4, none⟩) hg0).trans c4
        have d5 := (hbel.cell (p := ⟨g0, o + i * 6 + 5, none⟩) hg0).trans c5
        have q1 : (i : Int) < (l.length : Int) := by omega
        have q2 : (i : Int) < K := by have := HK.out; omega
        have HI : Hid (i < l.length ∧ i < 2000) := ⟨hi2, hi3⟩
        have HBEL : Hid _ := hbel
        have HPM : Hid _ := hP.mono
        have him : i ≤ 100000 := by omega
        have hi0 : (0 : Int) ≤ (i : Int) := by omega
        clear c0 c1 c2 c3 c4 c5 hcells hi2 hi3 hil hi1 hbel HIV
        have hsp : ∀ p, pv = some ⟨p, 0, none⟩ → Calls Try.prog 6 #[.pointer (some ⟨p, 0, none⟩), .agg (Qu.opC ok oh oa ob oc ot)] wr fun e w' => e = .returned (.bool true) ∧ Try.P2 w.heap.size w' pv qv (i + 1) ∧ Below w.heap.size wr w' := fun p e => by subst e; exact hP.step him ok oh oa ob oc ot
        have hsq : ∀ p, qv = some ⟨p, 0, none⟩ → Calls Try.prog 6 #[.pointer (some ⟨p, 0, none⟩), .agg (Qu.opC ok oh oa ob oc ot)] wr fun e w' => e = .returned (.bool true) ∧ Try.P2 w.heap.size w' pv qv (i + 1) ∧ Below w.heap.size wr w' := fun p e => by subst e; exact (hP.swap.step him ok oh oa ob oc ot).mono fun e w' ⟨a1, a2, a3⟩ => ⟨a1, a2.swap, a3⟩
        obtain ⟨p1, p2, hP1, hP2, _, _, _⟩ := hP.ex
        have HSP : Hid (∀ p, pv = some ⟨p, 0, none⟩ → Calls Try.prog 6 #[.pointer (some ⟨p, 0, none⟩), .agg (Qu.opC ok oh oa ob oc ot)] wr fun e w' => e = .returned (.bool true) ∧ Try.P2 w.heap.size w' pv qv (i + 1) ∧ Below w.heap.size wr w') := hsp
        have HSQ : Hid (∀ p, qv = some ⟨p, 0, none⟩ → Calls Try.prog 6 #[.pointer (some ⟨p, 0, none⟩), .agg (Qu.opC ok oh oa ob oc ot)] wr fun e w' => e = .returned (.bool true) ∧ Try.P2 w.heap.size w' pv qv (i + 1) ∧ Below w.heap.size wr w') := hsq
        clear hP hsp hsq him
        have e1 := hP1.ex
        have e2 := hP2.ex
        clear hP1 hP2
        cases hbt : (bits BinOp.and IntKind.i64 oh 1 == 1) with
        | false =>
          rcases e1 with rfl | ⟨p, s1, rfl, _⟩
          · clear HSP HSQ
            go_wp2
            go_roundw
            case rel =>
              have hi := HI.out
              exact ⟨i + 1, by go_num, by omega, by omega, HPM.out, HBEL.out⟩
            case measure => simp [intOf]; have := HI.out; omega
          · have hs := HSP.out p rfl
            clear HSP HSQ HPM
            go_wp2_with (first
              | (go_at_call 6; refine hs.mono ?_; clear hs; rintro z w4 ⟨rfl, hP4, hb4⟩; have HP4 : Hid _ := hP4; have HB4 : Hid _ := hb4; clear hP4 hb4)
              | fail)
            go_roundw
            case rel =>
              have hi := HI.out
              exact ⟨i + 1, by go_num, by omega, by omega, HP4.out, HBEL.out.trans HB4.out⟩
            case measure => simp [intOf]; have := HI.out; omega
        | true =>
          rcases e2 with rfl | ⟨q, s1, rfl, _⟩
          · clear HSP HSQ
            go_wp2
            go_roundw
            case rel =>
              have hi := HI.out
              exact ⟨i + 1, by go_num, by omega, by omega, HPM.out, HBEL.out⟩
            case measure => simp [intOf]; have := HI.out; omega
          · have hs := HSQ.out q rfl
            clear HSP HSQ HPM
            go_wp2_with (first
              | (go_at_call 6; refine hs.mono ?_; clear hs; rintro z w4 ⟨rfl, hP4, hb4⟩; have HP4 : Hid _ := hP4; have HB4 : Hid _ := hb4; clear hP4 hb4)
              | fail)
            go_roundw
            case rel =>
              have hi := HI.out
              exact ⟨i + 1, by go_num, by omega, by omega, HP4.out, HBEL.out.trans HB4.out⟩
            case measure => simp [intOf]; have := HI.out; omega
    · have HBEL : Hid _ := hbel
      clear hP hbel HIV
      by_cases hi2 : (i : Int) < (l.length : Int)
      · have q2 : ¬ (i : Int) < K := by omega
        clear hi hil hi1
        go_wp2
        go_ret
        exact ⟨rfl, HBEL.out⟩
      · clear hi hil hi1
        go_wp2
        go_ret
        exact ⟨rfl, HBEL.out⟩
end Go.Proofs
