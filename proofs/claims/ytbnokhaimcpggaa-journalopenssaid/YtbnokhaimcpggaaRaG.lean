/-
  Laid together by packg.py of OqG OqH LawJOpens OIn.
-/
import Derived.Test.YtbnokhaimcpggaaRaF
import Derived.Test.YtbnokhaimcpggaaPOpD
import Derived.Test.YtbnokhaimcpggaaRaE
import Derived.Deep.SlicePairs
import Derived.OpenShut
import Derived.SizedLaws
import Derived.Carry
namespace Go.Proofs
open Go.RowKit Go.Dk
/-- A pair of like disks, each in blocks of its own, above a floor B; no journal is open. -/
structure Try.Two0 (w0 w : World) (p x xr n m : Nat) (s : DS) (own own2 : Nat → Prop) : Prop where
  pb : Try.Pbx w p (.pointer (some ⟨x, 0, none⟩)) (.pointer (some ⟨xr, 0, none⟩)) (.pointer none) (.pointer none) (.slice none 0 0) (.slice none 0 0)
  d : Try.Dsk w own x s
  r : Try.Rf w own2 xr s
  sep : ∀ k, own k → ¬ own2 k
  po : ¬ own p
  po2 : ¬ own2 p
  lo : ∀ k, own k → w0.heap.size ≤ k
  lo2 : ∀ k, own2 k → w0.heap.size ≤ k
  lp : w0.heap.size ≤ p
  bel : Below w0.heap.size w0 w
  hn : s.n = n
  fs : s.fset = false
  can : s.Can m
theorem Try.Two0.below {w0 w w' : World} {p x xr n m : Nat} {s : DS} {own own2 : Nat → Prop} (h : Try.Two0 w0 w p x xr n m s own own2) (g : Below w.heap.size w w') : Try.Two0 w0 w' p x xr n m s own own2 :=
  ⟨(g.block p (Dk.block_lt h.pb)).trans h.pb, h.d.below g, h.r.keep (fun k e => g.block k (h.r.lt k e)) g.size, h.sep, h.po, h.po2, h.lo, h.lo2, h.lp, h.bel.trans (g.mono h.bel.size), h.hn, h.fs, h.can⟩
set_option maxRecDepth 20000 in
set_option maxHeartbeats 2000000 in
theorem Try.begins_ok (w : World) (n : Nat) (h8 : 8 ≤ n) (hn : n ≤ 4096) :
    Calls Try.prog 6 #[.int .i64 n] w fun e w' => ∃ p x xr own own2, e = .returned (.tuple #[.pointer (some ⟨p, 0, none⟩), .bool true]) ∧ Try.Two0 w w' p x xr n 1000000 (Dk.new n) own own2 := by
  have k1 := Try.new_dsk w n h8 hn
  have k2 := fun W => Try.rNew_ok W n h8 hn
  have HH : Hid (8 ≤ n ∧ n ≤ 4096) := ⟨h8, hn⟩
  clear h8 hn
  go_enter Try.func6, Try.ntmps6
  go_wp2_with (first
    | (go_at_call 14; refine k1.mono ?_; clear k1; rintro e w1 ⟨x, own, rfl, hD, hlo, hb1⟩; have k3 := k2 w1; clear k2; have HD : Hid _ := hD; have HLO : Hid _ := hlo; have HB1 : Hid _ := hb1; clear hD hlo hb1)
    | (go_at_call 19; refine k3.mono ?_; clear k3; rintro e w2 hR; obtain ⟨xr, Lv, rfl, hRf, hb2, hx2, hL2⟩ := hR.ex; have HRF : Hid _ := hRf; have HB2 : Hid _ := hb2; have HX2 : Hid _ := hx2; have HL2 : Hid _ := hL2; clear hR hRf hb2 hx2 hL2)
    | fail)
  go_ret2
  have hD := HD.out
  have hb1 := HB1.out
  have hb2 := HB2.out
  have hb3 := Dk.belowA w2 (.cells #[.pointer (some ⟨x, 0, none⟩), .pointer (some ⟨xr, 0, none⟩), .pointer none, .pointer none, .slice none 0 0, .slice none 0 0] 34)
  have hs1 := hb1.size
  have hs2 := hb2.size
  have hft := HRF.out.foot_lt
  have hlo2 : ∀ k, Dk.rfoot xr Lv (.slice none 0 0) k → w1.heap.size ≤ k := fun k e => by
    rcases e with e | e | e
    · have := HX2.out; omega
    · exact HL2.out k e
    · cases e
  refine ⟨w2.heap.size, x, xr, own, Dk.rfoot xr Lv (.slice none 0 0), rfl, ⟨heap_alloc_new w2 _, (hD.below hb2).below hb3, ⟨⟨Lv, _, _, _, _, HRF.out.keep fun j e => hb3.block j (hft j e), fun j e => e⟩, fun k e => Nat.lt_of_lt_of_le (hft k e) hb3.size⟩, fun k e1 e2 => ?_, fun e => ?_, fun e => ?_, HLO.out, fun k e => ?_, by omega, ?_, rfl, rfl, new_can n⟩⟩
  · have := hD.lt k e1; have := hlo2 k e2; omega
  · have := hD.lt _ e; omega
  · have := hft _ e; omega
  · have := hlo2 k e; omega
  · exact hb1.trans ((hb2.mono hs1).trans (hb3.mono (by omega)))
end Go.Proofs
namespace Go.Proofs
open Go.RowKit Go.Dk
theorem Try.open_disks {w : World} {own own2 own3 : Nat → Prop} {G0 q0 p x xr : Nat} {jv kv lv mv : Value} {hs : List Dk.Ho} {ms : List UInt8} {s : DS} (hp : Try.Pbx w p (.pointer (some ⟨x, 0, none⟩)) (.pointer (some ⟨xr, 0, none⟩)) jv kv lv mv) (h : Try.Hold w own3 G0 q0 lv mv hs ms) (hm : hs.map (·.m) = ms) (hn : ∀ x ∈ hs, x.n ≤ 900000) (hpo : ¬ own3 p)
    (hd : Try.Dsk w own x s) (hr : Try.Rf w own2 xr s) (ha : s.dead = false) (h8 : 8 ≤ s.n) (h47 : s.n ≤ 47) (hlen : hs.length ≤ 80000) :
    Calls Try.prog 11 #[.pointer (some ⟨p, 0, none⟩)] w fun r w' => r = .returned (.bool true) ∧ ∃ m, m ≤ 1408 ∧ Try.Opnd w w' own3 p (.pointer (some ⟨x, 0, none⟩)) (.pointer (some ⟨xr, 0, none⟩)) hs m := by
  have hvl := hd.len.1
  have hH : half s.n ≤ 22 := by unfold half; omega
  have k1 := Try.open_disk hd ha h8
  have k2 : ∀ W, Below w.heap.size w W → Calls Try.prog 23 #[.pointer (some ⟨xr, 0, none⟩)] W _ := fun W hW => by
    obtain ⟨Lv, Wv, a, b, c, hm', -⟩ := (hr.keep (w' := W) (fun k e => hW.block k (hr.lt k e)) hW.size).ex
    exact Try.xOpen_any hm' ha h8
  cases hc : counting s.view s.n with
  | none =>
    refine (Try.open_core hp h hm hn hpo 50 [] [] (by simp; omega) (by simp) (by simp) (k1.mono fun r w1 hh => ?_) (fun W hW => (k2 W hW).mono fun r w1 hh => ?_)).mono fun r w' ⟨e1, e2⟩ => ⟨e1, 0, by omega, e2⟩
    · rcases hh with ⟨-, e1, e2, e3⟩ | ⟨H, y, sn, rv, e0, -⟩
      · exact ⟨_, _, _, _, e1, Try.Cme.no e2 e3, .inl ⟨by omega, rfl⟩⟩
      · rw [hc] at e0; cases e0
    · rcases hh with ⟨-, e1, e2⟩ | ⟨H, y, sn, rv, e0, -⟩
      · exact ⟨_, _, _, e1, Try.Cmd.no e2, .inl ⟨by omega, rfl⟩⟩
      · rw [hc] at e0; cases e0
  | some H =>
    obtain ⟨s1, s2, s3⟩ := Dk.counting_small hc
    have hal := Dk.area_len hvl (by omega) (side := H.side) s1
    have hcl := (Dk.cut_len (area s.view s.n H.side) _ H.size (Nat.le_refl _)).1
    refine (Try.open_core hp h hm hn hpo 0 ((area s.view s.n H.side).take H.size) (cut (area s.view s.n H.side) H.size).1 (by omega) (by rw [List.length_take]; omega) (Dk.cut_small _ H.size _ rfl) (k1.mono fun r w1 hh => ?_) (fun W hW => (k2 W hW).mono fun r w1 hh => ?_)).mono fun r w' ⟨e1, e2⟩ => ⟨e1, _, by omega, e2⟩
    · rcases hh with ⟨e0, -⟩ | ⟨H', y, sn, rv, e0, e1, e2⟩
      · rw [hc] at e0; cases e0
      · rw [hc] at e0; cases e0
        obtain ⟨G, hG⟩ := Try.Cme.of e2 (by omega) (by omega)
        exact ⟨_, _, _, G, e1, hG, .inr ⟨rfl, y, rfl⟩⟩
    · rcases hh with ⟨e0, -⟩ | ⟨H', y, sn, rv, e0, e1, e2⟩
      · rw [hc] at e0; cases e0
      · rw [hc] at e0; cases e0
        exact ⟨_, _, _, e1, Try.Cmd.of e2, .inr ⟨rfl, y, rfl⟩⟩
end Go.Proofs
namespace Go.Proofs
open Go.RowKit Go.Dk
def Dk.chk (l : List UInt8) (i : Nat) : List UInt8 := (l.drop (64 * i)).take 64
theorem Dk.srcRow {w : World} {B n : Nat} {T : TypeId} {V : Value} {b : List UInt8} (h : w.ownsRow B T 1 V n (Lib.byteCells b)) : Dk.Src w V b := by
  have hl := h.1
  rw [Dk.byteCells_len, Nat.mul_one] at hl
  rcases h.2 with ⟨e, e0⟩ | ⟨g, c, cur, e, -, hh, -⟩
  · have : b = [] := List.eq_nil_of_length_eq_zero (by omega)
    subst this
    exact ⟨none, 0, e, .inl rfl⟩
  · subst e
    refine ⟨_, c, by rw [hl], .inr ⟨g, 0, rfl, Dk.block_lt hh, fun j u hj => ?_⟩⟩
    have := h.cells (g := g) rfl j u hj
    rwa [Addr.add_mid] at this
set_option maxRecDepth 20000 in
set_option maxHeartbeats 8000000 in
theorem Try.journalOpensWalk (b : Int) (v1 : Value) (l : List UInt8) (w : World) (h1 : -9223372036854775808 ≤ b ∧ b ≤ 9223372036854775807) (hP : Dk.Src w v1 l) (hl : l.length ≤ 140737488351232) :
    Calls Try.prog 3 #[.int .i64 b, v1] w fun e w' => e = .returned (.bool true) ∧ Below w.heap.size w w' := by
  have hpn := Dk.pickN_lt b (n := 40) (by omega)
  have haw := Try.awake_any w
  have hpk : ∀ W, Calls Try.prog 7 #[.int .i64 b, .int .i64 40] W fun e w' => e = .returned (.int .i64 (Dk.pickN b 40)) ∧ w' = W := fun W => Try.pick_any b 40 (by omega) (by omega) h1.1 h1.2 W
  obtain ⟨P, hPe⟩ : ∃ P, P = Dk.pickN b 40 := ⟨_, rfl⟩
  rw [← hPe] at hpn hpk
  have hbg : ∀ W, Calls Try.prog 6 #[.int .i64 (8 + (P : Int))] W _ := fun W => by
    have := Try.begins_ok W (8 + P) (by omega) (by omega)
    rw [show ((8 + P : Nat) : Int) = 8 + (P : Int) by omega] at this
    exact this
  obtain ⟨va, vc, rfl, hPc⟩ := hP.ex
  have HP : Hid (∀ (j : Nat) (c : UInt8), l[j]? = some c → ∃ g o, va = some ⟨g, o, none⟩ ∧ g < w.heap.size ∧ w.cell? ⟨g, o + j, none⟩ = some (.int .u8 (c.toNat : Nat))) := fun j c hj => by
    have hjl := (List.getElem?_eq_some_iff.1 hj).1
    have hje := (List.getElem?_eq_some_iff.1 hj).2
    rcases hPc with e | ⟨g, o, e1, e2, e3⟩
    · subst e; simp at hj
    · exact ⟨g, o, e1, e2, e3 j _ (by rw [Dk.byteCell hjl, hje])⟩
  obtain ⟨L, hL⟩ : ∃ L, L = l.length := ⟨_, rfl⟩
  rw [← hL] at hl
  have HL : Hid (L = l.length) := hL
  obtain ⟨n, hn⟩ : ∃ n, n = 8 + P := ⟨_, rfl⟩
  have HN : Hid (n = 8 + P) := hn
  have hn8 : 8 ≤ n := by omega
  have hn47 : n ≤ 47 := by omega
  rw [← hL]
  clear hP hPc h1 hPe hL
  go_enter Try.func3, Try.ntmps3
  go_upto_region 6 with (first
    | (go_at_call 5; refine haw.mono ?_; clear haw; rintro e w1 ⟨rfl, hb1⟩)
    | (go_at_call 7; refine (hpk w1).mono ?_; clear hpk; rintro e w2 ⟨rfl, e5⟩; have e6 := e5.symm; clear e5; subst e6)
    | (go_at_call 6; refine (hbg w1).mono ?_; clear hbg; rintro e w3 ⟨p, x, xr, own0, own20, rfl, hT⟩; have HT : Hid _ := hT; clear hT)
    | fail)
  have hT0 := HT.out
  rw [← HN.out] at hT0
  have HB1 : Hid (Below w.heap.size w w1) := hb1
  have hs1 := hb1.size
  clear HT hb1 hn hpn
  have hlo := hT0.bel
  have d1 : w3.cell? ⟨p, 1, none⟩ = some (.pointer (some ⟨xr, 0, none⟩)) := cell_of_row _ _ _ _ _ _ hT0.pb
  clear d1
  go_wp2
  go_loopw [8] (fun i wr => ∃ (k : Nat) (s : DS) (own own2 : Nat → Prop), k ≤ n ∧ i = .int .i64 k ∧ Try.Two0 w1 wr p x xr n (1000 - k) s own own2) (fun i _ => n - (intOf i).toNat)
  case atStart => exact ⟨0, _, _, _, Nat.zero_le _, rfl, { hT0 with can := hT0.can.mono (by omega) }⟩
  case round =>
    obtain ⟨k, s, own, own2, hk, rfl, hT⟩ := hrel
    have d0 : wr.cell? ⟨p, 0, none⟩ = some (.pointer (some ⟨x, 0, none⟩)) := cell_of_row _ _ _ _ _ _ hT.pb
    have d1 : wr.cell? ⟨p, 1, none⟩ = some (.pointer (some ⟨xr, 0, none⟩)) := cell_of_row _ _ _ _ _ _ hT.pb
    have kbl : Calls Try.prog 8 #[.pointer (some ⟨xr, 0, none⟩)] wr fun e w' => e = .returned (.int .i64 n) ∧ w' = wr := by
      obtain ⟨Lv, Wv, a, bb, c, hm, -⟩ := hT.r.ex
      have := Try.rBlocks_any hm
      rw [hT.hn] at this
      exact this
    have HT : Hid _ := hT
    by_cases hkn : k < n
    · have q0 : (k : Int) < (n : Int) := by omega
      obtain ⟨z, hz⟩ : ∃ z, z = 64 * k := ⟨_, rfl⟩
      have q1 : (64 : Int) * (k : Int) = (z : Int) := by omega
      have hz9 : z ≤ 3000 := by omega
      obtain ⟨C, hC⟩ : ∃ C, C = Dk.chk l k := ⟨_, rfl⟩
      have hCl : C.length ≤ 64 := by rw [hC]; unfold Dk.chk; rw [List.length_take]; omega
      have hCL : C.length = min 64 (L - z) := by rw [hC, HL.out, hz]; unfold Dk.chk; rw [List.length_take, List.length_drop]
      have hCj : ∀ (j : Nat) (c : UInt8), C[j]? = some c → l[z + j]? = some c := fun j c hj => by
        have hj64 : j < 64 := by have := (List.getElem?_eq_some_iff.1 hj).1; omega
        rw [hC] at hj
        unfold Dk.chk at hj
        rw [List.getElem?_take, if_pos hj64, List.getElem?_drop, ← hz] at hj
        exact hj
      have HCL : Hid _ := hCL
      have HCJ : Hid _ := hCj
      clear hz hC hCL hCj hT
      go_upto_region 10 with (first
        | (go_at_call 8; refine kbl.mono ?_; clear kbl; rintro e w5 ⟨rfl, e5⟩; have e6 := e5.symm; clear e5; subst e6)
        | fail)
      generalize wr = wa at *
      go_loopw [9, 10] (fun v q wr => ∃ j : Nat, j ≤ C.length ∧ q = .int .i64 ((z + j : Nat) : Int) ∧ wr.ownsRow wa.heap.size 5 1 v j (Lib.byteCells (C.take j)) ∧ Below wa.heap.size wa wr) (fun _ q _ => z + 64 - (intOf q).toNat)
      case atStart => exact ⟨0, Nat.zero_le _, by simp, World.ownsRow_nil _ _ _ _, Below.refl _ _⟩
      case round =>
        obtain ⟨j, hj, rfl, hrow, hbr⟩ := hrel
        obtain ⟨zj, hzj⟩ : ∃ zj, zj = z + j := ⟨_, rfl⟩
        rw [← hzj]
        by_cases hjc : j < C.length
        · have hcl := HCL.out
          have q2 : (zj : Int) < (z : Int) + 64 := by omega
          have q3 : (zj : Int) < (L : Int) := by omega
          obtain ⟨c, hc⟩ : ∃ c, C[j]? = some c := ⟨_, List.getElem?_eq_getElem hjc⟩
          obtain ⟨g, o, rfl, hg, gc⟩ := HP.out (z + j) c (HCJ.out j c hc)
          have hw1a : Below w1.heap.size w1 wr := HT.out.bel.trans (hbr.mono HT.out.bel.size)
          have gc2 : wr.cell? ⟨g, o + zj, none⟩ = some (.int .u8 (c.toNat : Nat)) := by
            rw [hzj]
            exact (hw1a.cell (p := ⟨g, o + (z + j), none⟩) (by show g < w1.heap.size; omega)).trans ((HB1.out.cell (p := ⟨g, o + (z + j), none⟩) hg).trans gc)
          have htk : C.take (j + 1) = C.take j ++ [c] := by rw [List.take_add_one, hc]; rfl
          have HTKE : Hid _ := htk
          have HZJ : Hid (zj = z + j) := hzj
          clear gc hc htk hcl hw1a hzj
          go_upto_region 11 with (first
            | (at_builtin; refine Try.xApp1 rfl _ _ rfl hrow hbr.size (by omega) c _ rfl rfl rfl ?_; intro V2 w2 hrow2 hb2)
            | fail)
          rw [← HTKE.out] at hrow2
          have hb3 : Below wa.heap.size wa w2 := hbr.trans hb2
          go_wp2
          go_roundw
          case rel => exact ⟨j + 1, by omega, by rw [HZJ.out]; go_num, hrow2, hb3⟩
          case measure => have := HZJ.out; simp [intOf]; omega
        · have hcl := HCL.out
          obtain rfl : j = C.length := by omega
          rw [List.take_of_length_le (Nat.le_refl _)] at hrow
          have hT := HT.out.below hbr
          have hsrc := Dk.srcRow hrow
          have hbf : s.blow = false := by unfold DS.blow; rw [hT.fs]; rfl
          have hcan : s.Can ((999 - k) + 1) := by have := hT.can; rwa [show 1000 - k = 999 - k + 1 by omega] at this
          have hop := DS.Can.op hcan (.wr k C) hbf
          have hput : (s.op (.wr k C)).1 = s.put k C := by simp [DS.op, hbf]
          have hfree := (op_free s (.wr k C) hT.fs).2
          have hw := Try.write_op hT.d hcan k (by rw [hT.hn]; exact hkn) C hCl _ hsrc
          rw [hop.1, if_pos rfl] at hw
          obtain ⟨s', hs'⟩ : ∃ s', s' = (s.op (.wr k C)).1 := ⟨_, rfl⟩
          have hs'n : s'.n = n := by rw [hs', DS.op_n, hT.hn]
          rw [← hs'] at hw hop hfree hput
          have hcan' := hop.2
          have e0 : wr.cell? ⟨p, 0, none⟩ = some (.pointer (some ⟨x, 0, none⟩)) := cell_of_row _ _ _ _ _ _ hT.pb
          have hrb : ∀ b, own b → b < wa.heap.size := HT.out.d.lt
          have HTW : Hid _ := hT
          have hrlt := hrow.lt
          have HROW : Hid _ := hrow
          have HBR : Hid (Below wa.heap.size wa wr) := hbr
          have HPUT : Hid (s' = s.put k C) := hput
          have HFREE : Hid (s'.fset = false) := hfree
          have HCAN' : Hid _ := hcan'
          have HSN : Hid (s'.n = n) := hs'n
          have HCL2 : Hid (C.length ≤ 64) := hCl
          clear hsrc hbf hcan hop hfree hput hs' hcan' hs'n hT hrow hbr hj hjc
          by_cases hq : zj < z + 64
          case' pos =>
            have q2 : (zj : Int) < (z : Int) + 64 := by omega
            have q3 : ¬ (zj : Int) < (L : Int) := by omega
          case' neg =>
            have q2 : ¬ (zj : Int) < (z : Int) + 64 := by omega
          all_goals
            go_upto_region 14 with (first
              | (go_at_call 9; refine hw.mono ?_; clear hw; rintro e w5 ⟨rfl, hchg⟩)
              | fail)
            obtain ⟨own', hD5, hg5⟩ := hchg.ex
            have hwo5 := hchg.wo
            have hT := HTW.out
            have hs5 := hwo5.size
            have hsr := HBR.out.size
            have hrow5 := Dk.row_heap HROW.out fun b eb => hwo5.block b (hrlt b eb).2 (fun e2 => by have := hrb b e2; have := (hrlt b eb).1; omega)
            have hR5 := hT.r.keep (w' := w5) (fun b eb => hwo5.block b (hT.r.lt b eb) (fun e2 => hT.sep b e2 eb)) hwo5.size
            have hp5 := (hwo5.block p (Dk.block_lt hT.pb) hT.po).trans hT.pb
            have f1 : w5.cell? ⟨p, 1, none⟩ = some (.pointer (some ⟨xr, 0, none⟩)) := cell_of_row _ _ _ _ _ _ hp5
            have hcv : ∀ n, (convert 22 9 _).run Try.prog (w5.drewN n) = .ok (.string ⟨C.toArray⟩) (w5.drewN n) := fun n => Try.xConv (w := w5.drewN n) hrow5
            have hcv0 := Try.xConv hrow5
            have hcv1 := Try.xConv (w := w5.drew) hrow5
            obtain ⟨Lv, Wv, la, lk, lt, hm5, hfo5⟩ := hR5.ex
            have kwr : ∀ W, Below w5.heap.size w5 W → Calls Try.prog 10 #[.pointer (some ⟨xr, 0, none⟩), .int .i64 k, .string ⟨C.toArray⟩] W fun e w' => e = .returned (.int .i64 0) ∧ Try.RWr W w' xr Lv Wv lk lt (s.put k C) := fun W hW => by
              have hcn := hT.can
              exact Try.rWrite_ok1 (hm5.keep fun j ej => hW.block j (hm5.foot_lt j ej)) hcn.dead k (by rw [hT.hn]; exact hkn) ⟨C.toArray⟩ (by show C.toArray.size ≤ 64; simpa using HCL2.out) (by have := hcn.W; omega) hT.fs (by have := hcn.wrote; omega)
            have kw0 := kwr w5 (Below.refl _ _)
            have kw1 := kwr w5.drew ((Below.refl _ w5).drew)
            rw [← HPUT.out] at kw0 kw1
            have HD5 : Hid _ := hD5
            have HWO5 : Hid _ := hwo5
            have HG5 : Hid _ := hg5
            have HM5 : Hid _ := hm5
            have HFO5 : Hid _ := hfo5
            have HP5 : Hid _ := hp5
            clear hchg hD5 hg5 hwo5 hT hrow5 hR5 hp5 hm5 hfo5 kwr hcv d0 d1 e0
            go_region_with (first
              | (go_at_call 10; refine kw1.mono ?_; clear kw1; rintro e w6 ⟨rfl, hrw6⟩)
              | fail)
            all_goals
              obtain ⟨Wv', left', hm6, hwo6d, hWv6d⟩ := hrw6.ex
              have hwo6 : Dk.Wo (Dk.rfoot xr Lv Wv) w5 w6 := ⟨hwo6d.os, hwo6d.tape, hwo6d.output, hwo6d.size, hwo6d.block⟩
              have hWv6 : ∀ j, Wv'.ownBlock = some j → Wv.ownBlock = some j ∨ w5.heap.size ≤ j := hWv6d
              clear hwo6d hWv6d
              have hT := HTW.out
              have hs6 := hwo6.size
              have hfl6 := hm6.foot_lt
              have hs50 : wr.heap.size ≤ w5.heap.size := HWO5.out.size
              have hfo6 : ∀ b, Dk.rfoot xr Lv Wv' b → own2 b ∨ w5.heap.size ≤ b := fun b eb => by
                rcases eb with eb | eb | eb
                · exact .inl (HFO5.out b (.inl eb))
                · exact .inl (HFO5.out b (.inr (.inl eb)))
                · rcases hWv6 b eb with e9 | e9
                  · exact .inl (HFO5.out b (.inr (.inr e9)))
                  · exact .inr e9
              have hfoo : ∀ b, Dk.rfoot xr Lv Wv b → own2 b := HFO5.out
              have hg5 := HG5.out
              have hsep5 : ∀ b, own' b → ¬ own2 b := fun b e1 e2 => by
                rcases hg5 b e1 with e9 | e9
                · exact hT.sep b e9 e2
                · have := hT.r.lt b e2; omega
              have hpl := Dk.block_lt hT.pb
              have hD6 := HD5.out.keep (w' := w6) (fun b eb => hwo6.block b (HD5.out.lt b eb) (fun e2 => hsep5 b eb (hfoo b e2))) hs6
              have hs00 := hT.bel.size
              have hT6 : Try.Two0 w1 w6 p x xr n (1000 - (k + 1)) s' own' (Dk.rfoot xr Lv Wv') := by
                refine ⟨(hwo6.block p (by omega) (fun e2 => hT.po2 (hfoo p e2))).trans HP5.out, hD6, ⟨⟨Lv, Wv', left', _, _, hm6, fun _ e2 => e2⟩, hfl6⟩, fun b e1 e2 => ?_, fun e1 => ?_, fun e1 => ?_, fun b e1 => ?_, fun b e1 => ?_, hT.lp, ?_, HSN.out, HFREE.out, ?_⟩
                · rcases hfo6 b e2 with e9 | e9
                  · exact hsep5 b e1 e9
                  · have := HD5.out.lt b e1; omega
                · rcases hg5 p e1 with e9 | e9
                  · exact hT.po e9
                  · omega
                · rcases hfo6 p e1 with e9 | e9
                  · exact hT.po2 e9
                  · omega
                · rcases hg5 b e1 with e9 | e9
                  · exact hT.lo b e9
                  · omega
                · rcases hfo6 b e1 with e9 | e9
                  · exact hT.lo2 b e9
                  · omega
                · exact hT.bel.trans ((Dk.Wo.bel HWO5.out hT.lo hs00).trans (Dk.Wo.bel hwo6 (fun b e9 => hT.lo2 b (hfoo b e9)) (by omega)))
                · have := HCAN'.out; rwa [show 1000 - (k + 1) = 999 - k by omega]
              have HT6 : Hid _ := hT6
              clear hT6 hD6 hT hm6 hwo6 hrw6
              go_wp2
              go_roundw
              case rel => exact ⟨k + 1, s', own', _, by omega, by go_num, HT6.out⟩
              case measure => simp [intOf]; omega
    · have q0 : ¬ (k : Int) < (n : Int) := by omega
      have hpl := Dk.block_lt hT.pb
      have hplo := hT.lp
      have hk1 := Try.open_disks hT.pb (Try.Hold.nil wr 0) rfl (fun x hx => by cases hx) (fun e => e) hT.d hT.r hT.can.dead (by rw [hT.hn]; omega) (by rw [hT.hn]; omega) (by simp)
      have hsw := hT.bel.size
      clear hT
      go_upto_region 18 with (first
        | (go_at_call 8; refine kbl.mono ?_; clear kbl; rintro e w5 ⟨rfl, e5⟩; have e6 := e5.symm; clear e5; subst e6)
        | (go_at_call 11; refine hk1.mono ?_; clear hk1; rintro e w5 ⟨rfl, m, hml, hO⟩)
        | fail)
      obtain ⟨⟨j', k', G', q', lv', mv', own3, hs', ms', hp5, hH5, hm5, hl5, hn5, hg5⟩, hwo5⟩ := hO
      have hT := HT.out
      have hs5 := hwo5.size
      have hD5 := hT.d.keep (w' := w5) (fun b eb => hwo5.block b (hT.d.lt b eb) (fun e2 => e2.elim id (fun e3 => hT.po (e3 ▸ eb)))) hs5
      have hR5 := hT.r.keep (w' := w5) (fun b eb => hwo5.block b (hT.r.lt b eb) (fun e2 => e2.elim id (fun e3 => hT.po2 (e3 ▸ eb)))) hs5
      have hka : Calls Try.prog 12 #[.pointer (some ⟨p, 0, none⟩)] w5 fun r w' => r = .returned (.bool true) ∧ Below w5.heap.size w5 w' := by
        obtain ⟨Lv, Wv, a, bb, c, hm', -⟩ := hR5.ex
        exact Try.alike_any hp5 hD5 hm' hT.can.dead
      have HP5 : Hid _ := hp5
      have HH5 : Hid _ := hH5
      have HG5 : Hid _ := hg5
      have HWO5 : Hid _ := hwo5
      have HM5 : Hid _ := hm5
      have HN5 : Hid (∀ x ∈ hs', x.n ≤ 900000) := hn5
      have hl6 : hs'.length ≤ 6000 := by
        have h9 : hs'.length = 0 + 4 * (m + 1) := hl5
        omega
      have HL5 : Hid (hs'.length ≤ 6000) := hl6
      have HD5 : Hid _ := hD5
      have HR5 : Hid _ := hR5
      clear hp5 hH5 hg5 hwo5 hm5 hn5 hl5 hD5 hR5 hT hl6
      go_upto_region 19 with (first
        | (go_at_call 12; refine hka.mono ?_; clear hka; rintro e w6 ⟨rfl, hb6⟩)
        | fail)
      have hT := HT.out
      have hs6 := hb6.size
      have hp6 := (hb6.block p (by omega)).trans HP5.out
      have hH6 := HH5.out.below hb6
      have hD6 := HD5.out.below hb6
      have hR6 := HR5.out.keep (w' := w6) (fun b eb => hb6.block b (HR5.out.lt b eb)) hs6
      have hpo3 : ¬ own3 p := fun e => by
        rcases HG5.out p e with e9 | e9
        · exact e9
        · omega
      have hk2 := Try.open_disks hp6 hH6 HM5.out HN5.out hpo3 hD6 hR6 hT.can.dead (by rw [hT.hn]; omega) (by rw [hT.hn]; omega) (by have := HL5.out; omega)
      have HD6 : Hid _ := hD6
      have HR6 : Hid _ := hR6
      have HB6 : Hid (Below w5.heap.size w5 w6) := hb6
      clear hp6 hH6 hD6 hR6 hT hb6
      go_upto_region 20 with (first
        | (go_at_call 11; refine hk2.mono ?_; clear hk2; rintro e w7 ⟨rfl, m2, hml2, hO⟩)
        | fail)
      obtain ⟨⟨j2, k2, G2, q2, lv2, mv2, own4, hs2, ms2, hp7, -⟩, hwo7⟩ := hO
      have hT := HT.out
      have hs7 := hwo7.size
      have hno : ∀ b, b < wr.heap.size → b ≠ p → ¬ (own3 b ∨ b = p) := fun b e1 e2 e3 => by
        rcases e3 with e3 | e3
        · rcases HG5.out b e3 with e9 | e9
          · exact e9
          · omega
        · exact e2 e3
      have hD7 := HD6.out.keep (w' := w7) (fun b eb => hwo7.block b (HD6.out.lt b eb) (hno b (hT.d.lt b eb) (fun e3 => hT.po (e3 ▸ eb)))) hs7
      have hR7 := HR6.out.keep (w' := w7) (fun b eb => hwo7.block b (HR6.out.lt b eb) (hno b (hT.r.lt b eb) (fun e3 => hT.po2 (e3 ▸ eb)))) hs7
      have hka2 : Calls Try.prog 12 #[.pointer (some ⟨p, 0, none⟩)] w7 fun r w' => r = .returned (.bool true) ∧ Below w7.heap.size w7 w' := by
        obtain ⟨Lv, Wv, a, bb, c, hm', -⟩ := hR7.ex
        exact Try.alike_any hp7 hD7 hm' hT.can.dead
      have HWO7 : Hid _ := hwo7
      clear hp7 hwo7 hD7 hR7 hT hno
      go_wp2_with (first
        | (go_at_call 12; refine hka2.mono ?_; clear hka2; rintro e w8 ⟨rfl, hb8⟩)
        | fail)
      go_ret
      refine ⟨rfl, ?_⟩
      have hT := HT.out
      have hB15 : Below w1.heap.size w1 w5 := hT.bel.trans (Dk.Wo.bel HWO5.out (fun b e => e.elim (fun e9 => e9.elim) (fun e9 => by omega)) hsw)
      have hB16 := hB15.trans (HB6.out.mono hB15.size)
      have hB17 := hB16.trans (Dk.Wo.bel HWO7.out (fun b e => by
        rcases e with e | e
        · rcases HG5.out b e with e9 | e9
          · exact e9.elim
          · omega
        · omega) (by omega))
      have hB18 := hB17.trans (hb8.mono hB17.size)
      exact HB1.out.trans (hB18.mono hs1)
end Go.Proofs
namespace Go.Proofs
open Go.RowKit Go.ChangeShapes Go.WideShapes Go.Deep Go.Dk
theorem Try.laidOut : laidOutB Try.prog = true := by kernel_rfl
theorem Try.cellsU8 : Try.prog.cellsOf 5 = 1 := by kernel_rfl
theorem Try.bytesU8 : Try.prog.bytesOf 5 = 1 := by kernel_rfl
theorem Try.open_bytes {H : Type} {enc : TypeId × Value → H} {W : World} {a0 : Option Addr} {len cap fuel : Nat} {x : DataW H × List MemPlace}
    (hf : DataW.trod enc Try.prog W 0 (fun _ => true) true fuel 22 [.slice a0 len cap] = some x) : ∃ l : List UInt8, Dk.Src W (.slice a0 len cap) l ∧ (l = [] ∨ ∃ el sp, x.1 = .slice el sp ∧ el.length = l.length) := by
  rcases open_slice Try.underlying22 hf with ⟨hcs, -⟩ | ⟨a, len', cap', m, n, D, Pl, hcs, _, hl, hm, hmm, hxx, hx⟩
  · simp at hcs
    obtain ⟨rfl, rfl, rfl⟩ := hcs
    exact ⟨[], ⟨none, 0, rfl, .inl rfl⟩, .inl rfl⟩
  · simp at hcs
    obtain ⟨rfl, rfl, rfl⟩ := hcs
    have hm' : m = cap := by simpa using hmm
    subst hm'
    obtain ⟨b, off, spot⟩ := a
    have each : ∀ i, i < m → ∃ c : UInt8, W.cell? ((⟨b, off, spot⟩ : Addr).add i) = some (.int .u8 (c.toNat : Nat)) := by
      intro i hi
      obtain ⟨cs', h1, h2⟩ := hx i hi
      rw [Try.cellsU8, Nat.mul_one] at h1
      obtain ⟨_, hlen, hcell⟩ := World.cells?_some h1
      obtain ⟨n0, e0, -, b0⟩ := DataW.trod_int Try.underlying5 h2
      have d0 := hcell 0 (by omega)
      rw [add_add] at d0
      have hb0 := bounds_u8 b0
      refine ⟨UInt8.ofNat n0.toNat, ?_⟩
      rw [UInt8.toNat_ofNat', Nat.mod_eq_of_lt (by omega)]
      have : ((n0.toNat : Nat) : Int) = n0 := by omega
      rw [this]
      subst e0
      simpa using d0
    obtain ⟨q, hq⟩ := choose_lt each
    have hll : ((List.range len).map q).length = len := by simp
    refine ⟨(List.range len).map q, ⟨some ⟨b, off, spot⟩, m, by rw [hll], ?_⟩, .inr ⟨_, _, by rw [hxx], by simp⟩⟩
    by_cases h0 : len = 0
    · subst h0; exact .inl rfl
    · have hc0 := hq 0 (by omega)
      have hspot : spot = none := by simpa [Addr.add] using World.cell?_spot hc0
      subst hspot
      refine .inr ⟨b, off, rfl, World.block_lt_of_cell? _ _ (by simpa [Addr.add] using hc0), fun j u hu => ?_⟩
      have hj : j < len := by have := (List.getElem?_eq_some_iff.1 hu).1; rwa [Dk.byteCells_len, hll] at this
      rw [Dk.byteCell (by rw [hll]; exact hj)] at hu
      have h1 := hq j (by omega)
      rw [Addr.add_mid] at h1
      rw [h1, ← hu]
      simp
end Go.Proofs
