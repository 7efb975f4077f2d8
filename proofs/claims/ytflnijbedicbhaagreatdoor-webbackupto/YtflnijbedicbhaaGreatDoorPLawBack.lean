/-
  Laid together by packg.py of LawBack.
-/
import Derived.Test.YtflnijbedicbhaaGreatDoorPwT
import Derived.Deep.CutBlock
namespace Go.Proofs
open Go.RowKit Go.Wi Go.Wb
/-- What PrintRequest answers of an Ask. -/
theorem Tryz.printAsk_any {w W : World} (htab : Lib.TabIs Tryz.prog w "internal/strconv.uint64pow10" .u64 Lib.pow10Tab) (hW : Below w.heap.size w W) {a : Am} (ha : AmOk w a) {V Y : Value} (hV : Hs W V a.L) (hY : Bs W Y a.body) (hYl : ∀ k, Y.ownBlock = some k → k < W.heap.size) :
    Calls Tryz.prog 19 #[.agg #[.string ⟨a.meth.toArray⟩, .string ⟨a.tg.toArray⟩, V, Y, .bool a.last]] W fun e w' => Below W.heap.size W w' ∧ ∃ R n, e = .returned (.tuple #[R, .int .i64 n]) ∧ (((n = 180 ∨ n = 181 ∨ n = 182) ∧ R = .slice none 0 0) ∨ (n = 0 ∧ a.Ok ∧ Og w' 0 R a.text)) := by
  have hm := ha.m
  have ht := ha.t
  have hl := ha.l
  have hb := ha.b
  have hh : ∀ x ∈ a.L, x.1.length ≤ 140737488355328 ∧ x.2.length ≤ 140737488355328 := fun x hx => ⟨Nat.le_trans (ha.h x hx).1 (by omega), Nat.le_trans (ha.h x hx).2 (by omega)⟩
  cases hok : okReq a.meth a.tg a.L with
  | false =>
    refine (Tryz.printRequest_no a.meth a.tg a.last hV hY (by omega) (by omega) hh (by omega) hok).mono ?_
    rintro e w' ⟨rfl, hb⟩
    exact ⟨hb, _, 180, rfl, .inl ⟨.inl rfl, rfl⟩⟩
  | true =>
    by_cases hbig : 6000 < a.body.length
    · refine (Tryz.printRequest_big a.meth a.tg a.last hV hY (by omega) (by omega) hh (by omega) (by omega) hok hbig).mono ?_
      rintro e w' ⟨rfl, hb⟩
      exact ⟨hb, _, 182, rfl, .inl ⟨.inr (.inr rfl), rfl⟩⟩
    · refine (Tryz.printRequest_yes Lib.itoa a.meth a.tg a.last hV hY (by omega) (by omega) hh (by omega) hYl (fun n W' h0 h1 hW' => Tryz.itoa_any htab n W' h0 h1 (hW.trans (hW'.mono hW.size))) (fun n h0 h1 => by have := Lib.itoa_length_le n (by omega) h1; omega) hok (by omega)).mono ?_
      rintro e w' ⟨hb, h⟩
      rcases h with ⟨q1, R, rfl, q2⟩ | ⟨_, rfl⟩
      · exact ⟨hb, R, 0, rfl, .inr ⟨rfl, ⟨hok, by omega, q1⟩, q2.mono (Nat.zero_le _)⟩⟩
      · exact ⟨hb, _, 181, rfl, .inl ⟨.inr (.inl rfl), rfl⟩⟩
set_option maxRecDepth 20000 in
set_option maxHeartbeats 4000000 in
theorem Tryz.webBack_go {w : World} {VA : Value} {A : List Am} (hA : As w VA A) (_hAl : A.length ≤ 9223372036854775807) {C : Value} {cs : List Int} (hC : Qu.Iv w C cs) (hcl : cs.length ≤ 1048576) (htab : Lib.TabIs Tryz.prog w "internal/strconv.uint64pow10" .u64 Lib.pow10Tab) :
    Calls Tryz.prog 6 #[VA, C] w fun e w' => e = .returned (.bool true) ∧ Below w.heap.size w w' := by
  have k0 := Tryz.shown_any htab
  have kn := Tryz.newParser_any
  obtain ⟨adA, capA, rfl, -⟩ := hA.ex
  obtain ⟨adC, capC, rfl, -⟩ := hC.ex
  have HA : Hid (As w (.slice adA A.length capA) A) := hA
  have HC : Hid (Qu.Iv w (.slice adC cs.length capC) cs) := hC
  have HT : Hid (Lib.TabIs Tryz.prog w "internal/strconv.uint64pow10" .u64 Lib.pow10Tab) := htab
  clear hA hC htab
  go_enter Tryz.func6, Tryz.ntmps6
  go_upto_block 0 with (first
    | (go_at_call 7; refine k0.mono ?_; clear k0; rintro e w1 ⟨rfl, hb1⟩; have kn1 := kn w1)
    | (go_at_call 12; refine kn1.mono ?_; clear kn1; rintro e w2 ⟨bp, rfl, hbp, hMp, hb2⟩)
    | fail)
  have hB2 : Below w.heap.size w w2 := hb1.trans (hb2.mono hb1.size)
  have hlb : bp < w2.heap.size := Tryz.ms_lt hMp bp rfl
  have hbw : w.heap.size ≤ bp := Nat.le_trans hb1.size hbp
  have hsz2 := hB2.size
  have HMP : Hid (Tryz.Ms 82 w2 (fun k => k = bp) bp (newReq 0)) := hMp
  have HB2 : Hid (Below w.heap.size w w2) := hB2
  clear hMp hb1 hb2 hB2 hbp kn
  have HAC : Hid (∀ W, Below w.heap.size w W → ∀ i (hi : i < A.length), ∃ g o, adA = some ⟨g, o, none⟩ ∧ ∀ W', Below W.heap.size W W' → W'.cell? ⟨g, o + i * 5, none⟩ = some (.string ⟨A[i].meth.toArray⟩) ∧ W'.cell? ⟨g, o + i * 5 + 1, none⟩ = some (.string ⟨A[i].tg.toArray⟩) ∧ W'.cell? ⟨g, o + i * 5 + 2, none⟩ = some A[i].vh ∧ W'.cell? ⟨g, o + i * 5 + 3, none⟩ = some (.string ⟨A[i].body.toArray⟩) ∧ W'.cell? ⟨g, o + i * 5 + 4, none⟩ = some (.bool A[i].last)) := fun W hW i hi => by
    obtain ⟨ad, cap, e, h1⟩ := (HA.out.below hW).ex
    injection e with e1 e2 e3
    subst e1 e3
    rcases h1 with h1 | ⟨g, o, e, hg, h1⟩
    · rw [h1] at hi; cases hi
    · exact ⟨g, o, e, fun W' g' => ⟨(g'.cell (p := ⟨g, _, none⟩) hg).trans (h1 i hi).1, (g'.cell (p := ⟨g, _, none⟩) hg).trans (h1 i hi).2.1, (g'.cell (p := ⟨g, _, none⟩) hg).trans (h1 i hi).2.2.1, (g'.cell (p := ⟨g, _, none⟩) hg).trans (h1 i hi).2.2.2.1, (g'.cell (p := ⟨g, _, none⟩) hg).trans (h1 i hi).2.2.2.2⟩⟩
  go_cut [7, 8] (fun sv wv wx => ∃ s wt ov n ad cap, sv = .string ⟨s.toArray⟩ ∧ wv = .slice ad wt.length cap ∧ wx.ownsRow w2.heap.size 24 5 wv wt.length (amCells wt) ∧ (∀ a ∈ wt, a ∈ A) ∧ Bk s wt ov n ∧ n ≤ 12 ∧ Below w2.heap.size w2 wx)
  case first =>
    have HI : Hid (∃ (i : Nat) (s : List UInt8) (wt : List Am) (o : Bool) (ad : Option Addr) (cap : Nat), (Value.int .i64 0 = .int .i64 i) ∧ i ≤ A.length ∧ i ≤ 12 ∧ (Value.string ⟨#[]⟩ = .string ⟨s.toArray⟩) ∧ (Value.slice none 0 0 = .slice ad wt.length cap) ∧ (Value.bool false = .bool o) ∧ w2.ownsRow w2.heap.size 24 5 (.slice none 0 0) wt.length (amCells wt) ∧ (∀ a ∈ wt, a ∈ A) ∧ Bk s wt o i ∧ Below w2.heap.size w2 w2) := ⟨0, [], [], false, none, 0, rfl, Nat.zero_le _, Nat.zero_le _, rfl, rfl, rfl, World.ownsRow_nil _ _ _ _, (fun a ha => by cases ha), Bk.none, Below.refl _ _⟩
    go_wp2
    go_loopw [7, 8, 9, 10] (fun sv wv ov iv wr => ∃ (i : Nat) (s : List UInt8) (wt : List Am) (o : Bool) (ad : Option Addr) (cap : Nat), iv = .int .i64 i ∧ i ≤ A.length ∧ i ≤ 12 ∧ sv = .string ⟨s.toArray⟩ ∧ wv = .slice ad wt.length cap ∧ ov = .bool o ∧ wr.ownsRow w2.heap.size 24 5 wv wt.length (amCells wt) ∧ (∀ a ∈ wt, a ∈ A) ∧ Bk s wt o i ∧ Below w2.heap.size w2 wr) (fun _ _ _ iv _ => 12 - (intOf iv).toNat)
    case atStart => exact HI.out
    case round =>
      clear HI
      obtain ⟨i, s, wt, o, ad, cap, rfl, hi, h12, rfl, rfl, rfl, hrow, hwt, hbk, hbel⟩ := hrel
      have hBr : Below w.heap.size w wr := HB2.out.trans (hbel.mono hsz2)
      have HROW : Hid (wr.ownsRow w2.heap.size 24 5 (.slice ad wt.length cap) wt.length (amCells wt)) := hrow
      have HWT : Hid (∀ a ∈ wt, a ∈ A) := hwt
      have HBK : Hid (Bk s wt o i) := hbk
      have HBEL : Hid (Below w2.heap.size w2 wr) := hbel
      have HBR : Hid (Below w.heap.size w wr) := hBr
      have hslen := hbk.len
      have hwlen := hbk.wl
      clear hrow hwt hbk hbel
      by_cases hx : i < A.length ∧ i < 12
      · have q : (i : Int) < (A.length : Int) := by omega
        have q2 : (i : Int) < 12 := by omega
        obtain ⟨g, og, eg, HCC'⟩ := HAC.out w (Below.refl _ _) i hx.1
        subst eg
        have HAM : Hid (A[i] ∈ A) := List.getElem_mem hx.1
        have hok := HA.out.each A[i] (List.getElem_mem hx.1)
        have kr := Tryz.askRequest_any ⟨A[i].meth.toArray⟩ ⟨A[i].tg.toArray⟩ (hok.hs.below hBr) A[i].body A[i].last (by have := hok.l; omega) (by have := hok.b; omega)
        have HKP : Hid (∀ (W : World) (V Y : Value), Below wr.heap.size wr W → Hs W V A[i].L → Bs W Y A[i].body → (∀ k, Y.ownBlock = some k → k < W.heap.size) → Calls Tryz.prog 19 #[.agg #[.string ⟨A[i].meth.toArray⟩, .string ⟨A[i].tg.toArray⟩, V, Y, .bool A[i].last]] W fun e w' => Below W.heap.size W w' ∧ ∃ R n, e = .returned (.tuple #[R, .int .i64 n]) ∧ (((n = 180 ∨ n = 181 ∨ n = 182) ∧ R = .slice none 0 0) ∨ (n = 0 ∧ A[i].Ok ∧ Og w' 0 R A[i].text))) := fun W V Y hW h1 h2 h3 => Tryz.printAsk_any HT.out (hBr.trans (hW.mono hBr.size)) hok h1 h2 h3
        have HCC : Hid _ := HCC'
        obtain ⟨c0, c1, c2, c3, c4⟩ := HCC' wr hBr
        clear hok HCC' hBr
        generalize A[i] = a at *
        obtain ⟨am, at', aah, ach, aL, abd, ala⟩ := a
        dsimp only [Am.vh] at *
        go_upto_region 12 with (first
          | (go_at_call 20; refine kr.mono ?_; clear kr; rintro e W1 ⟨gh, gb, rfl, hHs, hBs, hgb, hb3⟩; have kp := HKP.out W1 _ _ hb3 hHs hBs (fun k e => by cases e; exact hgb); clear HKP)
          | (go_at_call 19; refine kp.mono ?_; clear kp; rintro e W2 ⟨hb4, R, nE, rfl, hR⟩)
          | fail)
        have hb5 : Below wr.heap.size wr W2 := hb3.trans (hb4.mono hb3.size)
        have HB5 : Hid (Below wr.heap.size wr W2) := hb5
        have HBE2 : Hid (Below w2.heap.size w2 W2) := HBEL.out.trans (hb5.mono HBEL.out.size)
        have HROW2 : Hid (W2.ownsRow w2.heap.size 24 5 (.slice ad wt.length cap) wt.length (amCells wt)) := row_keep HROW.out fun k e => hb5.block k (HROW.out.lt k e).2
        have HBR2 : Hid (Below w.heap.size w W2) := HBR.out.trans (hb5.mono HBR.out.size)
        clear hb3 hb4 hb5 hHs hBs hgb HROW c0 c1 c2 c3 c4
        rcases hR with ⟨hn, rfl⟩ | ⟨rfl, hok, hO⟩
        · have HX : Hid (Bk s wt o (i + 1)) := HBK.out.skip
          rcases hn with rfl | rfl | rfl
          · go_wp2
            go_roundw
            case rel => exact ⟨i + 1, s, wt, o, ad, cap, by simp, by omega, by omega, rfl, rfl, rfl, HROW2.out, HWT.out, HX.out, HBE2.out⟩
            case measure => simp [intOf]; omega
          · go_wp2
            go_roundw
            case rel => exact ⟨i + 1, s, wt, o, ad, cap, by simp, by omega, by omega, rfl, rfl, rfl, HROW2.out, HWT.out, HX.out, HBE2.out⟩
            case measure => simp [intOf]; omega
          · go_wp2
            go_roundw
            case rel => exact ⟨i + 1, s, wt, o, ad, cap, by simp, by omega, by omega, rfl, rfl, rfl, HROW2.out, HWT.out, HX.out, HBE2.out⟩
            case measure => simp [intOf]; omega
        · have HX : Hid (Bk (s ++ Am.text ⟨am, at', aah, ach, aL, abd, ala⟩) (if o then wt else wt ++ [⟨am, at', aah, ach, aL, abd, ala⟩]) (o || ala) (i + 1)) := HBK.out.next hok
          have hTl := hok.len.1
          have hbs := hO.bs
          obtain ⟨gR, cR, rfl, -⟩ := hO
          have hcv := Tryz.conv_bs hbs
          clear hbs hok
          have hbig : ¬ 9223372036854775807 < s.length + (Am.text ⟨am, at', aah, ach, aL, abd, ala⟩).length := by omega
          generalize Am.text ⟨am, at', aah, ach, aL, abd, ala⟩ = T at *
          obtain ⟨c0, c1, c2, c3, c4⟩ := HCC.out W2 HBR2.out
          cases o with
          | true =>
            go_wp2
            go_roundw
            case rel => exact ⟨i + 1, s ++ T, wt, true, ad, cap, by simp, by omega, by omega, by rw [← cat2], rfl, rfl, HROW2.out, HWT.out, HX.out, HBE2.out⟩
            case measure => simp [intOf]; omega
          | false =>
            have hwl1 : wt.length + 1 ≤ 1000000 := by omega
            go_wp2_with (first
              | (at_builtin; refine Tryz.appAsk rfl _ _ rfl HROW2.out HBE2.out.size rfl rfl rfl ⟨am, at', aah, ach, aL, abd, ala⟩ hwl1 ?_; intro g1 cap1 w3 hr3 hwo3 hwo4; have hB3 : Below w2.heap.size w2 w3 := Wo.toBelow HBE2.out hwo3 (fun k e => e) HBE2.out.size; obtain ⟨d0, d1, d2, d3, d4⟩ := HCC.out w3 (HB2.out.trans (hB3.mono hsz2)); have HR3 : Hid (w3.ownsRow w2.heap.size 24 5 (.slice (some ⟨g1, 0, none⟩) (wt.length + 1) cap1) (wt ++ [(⟨am, at', aah, ach, aL, abd, ala⟩ : Am)]).length (amCells (wt ++ [⟨am, at', aah, ach, aL, abd, ala⟩]))) := hr3; have HB3 : Hid (Below w2.heap.size w2 w3) := hB3; clear hr3 hwo3 hwo4 hB3)
              | fail)
            go_roundw
            case rel =>
              have hin : ∀ x ∈ wt ++ [(⟨am, at', aah, ach, aL, abd, ala⟩ : Am)], x ∈ A := fun x hx => by
                rcases List.mem_append.1 hx with hx | hx
                · exact HWT.out x hx
                · rw [List.mem_singleton.1 hx]; exact HAM.out
              exact ⟨i + 1, s ++ T, wt ++ [⟨am, at', aah, ach, aL, abd, ala⟩], ala, some ⟨g1, 0, none⟩, cap1, by simp, by omega, by omega, by rw [← cat2], by rw [List.length_append]; rfl, rfl, HR3.out, hin, HX.out, HB3.out⟩
            case measure => simp [intOf]; omega
      · by_cases hlt : i < A.length
        · have q : (i : Int) < (A.length : Int) := by omega
          have q2 : ¬ (i : Int) < 12 := by omega
          go_wp2
          go_meet
          exact ⟨s, wt, o, i, ad, cap, rfl, rfl, HROW.out, HWT.out, HBK.out, h12, HBEL.out⟩
        · have q : ¬ (i : Int) < (A.length : Int) := by omega
          go_wp2
          go_meet
          exact ⟨s, wt, o, i, ad, cap, rfl, rfl, HROW.out, HWT.out, HBK.out, h12, HBEL.out⟩
  case rest =>
  obtain ⟨s, wt, ov, n, ad, cap, rfl, rfl, hrow, hwt, hbk, hn12, hbel⟩ := hcut
  have hBc : Below w.heap.size w wc := HB2.out.trans (hbel.mono hsz2)
  have hsl : s.length ≤ 97200 := by have := hbk.len; omega
  have hwl : wt.length ≤ 12 := by have := hbk.wl; omega
  have kp := Tryz.pieces_any (HC.out.keep hBc) hcl s (by omega)
  have hfl := pieces_flat s cs
  have hLl := pieces_len s cs
  have HROW : Hid (wc.ownsRow w2.heap.size 24 5 (.slice ad wt.length cap) wt.length (amCells wt)) := hrow
  have HWT : Hid (∀ a ∈ wt, a ∈ A) := hwt
  have HBK : Hid (Bk s wt ov n) := hbk
  have HBEL : Hid (Below w2.heap.size w2 wc) := hbel
  have HBC : Hid (Below w.heap.size w wc) := hBc
  generalize hL0 : piecesL s cs = L at *
  clear hL0 hrow hwt hbk hbel hBc HAC
  go_upto_region 20 with (first
    | (go_at_call 13; refine kp.mono ?_; clear kp; rintro e w6 ⟨VL, rfl, hrowL, hb6⟩)
    | fail)
  obtain ⟨adL, capL, eL⟩ := row_shape hrowL
  subst eL
  have hB26 : Below w2.heap.size w2 w6 := HBEL.out.trans (hb6.mono HBEL.out.size)
  have hBw6 : Below w.heap.size w w6 := HBC.out.trans (hb6.mono HBC.out.size)
  have hM6 := HMP.out.below hB26
  have hsc := HBEL.out.size
  have hs6 := hb6.size
  have HRL : Hid (∀ W, Wo (fun k => k = bp) w6 W → ∀ i (hi : i < L.length), ∃ g, adL = some ⟨g, 0, none⟩ ∧ W.cell? ⟨g, i, none⟩ = some (.string ⟨L[i].toArray⟩)) := fun W hW i hi => by
    obtain ⟨ad', cap', e, hx⟩ := (Ss.ofRow hrowL).ex
    injection e with e1 e2 e3
    rcases hx with e0 | ⟨g, e, hg, hc⟩
    · rw [e0] at hi; cases hi
    · have hgo := (hrowL.lt g (by rw [e1, e]; rfl)).1
      exact ⟨g, by rw [e1]; exact e, (World.cell?_of_block (w := w6) (a := ⟨g, i, none⟩) (hW.block g hg (by omega))).trans (hc i hi)⟩
  have HWR : Hid (∀ W, Wo (fun k => k = bp) w6 W → ∀ i (hi : i < wt.length), ∃ g, ad = some ⟨g, 0, none⟩ ∧ g < W.heap.size ∧ W.cell? ⟨g, i * 5, none⟩ = some (.string ⟨wt[i].meth.toArray⟩) ∧ W.cell? ⟨g, i * 5 + 1, none⟩ = some (.string ⟨wt[i].tg.toArray⟩) ∧ W.cell? ⟨g, i * 5 + 2, none⟩ = some wt[i].vh ∧ W.cell? ⟨g, i * 5 + 3, none⟩ = some (.string ⟨wt[i].body.toArray⟩) ∧ W.cell? ⟨g, i * 5 + 4, none⟩ = some (.bool wt[i].last)) := fun W hW i hi => by
    rcases HROW.out.2 with ⟨e, h0⟩ | ⟨g, cap', cur, e, hB, hg, k1, k2, k3, k4⟩
    · omega
    · injection e with e1 e2 e3
      have hgl := block_lt hg
      have hbk : W.heap[g]? = some (.cells cur 24 (0, 0)) := (hW.block g (by omega) (by omega)).trans ((hb6.block g hgl).trans hg)
      have hc : ∀ (j : Nat) (v : Value), (amCells wt)[j]? = some v → W.cell? ⟨g, j, none⟩ = some v := fun j v hv => by
        rw [cell_of_row _ _ _ _ _ _ hbk]
        rw [← k4, List.getElem?_take] at hv
        split at hv
        · rw [← Array.getElem?_toList]; exact hv
        · cases hv
      obtain ⟨a0, a1, a2, a3, a4⟩ := am_cell hi
      exact ⟨g, e1, block_lt hbk, hc _ _ a0, hc _ _ a1, hc _ _ a2, hc _ _ a3, hc _ _ a4⟩
  have HTO : Hid (∀ W, Wo (fun k => k = bp) w6 W → Below w.heap.size w W) := fun W hW => Wo.toBelow hBw6 hW (fun k e => by rw [e]; exact hbw) (by omega)
  have hbp6 : bp < w6.heap.size := by omega
  have HFL : Hid (L.flatten = s) := hfl
  have HI : Hid (∃ (i : Nat) (oP : Nat → Prop), (Value.int .i64 0 = .int .i64 i) ∧ i ≤ L.length ∧ (Value.int .i64 0 = .int .i64 ((fd (newReq 0) (L.take i).flatten).1.length : Nat)) ∧ Tryz.Ms 82 w6 oP bp (fd (newReq 0) (L.take i).flatten).2 ∧ (∀ k, oP k → k = bp ∨ w6.heap.size ≤ k) ∧ Wo (fun k => k = bp) w6 w6) := ⟨0, fun k => k = bp, rfl, Nat.zero_le _, rfl, hM6, fun k e => .inl e, Wo.refl _ _⟩
  have hL1 : L.length ≤ 1048577 := by omega
  clear hrowL hb6 hB26 hBw6 hM6 hsc hs6 HROW HBEL HBC HMP hfl hLl
  go_wp2
  go_loopw [14, 15] (fun nv iv wr => ∃ (i : Nat) (oP : Nat → Prop), iv = .int .i64 i ∧ i ≤ L.length ∧ nv = .int .i64 ((fd (newReq 0) (L.take i).flatten).1.length : Nat) ∧ Tryz.Ms 82 wr oP bp (fd (newReq 0) (L.take i).flatten).2 ∧ (∀ k, oP k → k = bp ∨ w6.heap.size ≤ k) ∧ Wo (fun k => k = bp) w6 wr) (fun _ iv _ => L.length - (intOf iv).toNat)
  case atStart => exact HI.out
  case round =>
    clear HI
    obtain ⟨i, oP, rfl, hi, rfl, hms, hoP, hwo⟩ := hrel
    have hfi := fi_new.fd (L.take i).flatten
    have hfa := flat_len L i
    rw [HFL.out] at hfa
    by_cases hlt : i < L.length
    · have q : (i : Int) < (L.length : Int) := by omega
      have hfn := flat_next hlt
      have hfb := flat_len L (i + 1)
      rw [HFL.out, hfn, List.length_append] at hfb
      obtain ⟨gL, eg, c0⟩ := HRL.out wr hwo i hlt
      subst eg
      have hcv := Tryz.conv_text L[i]
      have hat := hfi.at_
      have kf := Tryz.feed_text hms hfi.good L[i] (by omega) (by omega)
      have happ := fd_app (newReq 0) (L.take i).flatten L[i]
      rw [← hfn] at happ
      obtain ⟨hfe, rr, hpt⟩ := HBK.out.part (a := (L.take (i + 1)).flatten) (b := (L.drop (i + 1)).flatten) (by rw [← List.flatten_append, List.take_append_drop]; exact HFL.out)
      rw [happ] at hfe hpt
      have hnl := fd_len (newReq 0) (L.take i).flatten
      have hnl2 := fd_len (fd (newReq 0) (L.take i).flatten).2 L[i]
      have hn0 : (fd (newReq 0) (L.take i).flatten).1.length ≤ 97200 := by omega
      have hFl : (fd (fd (newReq 0) (L.take i).flatten).2 L[i]).1.length ≤ 97200 := by omega
      clear hnl2
      have HAPP : Hid (fd (newReq 0) (L.take (i + 1)).flatten = ((fd (newReq 0) (L.take i).flatten).1 ++ (fd (fd (newReq 0) (L.take i).flatten).2 L[i]).1, (fd (fd (newReq 0) (L.take i).flatten).2 L[i]).2)) := happ
      have HPT : Hid ((fd (newReq 0) (L.take i).flatten).1 ++ (fd (fd (newReq 0) (L.take i).flatten).2 L[i]).1 ++ rr = wt.map Am.rq) := hpt
      have HFE : Hid ((fd (fd (newReq 0) (L.take i).flatten).2 L[i]).2.fErr = 0) := hfe
      have HOP : Hid (∀ k, oP k → k = bp ∨ w6.heap.size ≤ k) := hoP
      have HWO : Hid (Wo (fun k => k = bp) w6 (Lib.bytesWorld wr 5 ⟨L[i].toArray⟩)) := hwo.below (bytesW_below wr 5 ⟨L[i].toArray⟩) hwo.size
      have hbs : Below wr.heap.size wr (Lib.bytesWorld wr 5 ⟨L[i].toArray⟩) := bytesW_below wr 5 ⟨L[i].toArray⟩
      have HSZ : Hid (w6.heap.size ≤ (Lib.bytesWorld wr 5 ⟨L[i].toArray⟩).heap.size) := Nat.le_trans hwo.size hbs.size
      clear hms hfi hfa hfb hfn happ hat hnl hpt hfe hoP hwo hbs
      generalize fd (fd (newReq 0) (L.take i).flatten).2 L[i] = F at *
      generalize (fd (newReq 0) (L.take i).flatten).1 = pre at *
      generalize (fd (newReq 0) (L.take i).flatten).2 = mi at *
      generalize L[i] = li at *
      go_upto_region 27 with (first
        | (go_at_call 15; refine kf.mono ?_; clear kf hcv; rintro e w8 ⟨adM, nM, capM, ev', oP', rfl, hF⟩; obtain ⟨adM', capM', eM⟩ := Tryz.rl_is hF.rl; injection eM with eM1 eM2 eM3; subst eM2; clear eM1 eM3; obtain ⟨-, rfl⟩ | ⟨hb, -⟩ := hF.err; (rotate_left; exact absurd HFE.out hb); have HF : Hid _ := hF; clear hF)
        | fail)
      have hW8 : Wo (fun k => k = bp) w6 w8 := HWO.out.step (fun k e => HOP.out k e) HF.out.wo
      have HW8 : Hid (Wo (fun k => k = bp) w6 w8) := hW8
      have hs68 : w6.heap.size ≤ w8.heap.size := hW8.size
      have HRL8 : Hid (Tryz.Rl w8 (fun _ => True) (.slice adM F.1.length capM) F.1) := HF.out.rl.keep fun k _ _ => ⟨rfl, trivial⟩
      have HMS8 : Hid (Tryz.Ms 82 w8 oP' bp F.2) := HF.out.ms
      have HOP8 : Hid (∀ k, oP' k → k = bp ∨ w6.heap.size ≤ k) := fun k e => by
        rcases HF.out.sub k e with h | h
        · exact HOP.out k h
        · exact .inr (Nat.le_trans HSZ.out h)
      clear hW8 HF HWO HSZ HOP HFE
      have HI3 : Hid (∃ k : Nat, (Value.int .i64 0 = .int .i64 k) ∧ k ≤ F.1.length ∧ (Value.int .i64 (pre.length : Nat) = .int .i64 ((pre.length + k : Nat) : Int)) ∧ Below w8.heap.size w8 w8) := ⟨0, rfl, Nat.zero_le _, rfl, Below.refl _ _⟩
      go_wp2
      go_loopw [14, 18] (fun nv kv wx => ∃ k : Nat, kv = .int .i64 k ∧ k ≤ F.1.length ∧ nv = .int .i64 ((pre.length + k : Nat) : Int) ∧ Below w8.heap.size w8 wx) (fun _ kv _ => F.1.length - (intOf kv).toNat)
      case atStart => exact HI3.out
      case round =>
        clear HI3
        obtain ⟨k, rfl, hk, rfl, hbx⟩ := hrel
        by_cases hlt3 : k < F.1.length
        · have q3 : (k : Int) < (F.1.length : Int) := by omega
          have hwtl : pre.length + k < wt.length := by
            have := congrArg List.length HPT.out
            simp only [List.length_append, List.length_map] at this
            omega
          have hrq : F.1[k] = wt[pre.length + k].rq := by
            have h1 : (wt.map Am.rq)[pre.length + k]? = some F.1[k] := by
              rw [← HPT.out, List.append_assoc, List.getElem?_append_right (by omega), show pre.length + k - pre.length = k by omega, List.getElem?_append_left hlt3, List.getElem?_eq_getElem hlt3]
            rw [List.getElem?_map, List.getElem?_eq_getElem hwtl] at h1
            injection h1 with h1
            exact h1.symm
          have hWx : Wo (fun k => k = bp) w6 wr := HW8.out.below hbx hs68
          have hr3 := HRL8.out.keep (w' := wr) (P' := fun _ => True) fun x hx _ => ⟨hbx.block x hx, trivial⟩
          obtain ⟨g1, cp1, p1, ex1, hg1, -, hq1, hat1⟩ := Tryz.rl_at hr3 hlt3
          injection ex1 with ea1 eb1 ec1
          subst ea1
          obtain ⟨g2, eg2, hg2, hw0, hw1, hw2, hw3, hw4⟩ := HWR.out wr hWx (pre.length + k) hwtl
          subst eg2
          have hae := HA.out.each wt[pre.length + k] (HWT.out _ (List.getElem_mem hwtl))
          have hBwx := HTO.out wr hWx
          rw [hrq] at hq1
          have HBX : Hid (Below w8.heap.size w8 wr) := hbx
          generalize wt[pre.length + k] = a at *
          have HK : Hid (∀ W, Below wr.heap.size wr W → Calls Tryz.prog 21 #[.agg #[.string ⟨p1.rq.method.toArray⟩, .string ⟨p1.rq.target.toArray⟩, p1.vh, p1.vb, .bool p1.rq.last], .agg #[.string ⟨a.meth.toArray⟩, .string ⟨a.tg.toArray⟩, a.vh, .string ⟨a.body.toArray⟩, .bool a.last]] W fun e w' => e = .returned (.bool true) ∧ Below wr.heap.size wr w') := fun W hW => by
            have hp := hat1.ok.keep (w' := W) (P' := fun _ => True) fun x hx _ _ => ⟨hW.block x hx, trivial⟩
            have h1 := Hs.ofRow hp.heads
            have h2 := Bs.ofRow hp.body
            have h3 : ∀ k, p1.vb.ownBlock = some k → k < W.heap.size := fun k e => (hp.body.lt k e).2
            have h4 : ∀ a n c, p1.vh = .slice a n c → n ≤ c := fun a n c e => by
              rcases hp.heads.2 with ⟨e0, _⟩ | ⟨g, cap', cur, e0, _, _, k1, _⟩
              · rw [e0] at e; injection e with _ e2 _; omega
              · rw [e0] at e; injection e with _ e2 e3; omega
            rw [hq1] at h1 h2 ⊢
            exact (Tryz.back_true ⟨a.meth.toArray⟩ ⟨a.tg.toArray⟩ a.last Lib.itoa h1 h4 h2 h3 ((hae.hs.below hBwx).below hW) (by have := hae.l; omega) (by have := hae.b; omega)).mono fun e w' ⟨x1, x2⟩ => ⟨x1, hW.trans (x2.mono hW.size)⟩
          have HC1 : Hid (∀ W, Below wr.heap.size wr W → W.cell? ⟨g1, k * 5, none⟩ = some (.string ⟨p1.rq.method.toArray⟩) ∧ W.cell? ⟨g1, k * 5 + 1, none⟩ = some (.string ⟨p1.rq.target.toArray⟩) ∧ W.cell? ⟨g1, k * 5 + 2, none⟩ = some p1.vh ∧ W.cell? ⟨g1, k * 5 + 3, none⟩ = some p1.vb ∧ W.cell? ⟨g1, k * 5 + 4, none⟩ = some (.bool p1.rq.last)) := fun W hW => ⟨(hW.cell (p := ⟨g1, _, none⟩) hg1).trans hat1.c0, (hW.cell (p := ⟨g1, _, none⟩) hg1).trans hat1.c1, (hW.cell (p := ⟨g1, _, none⟩) hg1).trans hat1.c2, (hW.cell (p := ⟨g1, _, none⟩) hg1).trans hat1.c3, (hW.cell (p := ⟨g1, _, none⟩) hg1).trans hat1.c4⟩
          have HC2 : Hid (∀ W, Below wr.heap.size wr W → W.cell? ⟨g2, (pre.length + k) * 5, none⟩ = some (.string ⟨a.meth.toArray⟩) ∧ W.cell? ⟨g2, (pre.length + k) * 5 + 1, none⟩ = some (.string ⟨a.tg.toArray⟩) ∧ W.cell? ⟨g2, (pre.length + k) * 5 + 2, none⟩ = some a.vh ∧ W.cell? ⟨g2, (pre.length + k) * 5 + 3, none⟩ = some (.string ⟨a.body.toArray⟩) ∧ W.cell? ⟨g2, (pre.length + k) * 5 + 4, none⟩ = some (.bool a.last)) := fun W hW => ⟨(hW.cell (p := ⟨g2, _, none⟩) hg2).trans hw0, (hW.cell (p := ⟨g2, _, none⟩) hg2).trans hw1, (hW.cell (p := ⟨g2, _, none⟩) hg2).trans hw2, (hW.cell (p := ⟨g2, _, none⟩) hg2).trans hw3, (hW.cell (p := ⟨g2, _, none⟩) hg2).trans hw4⟩
          clear hr3 hat1 hq1 hbx eb1 ec1 hrq hWx hw0 hw1 hw2 hw3 hw4 hae hBwx
          simp only [Pr.vh, Pr.vb, Am.vh] at HK HC1 HC2
          generalize p1.rq = r1 at *
          generalize p1.ah = ah1 at *
          generalize p1.ch = ch1 at *
          generalize p1.ab = ab1 at *
          generalize p1.cb = cb1 at *
          obtain ⟨am, at', aah, ach, aL, abd, ala⟩ := a
          dsimp only at HK HC2
          have HPK : Hid (pre.length + (k + 1) = pre.length + k + 1) := rfl
          generalize hnk : pre.length + k = nk at *
          go_upto_region 32 with (fail)
          refine wp_region_quiet (C := fun W => Below wr.heap.size wr W) (by kernel_rfl) (by kernel_rfl) (belowN (Below.refl _ wr) 1) ?_
          dsimp only
          refine Go.Wb.q_valW (v := .slice (some ⟨g1, 0, none⟩) F.1.length capM) (by kernel_rfl) (fun W _ => by go_simp) ?_
          try simp only [Act.put, List.setIfInBounds_toArray, List.set_cons_zero, List.set_cons_succ]
          refine Go.Wb.q_valW (v := .int .i64 k) (by kernel_rfl) (fun W _ => by go_simp) ?_
          try simp only [Act.put, List.setIfInBounds_toArray, List.set_cons_zero, List.set_cons_succ]
          refine Go.Wb.q_valW (v := .pointer (some ⟨g1, k * 5, none⟩)) (by kernel_rfl) (fun W _ => by go_simp) ?_
          try simp only [Act.put, List.setIfInBounds_toArray, List.set_cons_zero, List.set_cons_succ]
          refine Go.Wb.q_valW (v := .agg #[.string ⟨r1.method.toArray⟩, .string ⟨r1.target.toArray⟩, .slice ah1 r1.headers.length ch1, .slice ab1 r1.body.length cb1, .bool r1.last]) (by kernel_rfl) (fun W hW => by obtain ⟨x0, x1, x2, x3, x4⟩ := HC1.out W hW; go_simp) ?_
          try simp only [Act.put, List.setIfInBounds_toArray, List.set_cons_zero, List.set_cons_succ]
          refine Go.Wb.q_valW (v := .slice (some ⟨g2, 0, none⟩) wt.length cap) (by kernel_rfl) (fun W _ => by go_simp) ?_
          try simp only [Act.put, List.setIfInBounds_toArray, List.set_cons_zero, List.set_cons_succ]
          refine Go.Wb.q_valW (v := .int .i64 nk) (by kernel_rfl) (fun W _ => by go_simp) ?_
          try simp only [Act.put, List.setIfInBounds_toArray, List.set_cons_zero, List.set_cons_succ]
          refine Go.Wb.q_valW (v := .pointer (some ⟨g2, nk * 5, none⟩)) (by kernel_rfl) (fun W _ => by go_simp) ?_
          try simp only [Act.put, List.setIfInBounds_toArray, List.set_cons_zero, List.set_cons_succ]
          refine Go.Wb.q_valW (v := .agg #[.string ⟨am.toArray⟩, .string ⟨at'.toArray⟩, .slice aah aL.length ach, .string ⟨abd.toArray⟩, .bool ala]) (by kernel_rfl) (fun W hW => by obtain ⟨x0, x1, x2, x3, x4⟩ := HC2.out W hW; go_simp) ?_
          try simp only [Act.put, List.setIfInBounds_toArray, List.set_cons_zero, List.set_cons_succ]
          refine Go.Wb.q_callW (v := .bool true) (f := 21) (by kernel_rfl) (fun _ _ => by kernel_rfl) (fun W hW => HK.out W hW) ?_
          try simp only [Act.put, List.setIfInBounds_toArray, List.set_cons_zero, List.set_cons_succ]
          refine Go.Wb.q_valW (v := .bool true) (by kernel_rfl) (fun W _ => by go_simp) ?_
          try simp only [Act.put, List.setIfInBounds_toArray, List.set_cons_zero, List.set_cons_succ]
          refine wpQuiet_nil ?_
          intro W9 hW9
          have hnk2 : nk ≤ 12 := by omega
          have HB9 : Hid (Below wr.heap.size wr W9) := hW9
          clear hW9
          go_wp2
          go_roundw
          case rel => exact ⟨k + 1, by simp, by omega, by rw [HPK.out]; simp, HBX.out.trans (HB9.out.mono HBX.out.size)⟩
          case measure => simp [intOf]; omega
        · have q3 : ¬ (k : Int) < (F.1.length : Int) := by omega
          have HE : Hid (pre.length + k = (fd (newReq 0) (L.take (i + 1)).flatten).1.length) := (by show _ = _; rw [HAPP.out, List.length_append]; omega)
          have HE2 : Hid (F.2 = (fd (newReq 0) (L.take (i + 1)).flatten).2) := (by show _ = _; rw [HAPP.out])
          have HMS9 : Hid (Tryz.Ms 82 wr oP' bp F.2) := HMS8.out.below hbx
          have HW9 : Hid (Wo (fun k => k = bp) w6 wr) := HW8.out.below hbx hs68
          clear hbx
          go_wp2
          go_roundw
          case rel => exact ⟨i + 1, oP', by simp, by omega, by rw [← HE.out], by rw [← HE2.out]; exact HMS9.out, HOP8.out, HW9.out⟩
          case measure => simp [intOf]; omega
    · have q : ¬ (i : Int) < (L.length : Int) := by omega
      have hfs : (L.take i).flatten = s := (flat_all (by omega)).trans HFL.out
      rw [hfs] at hms hfi ⊢
      have hdn := HBK.out.done
      have htl : (fd (newReq 0) s).1.length = wt.length := by rw [HBK.out.told, List.length_map]
      have hat := hfi.at_
      have hbg := hfi.beg
      have ka := Tryz.waits_any hms (by omega) (by omega)
      rw [hdn.2] at ka
      rw [htl]
      have HBE : Hid (Below w.heap.size w wr) := HTO.out wr hwo
      clear hms hfi hfs hdn htl hat hbg hoP hwo
      go_wp2_with (first
        | (go_at_call 16; refine ka.mono ?_; clear ka; rintro e wa ⟨rfl, na, rfl⟩)
        | fail)
      go_ret
      exact ⟨rfl, belowN HBE.out na⟩
end Go.Proofs
