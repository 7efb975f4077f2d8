/-
  Laid together by packg.py of LawReplies.
-/
import Derived.Test.YtflnijbedicbhaaGreatDoorPwE
import Derived.Test.YtflnijbedicbhaaGreatDoorPwR
namespace Go.Wb
open Go.RowKit Go.Proofs Go.Wi
theorem rd_le (m : Msg) (l : List UInt8) : (rd m l).2 ≤ l.length := by
  induction l generalizing m with
  | nil => exact Nat.le_refl _
  | cons c r ih =>
    show (if over m then (m, 0) else ((rd (bite m c) r).1, (rd (bite m c) r).2 + 1)).2 ≤ _
    split
    · exact Nat.zero_le _
    · rw [List.length_cons]; exact Nat.succ_le_succ (ih _)
theorem cat2r (a b : List UInt8) : (⟨a.toArray⟩ : ByteArray) ++ ⟨b.toArray⟩ = ⟨(a ++ b).toArray⟩ := by
  apply ByteArray.ext
  simp [ByteArray.data_append]
/-- The first of some headers. -/
theorem Hs.first {w : World} {ad : Option Addr} {n c : Nat} {L : List (List UInt8 × List UInt8)} (h : Hs w (.slice ad n c) L) {m : Nat} (hm : m ≤ L.length) : Hs w (.slice ad m c) (L.take m) := by
  obtain ⟨ad', c', e, hx⟩ := h.ex
  injection e with e1 e2 e3
  subst e1 e2 e3
  have hl : (L.take m).length = m := by rw [List.length_take]; omega
  refine ⟨⟨ad, c, by rw [hl], ?_⟩, ?_⟩
  · rcases hx with rfl | hx
    · exact .inl (by simp)
    · obtain ⟨g, o, e, hg, hc⟩ := hx
      exact .inr ⟨g, o, e, hg, fun j hj => by have := hc j (by omega); simpa using this⟩
  · rcases h.nz with e | ⟨a, n', c', e⟩
    · injection e with e1 e2 e3
      subst e1 e3
      have : m = 0 := by omega
      subst this
      exact .inl rfl
    · injection e with e1 e2 e3
      subst e1
      exact .inr ⟨_, _, _, rfl⟩
theorem bs_first {w : World} {ad : Option Addr} {n c : Nat} {l : List UInt8} (h : Bs w (.slice ad n c) l) {m : Nat} (hm : m ≤ l.length) : Bs w (.slice ad m c) (l.take m) := by
  obtain ⟨ad', c', e, hc, hn, hx⟩ := h.ex
  injection e with e1 e2 e3
  subst e1 e2 e3
  have hl : (l.take m).length = m := by rw [List.length_take]; omega
  refine ⟨ad, c, by rw [hl], by omega, hn, ?_⟩
  rcases hx with rfl | ⟨g, o, e, hg, hx⟩
  · exact .inl (by simp)
  · refine .inr ⟨g, o, e, hg, fun j u hu => hx j u ?_⟩
    have e2 : Lib.byteCells (l.take m) = (Lib.byteCells l).take m := by simp [Lib.byteCells]
    rw [e2, List.getElem?_take] at hu
    split at hu
    · exact hu
    · cases hu
end Go.Wb
namespace Go.Proofs
open Go.RowKit Go.Wi Go.Wb
set_option maxRecDepth 20000 in
set_option maxHeartbeats 4000000 in
theorem Tryz.webReplies_go {w : World} (meth tg : ByteArray) {V : Value} {L : List (List UInt8 × List UInt8)} (hV : Hs w V L) (body : List UInt8) (last : Bool) (st : Int) (behind : List UInt8) (cut : Int) (hbl : body.length ≤ 140737488351232) (hbh : behind.length ≤ 140737488351232) (hLl : L.length ≤ 4398046510976) (hhl : ∀ x ∈ L, x.1.length ≤ 140737488351232 ∧ x.2.length ≤ 140737488351232) (_hst : -9223372036854775808 ≤ st ∧ st ≤ 9223372036854775807) (hcu : -9223372036854775808 ≤ cut ∧ cut ≤ 9223372036854775807) (htab : Lib.TabIs Tryz.prog w "internal/strconv.uint64pow10" .u64 Lib.pow10Tab) :
    Calls Tryz.prog 3 #[.agg #[.string meth, .string tg, V, .string ⟨body.toArray⟩, .bool last], .int .i64 st, .string ⟨behind.toArray⟩, .int .i64 cut] w fun e w' => e = .returned (.bool true) ∧ Below w.heap.size w w' := by
  obtain ⟨adV, capV, eV, -⟩ := hV.ex
  subst eV
  have hA : Below w.heap.size w (w.alloc (.cells #[.string meth, .string tg, .slice adV L.length capV, .string ⟨body.toArray⟩, .bool last] 24)) := (Below.refl _ w).alloc (Nat.le_refl _) _
  have k0 := Tryz.shown_any (Lib.tabBelow_of_tabIs htab _ hA)
  have HTAB : Hid _ := htab
  have HA : Hid _ := hA
  have HC : Hid (∀ W, Below (w.heap.size + 1) (w.alloc (.cells #[.string meth, .string tg, .slice adV L.length capV, .string ⟨body.toArray⟩, .bool last] 24)) W → W.cell? ⟨w.heap.size, 2, none⟩ = some (.slice adV L.length capV) ∧ W.cell? ⟨w.heap.size, 3, none⟩ = some (.string ⟨body.toArray⟩) ∧ W.cell? ⟨w.heap.size, 4, none⟩ = some (.bool last)) := fun W hW => by
    have hn := heap_alloc_new w (.cells #[.string meth, .string tg, .slice adV L.length capV, .string ⟨body.toArray⟩, .bool last] 24)
    exact ⟨(hW.cell (p := ⟨w.heap.size, 2, none⟩) (Nat.lt_succ_self _)).trans (cell_of_row _ _ 2 _ _ _ hn), (hW.cell (p := ⟨w.heap.size, 3, none⟩) (Nat.lt_succ_self _)).trans (cell_of_row _ _ 3 _ _ _ hn), (hW.cell (p := ⟨w.heap.size, 4, none⟩) (Nat.lt_succ_self _)).trans (cell_of_row _ _ 4 _ _ _ hn)⟩
  have hsz : (w.alloc (.cells #[.string meth, .string tg, .slice adV L.length capV, .string ⟨body.toArray⟩, .bool last] 24)).heap.size = w.heap.size + 1 := by simp
  have HS : Hid _ := hsz
  clear htab hA hsz
  have hz := text_size body
  have hcv := Tryz.conv_text body
  have HV : Hid (Hs w (.slice adV L.length capV) L) := hV
  have HHL : Hid _ := hhl
  clear hV hhl
  by_cases hmany : body.length > 999999999
  · have hq : (body.length : Int) > 999999999 := by omega
    go_enter Tryz.func3, Tryz.ntmps3
    go_wp2_with (first
      | (go_at_call 7; refine k0.mono ?_; clear k0; rintro e w1 ⟨rfl, hb1⟩; rw [HS.out] at hb1; obtain ⟨c2, c3, c4⟩ := HC.out w1 hb1; have HB1 : Hid (Below w.heap.size w w1) := HA.out.trans (hb1.mono (Nat.le_succ _)))
      | fail)
    go_ret
    exact ⟨rfl, HB1.out⟩
  have hq : ¬ (body.length : Int) > 999999999 := by omega
  go_enter Tryz.func3, Tryz.ntmps3
  go_upto_region 4 with (first
    | (go_at_call 7; refine k0.mono ?_; clear k0; rintro e w1 ⟨rfl, hb1⟩; rw [HS.out] at hb1; obtain ⟨c2, c3, c4⟩ := HC.out w1 hb1; have HB1 : Hid _ := hb1)
    | fail)
  have hbw := bytesW_below w1 5 ⟨body.toArray⟩
  have hs1 := hb1.size
  rw [HS.out] at hs1
  have hbW : Below (w.heap.size + 1) (w.alloc (.cells #[.string meth, .string tg, .slice adV L.length capV, .string ⟨body.toArray⟩, .bool last] 24)) (Lib.bytesWorld w1 5 ⟨body.toArray⟩) := hb1.trans (hbw.mono hs1)
  have d := HC.out _ hbW
  have hBw : Below w.heap.size w (Lib.bytesWorld w1 5 ⟨body.toArray⟩) := HA.out.trans (hbW.mono (Nat.le_succ _))
  have hVw := HV.out.below hBw
  have hO := Og.start w1 5 ⟨body.toArray⟩ (Nat.le_refl _)
  rw [text_size body] at hO
  have hY : Bs (Lib.bytesWorld w1 5 ⟨body.toArray⟩) (.slice (some ⟨w1.heap.size, 0, none⟩) body.length (grownCap w1 body.length 0 5)) body := hO.bs
  have hYl : ∀ k, (Value.slice (some ⟨w1.heap.size, 0, none⟩) body.length (grownCap w1 body.length 0 5)).ownBlock = some k → k < (Lib.bytesWorld w1 5 ⟨body.toArray⟩).heap.size := fun k e => (hO.lt k e).2
  have HHL2 : Hid (∀ x ∈ L, x.1.length ≤ 140737488355328 ∧ x.2.length ≤ 140737488355328) := fun x hx => ⟨Nat.le_trans (HHL.out x hx).1 (by omega), Nat.le_trans (HHL.out x hx).2 (by omega)⟩
  have HBW : Hid _ := hBw
  have HBX : Hid _ := hbW
  have kp : Calls Tryz.prog 8 #[.agg #[.int .i64 st, .slice adV L.length capV, .slice (some ⟨w1.heap.size, 0, none⟩) body.length (grownCap w1 body.length 0 5), .bool last]] (Lib.bytesWorld w1 5 ⟨body.toArray⟩) fun e w' => Below (Lib.bytesWorld w1 5 ⟨body.toArray⟩).heap.size (Lib.bytesWorld w1 5 ⟨body.toArray⟩) w' ∧ ∃ R n, e = .returned (.tuple #[R, .int .i64 n]) ∧ ((n ≠ 0 ∧ R = .slice none 0 0) ∨ (n = 0 ∧ mayPrint st L body = true ∧ printedOk (prLine Lib.itoa st) (prHeads Lib.itoa st L body last) ∧ Og w' 0 R (printedT (prLine Lib.itoa st) (prHeads Lib.itoa st L body last) body))) := by
    cases hm : mayPrint st L body with
    | false =>
      refine (Tryz.printResponse_no st last hVw hY HHL2.out (by omega) (by omega) hm).mono ?_
      rintro e w' ⟨rfl, hb⟩
      exact ⟨hb, _, 180, rfl, .inl ⟨by decide, rfl⟩⟩
    | true =>
      refine (Tryz.printResponse_yes Lib.itoa st last hVw hY hYl HHL2.out (by omega) (by omega) (fun n W h0 h1 hW => Tryz.itoa_any HTAB.out n W h0 h1 (hBw.trans (hW.mono hBw.size))) (fun n h0 h1 => by have := Lib.itoa_length_le n (by omega) h1; omega) hm).mono ?_
      rintro e w' ⟨hb, h⟩
      rcases h with ⟨q1, R, rfl, q2⟩ | ⟨_, rfl⟩
      · exact ⟨hb, R, 0, rfl, .inr ⟨rfl, rfl, q1, q2.mono (Nat.zero_le _)⟩⟩
      · exact ⟨hb, _, 181, rfl, .inl ⟨by decide, rfl⟩⟩
  clear hVw hY hYl hO hBw hbW hbw hs1 hb1
  obtain ⟨d2, d3, d4⟩ := d
  go_upto_region 5 with (first
    | (go_at_call 8; refine kp.mono ?_; clear kp hcv; rintro e w2 ⟨hb2, R, nE, rfl, hR⟩)
    | fail)
  have hB2 : Below w.heap.size w w2 := HBW.out.trans (hb2.mono HBW.out.size)
  have hX2 : Below (w.heap.size + 1) (w.alloc (.cells #[.string meth, .string tg, .slice adV L.length capV, .string ⟨body.toArray⟩, .bool last] 24)) w2 := HBX.out.trans (hb2.mono (by have := HBX.out.size; rw [HS.out] at this; exact this))
  rcases hR with ⟨hn, rfl⟩ | ⟨rfl, hm, hok, hO⟩
  · have HB2 : Hid _ := hB2
    clear hb2 hB2 hX2
    have qn : ¬ (nE : Int) = 0 := hn
    go_wp2
    go_ret
    exact ⟨rfl, HB2.out⟩
  · obtain ⟨m', r1, r2, r3, r4, r5, r6⟩ := resp_read (last := last) hm hok (by omega)
    generalize hT : printedT (prLine Lib.itoa st) (prHeads Lib.itoa st L body last) body = T at *
    have hTl : T.length ≤ 1000003000 := by
      rw [← hT]
      have h2 := hok.2
      unfold printedT
      have h3 : headSize (prLine Lib.itoa st) (prHeads Lib.itoa st L body last) = (prLine Lib.itoa st).length + 4 + (headText (prHeads Lib.itoa st L body last)).length := by
        unfold headSize
        rw [headText_len]
      simp only [List.length_append, List.length_cons, List.length_nil]
      omega
    have hT0 : 0 < T.length := by
      rw [← hT]
      unfold printedT
      simp only [List.length_append, List.length_cons, List.length_nil]
      omega
    have hrd := rd_response r1 r2 behind
    have hhe : (prHeads Lib.itoa st L body last).take L.length = L := by
      unfold prHeads
      rw [List.append_assoc, List.take_left]
    have hhl : L.length ≤ (prHeads Lib.itoa st L body last).length := by
      unfold prHeads
      simp only [List.length_append]
      omega
    generalize prHeads Lib.itoa st L body last = PH at *
    have hpk := pickN_lt cut (n := T.length) hT0
    have hbg := rd_begin r1 (pickN cut T.length) hpk
    have HO : Hid (Og w2 0 R T) := hO
    have hbsR := hO.bs
    have hltR := hO.lt
    obtain ⟨gR, cR, eR, -, -, hcR, -⟩ := hO
    subst eR
    have v1 := Tryz.conv_bs hbsR
    have hfe : m'.fErr = 0 := by
      have := r2
      unfold whole at this
      simp only [Bool.and_eq_true, beq_iff_eq] at this
      exact this.2
    obtain ⟨TB, hTB⟩ : ∃ TB, TB = T ++ behind := ⟨_, rfl⟩
    rw [← hTB] at hrd
    have hcat : (⟨T.toArray⟩ : ByteArray) ++ ⟨behind.toArray⟩ = ⟨TB.toArray⟩ := by rw [cat2r, hTB]
    have hTBl : TB.length ≤ 140738488400000 := by rw [hTB, List.length_append]; omega
    have hcv2 : ∀ W, (convert 9 26 (.string ((⟨T.toArray⟩ : ByteArray) ++ ⟨behind.toArray⟩))).run Tryz.prog W = .ok (.slice (some ⟨W.heap.size, 0, none⟩) TB.length (grownCap W TB.length 0 5)) (Lib.bytesWorld W 5 ⟨TB.toArray⟩) := fun W => by
      rw [hcat]
      exact Tryz.conv_text TB W
    have kq : Calls Tryz.prog 9 #[.slice (some ⟨w2.heap.size, 0, none⟩) TB.length (grownCap w2 TB.length 0 5)] (Lib.bytesWorld w2 5 ⟨TB.toArray⟩) fun e w' => ∃ ah ch ab cb, e = .returned (.tuple #[.agg #[.int .i64 st, .slice ah PH.length ch, .slice ab body.length cb, .bool last], .int .i64 T.length, .nilIface]) ∧ Hs w' (.slice ah PH.length ch) PH ∧ PH.length ≤ ch ∧ Bs w' (.slice ab body.length cb) body ∧ (∀ k, (Value.slice ab body.length cb).ownBlock = some k → k < w'.heap.size) ∧ Below w2.heap.size w2 w' := by
      have hO2 := Og.start w2 5 ⟨TB.toArray⟩ (Nat.le_refl _)
      rw [text_size TB] at hO2
      have hb := bytesW_below w2 5 ⟨TB.toArray⟩
      refine (Tryz.parse_any (l := TB) hO2.bs (fun k e => (hO2.lt k e).2) (by rw [hrd]; show T.length ≤ _; omega) (by omega)).mono ?_
      rintro e w' ⟨⟨ah, ch, ab, cb, ev, he, hx, hev⟩, hb'⟩
      rw [hrd] at he hx hev
      simp only at he hx hev
      rw [r2, if_pos rfl, if_pos rfl, r3, r4, r5, r6] at he
      obtain ⟨x1, x2, x3⟩ := hx r2
      rw [r4] at x1
      rw [r5] at x2
      rcases hev with ⟨_, rfl⟩ | ⟨q, _⟩
      · refine ⟨ah, ch, ab, cb, he, Hs.ofRow x1, ?_, Bs.ofRow x2, fun k e => (x2.lt k e).2, hb.trans (hb'.mono hb.size)⟩
        rcases x1.2 with ⟨e1, e2⟩ | ⟨g, c, cur, e1, _, _, e3, _⟩
        · injection e1 with _ _ e4; omega
        · injection e1 with _ _ e4; omega
      · exact absurd hfe q
    have hbd : ¬ 9223372036854775807 < T.length + behind.length := by omega
    have HX2 : Hid _ := hX2
    have HB2 : Hid _ := hB2
    have HBR : Hid (Bs w2 (.slice (some ⟨gR, 0, none⟩) T.length cR) T) := hbsR
    have HLR : Hid (∀ k, (Value.slice (some ⟨gR, 0, none⟩) T.length cR).ownBlock = some k → 0 ≤ k ∧ k < w2.heap.size) := hltR
    clear hb2 hB2 hX2 hm hok hT r1 r2 r3 r4 r5 r6 hrd hcat hTB hbsR hltR hfe HBW HBX d2 d3 d4 c2 c3 c4
    go_upto_region 10 with (first
      | (go_at_call 9; refine kq.mono ?_; clear kq hcv2; rintro e w3 ⟨ah, ch, ab, cb, rfl, hH3, hch, hbs3, hlt3, hb3⟩)
      | fail)
    have hn4 := heap_alloc_new w3 (.cells #[.int .i64 st, .slice ah PH.length ch, .slice ab body.length cb, .bool last] 31)
    have hb4 : Below w3.heap.size w3 (w3.alloc (.cells #[.int .i64 st, .slice ah PH.length ch, .slice ab body.length cb, .bool last] 31)) := (Below.refl _ w3).alloc (Nat.le_refl _) _
    generalize w3.alloc (.cells #[.int .i64 st, .slice ah PH.length ch, .slice ab body.length cb, .bool last] 31) = w4 at *
    have hb24 : Below w2.heap.size w2 w4 := hb3.trans (hb4.mono hb3.size)
    have hs2 := HX2.out.size
    rw [HS.out] at hs2
    have hX4 := HX2.out.trans (hb24.mono hs2)
    have hB4 := HB2.out.trans (hb24.mono HB2.out.size)
    have f0 : w4.cell? ⟨w3.heap.size, 0, none⟩ = some (.int .i64 st) := cell_of_row _ _ 0 _ _ _ hn4
    have f1 : w4.cell? ⟨w3.heap.size, 1, none⟩ = some (.slice ah PH.length ch) := cell_of_row _ _ 1 _ _ _ hn4
    have f2 : w4.cell? ⟨w3.heap.size, 2, none⟩ = some (.slice ab body.length cb) := cell_of_row _ _ 2 _ _ _ hn4
    have f3 : w4.cell? ⟨w3.heap.size, 3, none⟩ = some (.bool last) := cell_of_row _ _ 3 _ _ _ hn4
    obtain ⟨g2, g3, g4⟩ := HC.out w4 hX4
    have v2 := Tryz.conv_bs (hbs3.below hb4 hlt3)
    have q1 : ¬ (PH.length : Int) < (L.length : Int) := by omega
    have hlt4 := block_lt hn4
    have HN4 : Hid _ := hn4
    have HX4 : Hid _ := hX4
    have HB4 : Hid _ := hB4
    have HH4 : Hid (Hs w4 (.slice ah L.length ch) L) := (by have := (hH3.below hb4).first hhl; rw [hhe] at this; exact this)
    have HV4 : Hid (Hs w4 (.slice adV L.length capV) L) := HV.out.below hB4
    have HBR4 : Hid (Bs w4 (.slice (some ⟨gR, 0, none⟩) T.length cR) T) := HBR.out.below hb24 fun k e => (HLR.out k e).2
    have hgR : gR < w4.heap.size := Nat.lt_of_lt_of_le (HLR.out gR rfl).2 hb24.size
    clear hn4 hb4 hb24 hX4 hB4 hH3 hbs3 hlt3 hb3 HBR HLR HO v1 hhe
    go_upto_region 12 with (fail)
    have HF4 : Hid (∀ W, Below w4.heap.size w4 W → W.cell? ⟨w3.heap.size, 1, none⟩ = some (.slice ah PH.length ch) ∧ W.cell? ⟨w.heap.size, 2, none⟩ = some (.slice adV L.length capV)) := fun W hW => ⟨(hW.cell (p := ⟨w3.heap.size, 1, none⟩) hlt4).trans f1, (HC.out W (HX4.out.trans (hW.mono (by have := HX4.out.size; rw [HS.out] at this; exact this)))).1⟩
    have qc : L.length ≤ ch := by omega
    refine wp_region_quiet (C := fun W => Below w4.heap.size w4 W) (by kernel_rfl) (by kernel_rfl) (belowN (Below.refl _ w4) 1) ?_
    dsimp only
    refine Go.Wb.q_valW (v := .pointer (some ⟨w3.heap.size, 1, none⟩)) (by kernel_rfl) (fun W _ => by go_simp) ?_
    try simp only [Act.put, List.setIfInBounds_toArray, List.set_cons_zero, List.set_cons_succ]
    refine Go.Wb.q_valW (v := .slice ah PH.length ch) (by kernel_rfl) (fun W hW => by have x0 := (HF4.out W hW).1; go_simp) ?_
    try simp only [Act.put, List.setIfInBounds_toArray, List.set_cons_zero, List.set_cons_succ]
    refine Go.Wb.q_valW (v := .pointer (some ⟨w.heap.size, 2, none⟩)) (by kernel_rfl) (fun W _ => by go_simp) ?_
    try simp only [Act.put, List.setIfInBounds_toArray, List.set_cons_zero, List.set_cons_succ]
    refine Go.Wb.q_valW (v := .slice adV L.length capV) (by kernel_rfl) (fun W hW => by have x0 := (HF4.out W hW).2; go_simp) ?_
    try simp only [Act.put, List.setIfInBounds_toArray, List.set_cons_zero, List.set_cons_succ]
    refine Go.Wb.q_valW (v := .int .i64 L.length) (by kernel_rfl) (fun W _ => by go_simp) ?_
    try simp only [Act.put, List.setIfInBounds_toArray, List.set_cons_zero, List.set_cons_succ]
    refine Go.Wb.q_valW (v := .slice ah L.length ch) (by kernel_rfl) (fun W _ => by go_simp) ?_
    try simp only [Act.put, List.setIfInBounds_toArray, List.set_cons_zero, List.set_cons_succ]
    refine Go.Wb.q_valW (v := .pointer (some ⟨w.heap.size, 2, none⟩)) (by kernel_rfl) (fun W _ => by go_simp) ?_
    try simp only [Act.put, List.setIfInBounds_toArray, List.set_cons_zero, List.set_cons_succ]
    refine Go.Wb.q_valW (v := .slice adV L.length capV) (by kernel_rfl) (fun W hW => by have x0 := (HF4.out W hW).2; go_simp) ?_
    try simp only [Act.put, List.setIfInBounds_toArray, List.set_cons_zero, List.set_cons_succ]
    refine Go.Wb.q_callW (v := .bool true) (f := 10) (args := #[.slice ah L.length ch, .slice adV L.length capV]) (by kernel_rfl) (fun _ _ => by kernel_rfl) (fun W hW => (Tryz.headers_same (HH4.out.below hW) (HV4.out.below hW) (by omega)).mono fun _ _ ⟨h2, n, h3⟩ => ⟨h2, by rw [h3]; exact belowN hW n⟩) ?_
    try simp only [Act.put, List.setIfInBounds_toArray, List.set_cons_zero, List.set_cons_succ]
    refine Go.Wb.q_valW (v := .bool true) (by kernel_rfl) (fun W _ => by go_simp) ?_
    try simp only [Act.put, List.setIfInBounds_toArray, List.set_cons_zero, List.set_cons_succ]
    refine wpQuiet_nil ?_
    intro w5 hb5
    have HB5 : Hid (Below w.heap.size w w5) := HB4.out.trans (hb5.mono HB4.out.size)
    have hBR5 := HBR4.out.below (B := w4.heap.size) hb5 fun k e => by cases e; exact hgR
    have hgR5 : gR < w5.heap.size := Nat.lt_of_lt_of_le hgR hb5.size
    have kpk := Tryz.pick_any cut T.length hT0 (by omega) hcu.1 hcu.2 w5
    generalize pickN cut T.length = kk at *
    have kq2 : Calls Tryz.prog 9 #[.slice (some ⟨gR, 0, none⟩) kk cR] w5 fun e w' => e = .returned (.tuple #[.agg #[.int .i64 0, .slice none 0 0, .slice none 0 0, .bool false], .int .i64 0, .nilIface]) ∧ Below w5.heap.size w5 w' := by
      refine (Tryz.parse_any (bs_first hBR5 (m := kk) (by omega)) (fun k e => by cases e; exact hgR5) (by have h1 := rd_le newRes (T.take kk); rw [List.length_take] at h1; omega) (by rw [List.length_take]; omega)).mono ?_
      rintro e w' ⟨⟨ah', ch', ab', cb', ev', he, -, hev⟩, hb'⟩
      rw [hbg.1, if_neg Bool.false_ne_true, if_neg Bool.false_ne_true] at he
      rcases hev with ⟨_, rfl⟩ | ⟨q, _⟩
      · exact ⟨he, hb'⟩
      · exact absurd hbg.2 q
    have qk : kk ≤ cR := by omega
    clear HH4 HV4 HBR4 HF4 f0 f1 f2 f3 g2 g3 g4 v2 hBR5 hb5
    go_wp2_with (first
      | (go_at_call 11; refine kpk.mono ?_; clear kpk; rintro e w6 ⟨rfl, rfl⟩)
      | (go_at_call 9; refine kq2.mono ?_; clear kq2; rintro e w7 ⟨rfl, hb7⟩)
      | fail)
    go_ret
    refine ⟨rfl, ?_⟩
    have hB7 := HB5.out.trans (hb7.mono HB5.out.size)
    exact hB7.alloc hB7.size _
theorem Tryz.webRepliesWalk {w : World} (m t x0 : ByteArray) {V : Value} {L : List (List UInt8 × List UInt8)} (l : Bool) (hV : Hs w V L) (u0 : x0.size ≤ 140737488351232) (hL : L.length ≤ 4398046510976) (hLL : ∀ h ∈ L, h.1.length ≤ 140737488351232 ∧ h.2.length ≤ 140737488351232) (st : Int) (bs : -9223372036854775808 ≤ st ∧ st ≤ 9223372036854775807) (x2 : ByteArray) (u2 : x2.size ≤ 140737488351232) (cut : Int) (bc : -9223372036854775808 ≤ cut ∧ cut ≤ 9223372036854775807) (hT : Lib.TabIs Tryz.prog w "internal/strconv.uint64pow10" .u64 Lib.pow10Tab) :
    Calls Tryz.prog 3 #[.agg #[.string m, .string t, V, .string x0, .bool l], .int .i64 st, .string x2, .int .i64 cut] w fun e w' => e = .returned (.bool true) ∧ Below w.heap.size w w' :=
  Tryz.webReplies_go m t hV x0.data.toList l st x2.data.toList cut u0 u2 hL hLL bs bc hT
end Go.Proofs
