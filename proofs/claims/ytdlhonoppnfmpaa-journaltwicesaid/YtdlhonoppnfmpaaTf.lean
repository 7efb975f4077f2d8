/-
  filled: a disk on which a snapshot and records were put.
-/
import Derived.Test.YtdlhonoppnfmpaaTa
import Derived.Shelf.Bytes.SlSmallAll
namespace Go.Dk
theorem half_bd {n P : Nat} (h : n = 8 + P) (hP : P < 60) : 192 ≤ 64 * half n ∧ 64 * half n ≤ 2112 := by unfold half; omega
end Go.Dk
namespace Go.Proofs
open Go.RowKit Go.Dk
/-- []byte that came in, as a text; it may have no bytes. -/
theorem Try.src_any {w : World} {ad : Option Addr} {n c : Nat} {l : List UInt8} (h : Dk.Src w (.slice ad n c) l) : (convert 22 9 (.slice ad n c)).run Try.prog w = .ok (.string ⟨l.toArray⟩) w := by
  obtain ⟨hn, hc⟩ := h.cell
  rcases hc with rfl | ⟨sb, so, rfl, -⟩
  · subst hn
    exact run_convert_bytes_zero w 22 5 Try.underlying22 Try.underlying5 ad c 9 Try.underlying9
  · exact Try.conv_src h
def Dk.bq (k : Nat) : Nat := 800000 + 3000 * (20 - k)
theorem Try.Fresh.opens {w w1 : World} {x n : Nat} (h : Try.Fresh w w1 x n) :
    Calls Try.prog 10 #[.pointer (some ⟨x, 0, none⟩)] w1 fun r w' => ∃ y ad cap, r = .returned (.tuple #[.pointer (some ⟨y, 0, none⟩), .agg #[.string ⟨#[]⟩, .slice ad 0 cap], .bool true]) ∧ Try.Lt w.heap.size w w' n y x 900000 1 0 [] [] [] [(.agg #[.string ⟨#[]⟩, .slice ad 0 cap], [], [])] := by
  obtain ⟨own, s, h1, h2, h3, h4, h4f, h5⟩ := h.ex
  refine (Try.opens_any h1 h2 h3).mono ?_
  rintro r w' ⟨y', t, rfl, hT⟩
  have hst := hT.st
  obtain ⟨rv, rfl, hr, _⟩ := hst
  obtain ⟨ad, cap, rfl, -⟩ := Dk.row_form hr
  have hs1 := h.bel.size
  have hy0 := hT.y0
  refine ⟨y', ad, cap, rfl, ⟨own, s, hT.jd, ⟨h4, by omega⟩, h5, fun b e => absurd e (by simp), fun v e => ?_⟩, by omega, h.bel.trans (hT.bel.mono hs1)⟩
  simp at e
  subst e
  exact hT.st.mono fun k hk hp => ⟨rfl, fun e1 => by have := h1.lt k e1; omega, hp.2, by omega⟩
section
variable {B : Nat} {w0 w : World} {n y x q g a : Nat} {snap : List UInt8} {recs : List (List UInt8)} {bs : Dk.Bxs} {ss : Dk.Sts}
theorem Try.Lt.great (h : Try.Lt B w0 w n y x q g a snap recs bs ss) (ad : Option Addr) (L cap : Nat) (hL : L < 1000000000000000) (hf : 64 * half n < L) :
    Calls Try.prog 11 #[.pointer (some ⟨y, 0, none⟩), .slice ad L cap] w fun r w' => r = .returned (.int .i64 51) ∧ Try.Lt B w0 w' n y x q g a snap recs bs ss := by
  obtain ⟨own, s, h1, ⟨hn, _⟩, _⟩ := h.ex
  subst hn
  exact (Try.compact_no h1.dsk (by have := h1.ho.n8; omega) h1.jn (by have := h1.ho.g2; omega) ad L cap hL 51 (.inr (.inl ⟨rfl, hf, rfl⟩))).mono fun r w' ⟨e, hb⟩ => ⟨e, h.below hb⟩
/-- A box's text is put anew. -/
theorem Try.Lt.put0 {b : Nat} {ts0 : List UInt8} {tr : List (List UInt8)} (h : Try.Lt B w0 w n y x q g a snap recs [(b, ts0, tr)] []) (ts : List UInt8) :
    Try.Lt B w0 (w.setCell ⟨b, 0, none⟩ (.string ⟨ts.toArray⟩)) n y x q g a snap recs [(b, ts, tr)] [] := by
  obtain ⟨own, s, h1, h2, h3, h4, h5⟩ := h.ex
  have hsz := h.size
  obtain ⟨rv0, k0, k1, k2, k3⟩ := h4 _ (List.mem_singleton.2 rfl)
  simp only at k0 k1 k2 k3
  have hne : ∀ k, rv0.ownBlock = some k → k ≠ b := fun k e => by
    rintro rfl
    rcases k2.2 with ⟨e1, _⟩ | ⟨g', cap, cur, e1, _, e2, _⟩
    · rw [e1] at e; cases e
    · rw [e1] at e
      injection e with e
      simp at e
      subst e
      rw [k0] at e2
      injection e2 with e2
      injection e2 with _ e3 _
      exact absurd e3 (by decide)
  have hwo : Dk.Wo (fun k => k = b) w (w.setCell ⟨b, 0, none⟩ (.string ⟨ts.toArray⟩)) := (Dk.Wo.refl (fun k => k = b) w).setCell b 0 _ (.inl rfl)
  refine ⟨⟨own, s, ⟨h1.dsk.keep (fun k e => hwo.block k (h1.dsk.lt k e) (fun e1 => k1.1 (e1 ▸ e))) hwo.size, h1.jn.wo hwo (fun e => k1.2.1 e.symm), h1.ny, h1.ho, h1.can⟩, h2, h3, fun c e => ?_, fun v e => absurd e (by simp)⟩, h.yb, h.bel.trans (hwo.bel (fun k e => by rw [e]; exact k1.2.2) (by omega))⟩
  obtain rfl := List.mem_singleton.1 e
  exact ⟨rv0, heap_setCell_same w b 0 _ _ _ k0, k1, Dk.row_heap k2 fun k e => hwo.block k (k2.lt k e).2 (hne k e), k3⟩
end
/-- A disk that was filled, and what must be told of it. -/
structure Try.Fd (w w' : World) (x : Nat) (t : Value) (snap : List UInt8) (recs : List (List UInt8)) : Prop where
  ex : ∃ own s g a q, Try.Dsk w' own x s ∧ Holds s g a snap recs ∧ s.Can q
  st : Try.Sta w' (fun k => w.heap.size ≤ k) t snap recs
  bel : Below w.heap.size w w'
set_option maxHeartbeats 4000000 in
set_option maxRecDepth 20000 in
theorem Try.filled_any (b : Int) (v1 : Value) (l : List UInt8) (v2 : Value) (ls : List (List UInt8)) (w : World) (h1 : -9223372036854775808 ≤ b ∧ b ≤ 9223372036854775807) (hP1 : Dk.Src w v1 l) (hl : l.length ≤ 140737488351232) (hP2 : Dk.RowsIn w v2 ls) :
    Calls Try.prog 4 #[.int .i64 b, v1, v2] w fun r w' => ∃ x snap recs ad cap, r = .returned (.tuple #[.pointer (some ⟨x, 0, none⟩), .agg #[.string ⟨snap.toArray⟩, .slice ad recs.length cap]]) ∧ Try.Fd w w' x (.agg #[.string ⟨snap.toArray⟩, .slice ad recs.length cap]) snap recs := by
  have hfm := Try.formatted_any b h1.1 h1.2 (w.alloc (.cells #[.string ⟨#[]⟩, .slice none 0 0] 27))
  have hp1 := Dk.pickN_lt b (n := 60) (by omega)
  obtain ⟨n, hn⟩ : ∃ n, n = 8 + Dk.pickN b 60 := ⟨_, rfl⟩
  have hbm := half_bd hn hp1
  rw [← hn] at hfm
  have hb0 : Below w.heap.size w (w.alloc (.cells #[.string ⟨#[]⟩, .slice none 0 0] 27)) := (Below.refl _ w).alloc (Nat.le_refl _) _
  have HP1 : Hid (Dk.Src w v1 l) := hP1
  have HP2 : Hid (Dk.RowsIn w v2 ls) := hP2
  obtain ⟨ad1, cap1, rfl, -⟩ := hP1.ex
  obtain ⟨ad2, cap2, rfl, hc2, -⟩ := hP2.ex
  have HB0 : Hid (Below w.heap.size w (w.alloc (.cells #[.string ⟨#[]⟩, .slice none 0 0] 27))) := hb0
  have HR0 : Hid ((w.alloc (.cells #[.string ⟨#[]⟩, .slice none 0 0] 27)).heap[w.heap.size]? = some (.cells #[.string ⟨#[]⟩, .slice none 0 0] 27 (0, 0))) := heap_alloc_new w _
  clear hP1 hP2 hn hp1 hb0
  go_enter Try.func4, Try.ntmps4
  go_upto_region 7 with (first
    | (go_at_call 9; refine hfm.mono ?_; clear hfm; rintro e w1 ⟨x, rfl, hF⟩; have hop := hF.opens)
    | (go_at_call 10; refine hop.mono ?_; clear hop; rintro e w2 ⟨y, ad, cap, rfl, hL0⟩; have hL := hL0.box.drop (bs' := [(w2.heap.size, [], [])]) (ss' := []) (fun b e => e) (fun v e => absurd e (by simp)))
    | fail)
  generalize hw0 : w.alloc (.cells #[.string ⟨#[]⟩, .slice none 0 0] 27) = w0 at *
  have hz0 : w0.heap.size = w.heap.size + 1 := by rw [← hw0]; simp
  have hsz := hL.size
  have HZ0 : Hid (w0.heap.size = w.heap.size + 1) := hz0
  generalize hbT : w2.heap.size = bT at *
  generalize hW : w2.alloc _ = W at *
  have HL : Hid (Try.Lt w0.heap.size w0 W n y x 900000 1 0 [] [] [(bT, [], [])] []) := hL
  clear hL hL0 hF hw0 hz0 hW hbT
  go_cut [35] (fun c wx => ∃ (bb : Bool) (g a : Nat) (snap : List UInt8), c = .bool bb ∧ (bb = true → snap = l) ∧ (bb = false → snap = []) ∧ g < 10 ∧ Try.Lt w0.heap.size w0 wx n y x 890000 g a snap [] [(bT, [], [])] [])
  case first =>
    by_cases h0 : 0 < l.length
    · have q0 : (0 : Int) < (l.length : Int) := by omega
      by_cases hfit : l.length ≤ 64 * half n
      · have hco := (HL.out.less (q' := 890000 + 3000) (by omega)).compact _ l ((HP1.out.up HB0.out).up (HL.out.bel)) hfit (by omega)
        go_wp2_with (first
          | (go_at_call 11; refine hco.mono ?_; clear hco; rintro e w3 ⟨rfl, hL3⟩)
          | fail)
        go_meet
        case rel => exact ⟨true, 2, 1, l, rfl, fun _ => rfl, (fun e => by cases e), by omega, hL3⟩
      · have hgr := HL.out.great ad1 l.length cap1 (by omega) (by omega)
        go_wp2_with (first
          | (go_at_call 11; refine hgr.mono ?_; clear hgr; rintro e w3 ⟨rfl, hL3⟩)
          | fail)
        go_meet
        case rel => exact ⟨false, 1, 0, [], rfl, (fun e => by cases e), fun _ => rfl, by omega, hL3.less (by omega)⟩
    · have q0 : ¬ (0 : Int) < (l.length : Int) := by omega
      go_wp2
      go_meet
      case rel => exact ⟨false, 1, 0, [], rfl, (fun e => by cases e), fun _ => rfl, by omega, HL.out.less (by omega)⟩
  case rest =>
    clear HL
    obtain ⟨bb, g, a, snap, rfl, hb1, hb2, hg, hL⟩ := hcut
    have HL : Hid (Try.Lt w0.heap.size w0 wc n y x 890000 g a snap [] [(bT, [], [])] []) := hL
    have HB1 : Hid (bb = true → snap = l) := hb1
    have HB2 : Hid (bb = false → snap = []) := hb2
    clear hL hb1 hb2
    obtain ⟨Wc, hWc⟩ : ∃ W : World, W = wc := ⟨_, rfl⟩
    subst hWc
    go_upto_if 35 with fail
    go_cut [] (fun wx => Try.Lt w0.heap.size w0 wx n y x 890000 g a snap [] [(bT, snap, [])] [])
    case first =>
      cases bb
      · obtain rfl := HB2.out rfl
        go_wp2
        go_meet
        case rel => exact HL.out
      · obtain rfl := HB1.out rfl
        obtain ⟨adx, capx, hbx, -⟩ := HL.out.take (List.mem_singleton.2 rfl)
        have c0 := cell_of_row _ _ 0 _ _ _ hbx
        have f0 := frozen_of_row _ _ 0 _ _ hbx
        simp only [List.getElem?_toArray, List.getElem?_cons_zero] at c0
        have hcv := Try.src_any ((HP1.out.up HB0.out).up (HL.out.bel))
        clear hbx
        go_wp2
        go_meet
        case rel => exact HL.out.put0 snap
    case rest =>
      clear HL HB1 HB2
      have HL : Hid (Try.Lt w0.heap.size w0 wc n y x 890000 g a snap [] [(bT, snap, [])] []) := hcut
      clear hcut
      go_wp2
      go_loopw [12] (fun i wr => ∃ (k : Nat) (rs : List (List UInt8)), i = .int .i64 k ∧ k ≤ 20 ∧ Hid (Try.Lt w0.heap.size w0 wr n y x (Dk.bq k) g a snap rs [(bT, snap, rs)] [])) (fun i _ => 20 - (intOf i).toNat)
      case atStart => exact ⟨0, [], rfl, by omega, HL.out.less (by decide)⟩
      case round =>
        clear HL
        obtain ⟨k, rs, rfl, hk20, HL⟩ := hrel
        have hrl := HL.out.few
        have HBW : Hid (Below w.heap.size w wr) := HB0.out.trans (HL.out.bel.mono (by have := HZ0.out; omega))
        by_cases hk : k < 20 ∧ k < ls.length
        · obtain ⟨hk1, hk2⟩ := hk
          have q0 : (k : Int) < 20 := by omega
          have q1 : (k : Int) < (ls.length : Int) := by omega
          have hqk : Dk.bq k = Dk.bq (k + 1) + 3000 := by unfold Dk.bq; omega
          obtain ⟨d, hd⟩ : ∃ d, ls[k]? = some d := ⟨_, List.getElem?_eq_getElem hk2⟩
          obtain ⟨sb, so, ad3, cap3, rfl, hcell0, hsrc, hdl⟩ := HP2.out.at hd
          have hsb : sb < w.heap.size := World.block_lt_of_cell? _ _ hcell0
          have hcell := (HBW.out.cell (p := ⟨sb, so + k, none⟩) hsb).trans hcell0
          have HS : Hid (Dk.Src w (.slice ad3 d.length cap3) d) := hsrc
          have HC0 : Hid (w.cell? ⟨sb, so + k, none⟩ = some (.slice ad3 d.length cap3)) := hcell0
          clear hd hsrc hcell0
          cases hfit : Dk.fits n (body snap rs).length d.length with
          | true =>
            have h0 : 0 < d.length := by simp only [Dk.fits, decide_eq_true_eq] at hfit; omega
            have hap := (HL.out.less (q' := Dk.bq (k + 1) + 3000) (by omega)).append _ d (HS.out.up HBW.out) hfit
            go_upto_region 13 with (first
              | (go_at_call 12; refine hap.mono ?_; clear hap; rintro e w6 ⟨rfl, hL6⟩)
              | fail)
            obtain ⟨ad9, cap9, hbx9, hL9⟩ := hL6.take (List.mem_singleton.2 rfl)
            have c90 := cell_of_row _ _ 0 _ _ _ hbx9
            have c91 := cell_of_row _ _ 1 _ _ _ hbx9
            simp only [List.getElem?_toArray, List.getElem?_cons_zero, List.getElem?_cons_succ] at c90 c91
            have hb6 : Below w.heap.size w w6 := HB0.out.trans (hL6.bel.mono (by have := HZ0.out; omega))
            have hcell6 := (hb6.cell (p := ⟨sb, so + k, none⟩) hsb).trans HC0.out
            have hcv6 := Try.src_conv ((HS.out.up hb6).up (Below.refl w6.heap.size w6).drew) h0
            have HL9 : Hid _ := hL9
            clear hL6 hL9 hbx9 hcell hb6
            go_region_with (first
              | (go_at_call 13; refine ((HL9.out.below (Below.refl w6.heap.size w6).drew).with hrl d).mono ?_; rintro e w10 ⟨ad10, cap10, rfl, hL10⟩; obtain ⟨ad11, cap11, hbx10, -⟩ := hL10.take (List.mem_singleton.2 rfl); have c100 := cell_of_row _ _ 0 _ _ _ hbx10; have c101 := cell_of_row _ _ 1 _ _ _ hbx10; simp only [List.getElem?_toArray, List.getElem?_cons_zero, List.getElem?_cons_succ] at c100 c101; have f100 := frozen_of_row _ _ 0 _ _ hbx10; have f101 := frozen_of_row _ _ 1 _ _ hbx10; have HL10 : Hid _ := hL10; clear hL10 hbx10)
              | fail)
            all_goals
              go_wp2
              go_roundw
              case rel => exact ⟨k + 1, rs ++ [d], by go_num, by omega, (HL10.out.put (List.mem_singleton.2 rfl) (fun c hc => .inl (List.mem_singleton.1 hc))).solo⟩
              case measure => simp [intOf]; omega
          | false =>
            have hfu := HL.out.full ad3 d.length cap3 (by omega) hfit
            obtain ⟨cc, hcc⟩ : ∃ cc : Int, cc = if d.length = 0 ∨ 6000 < d.length then 52 else 51 := ⟨_, rfl⟩
            have hc0 : cc ≠ 0 := by rw [hcc]; split <;> decide
            rw [← hcc] at hfu
            clear hcc
            go_wp2_with (first
              | (go_at_call 12; refine hfu.mono ?_; clear hfu; rintro e w6 ⟨rfl, hL6⟩)
              | fail)
            go_roundw
            case rel => exact ⟨k + 1, rs, by go_num, by omega, hL6.less (by omega)⟩
            case measure => simp [intOf]; omega
        · have hex : ¬ (k : Int) < (ls.length : Int) ∨ ((k : Int) < (ls.length : Int) ∧ ¬ (k : Int) < 20) := by omega
          clear hk
          obtain ⟨adt, capt, hbx, hL9⟩ := HL.out.take (List.mem_singleton.2 rfl)
          have c0 := cell_of_row _ _ 0 _ _ _ hbx
          have c1 := cell_of_row _ _ 1 _ _ _ hbx
          simp only [List.getElem?_toArray, List.getElem?_cons_zero, List.getElem?_cons_succ] at c0 c1
          have hres := (HL.out.bel.block w.heap.size (by have := HZ0.out; omega)).trans HR0.out
          have d0 := cell_of_row _ _ 0 _ _ _ hres
          have d1 := cell_of_row _ _ 1 _ _ _ hres
          have e0 := frozen_of_row _ _ 0 _ _ hres
          have e1 := frozen_of_row _ _ 1 _ _ hres
          simp only [List.getElem?_toArray, List.getElem?_cons_zero, List.getElem?_cons_succ] at d0 d1
          have HRES : Hid (wr.heap[w.heap.size]? = some (.cells #[.string ⟨#[]⟩, .slice none 0 0] 27 (0, 0))) := hres
          have HL9 : Hid _ := hL9
          clear hbx hL9 hres
          rcases hex with q1 | ⟨q1, q0⟩
          all_goals
            go_wp2
            go_region
            all_goals
              go_wp2
              have hC := Dk.two_cells HRES.out (.string ⟨snap.toArray⟩) (.slice adt rs.length capt)
              have g0 := cell_of_row _ _ 0 _ _ _ hC
              have g1 := cell_of_row _ _ 1 _ _ _ hC
              simp only [List.getElem?_toArray, List.getElem?_cons_zero, List.getElem?_cons_succ] at g0 g1
              refine bodyPost_ret (v := .tuple #[.pointer (some ⟨x, 0, none⟩), .agg #[.string ⟨snap.toArray⟩, .slice adt rs.length capt]]) (by simp [results, go_sem, g0, g1]) rfl ?_
              have hwo : Dk.Wo (fun k => k = w.heap.size) wr ((wr.setCell ⟨w.heap.size, 0, none⟩ (.string ⟨snap.toArray⟩)).setCell ⟨w.heap.size, 1, none⟩ (.slice adt rs.length capt)).drew := (((Dk.Wo.refl (fun k => k = w.heap.size) wr).setCell _ 0 _ (.inl rfl)).setCell _ 1 _ (.inl rfl)).drew
              obtain ⟨own, s, m1, -, m3, -, m5⟩ := HL9.out.ex
              have hz := HZ0.out
              refine ⟨x, snap, rs, adt, capt, rfl, ⟨own, s, g, a, Dk.bq k, m1.dsk.keep (fun j e => hwo.block j (m1.dsk.lt j e) (fun e1 => by have := m3 j e; omega)) hwo.size, m1.ho, m1.can⟩, (m5 _ List.mem_cons_self).mono fun j hj hp => ⟨hwo.block j hj (by have := hp.2.2; omega), by have := hp.2.2; omega⟩, HBW.out.trans (hwo.bel (fun j e => by rw [e]; exact Nat.le_refl _) HBW.out.size)⟩
end Go.Proofs
