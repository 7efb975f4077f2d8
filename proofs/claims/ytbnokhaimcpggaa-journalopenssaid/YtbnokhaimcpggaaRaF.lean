/-
  Laid together by packg.py of OqD OqE OqF.
-/
import Derived.Test.YtbnokhaimcpggaaRaC
import Derived.Test.YtbnokhaimcpggaaRaD
import Derived.Test.YtbnokhaimcpggaaOpC
namespace Go.Dk
/-- Where the record i begins. -/
def fr : Nat → List (List UInt8) → Nat → Nat
  | p, [], _ => p
  | p, _ :: _, 0 => p
  | p, d :: r, i + 1 => fr (p + 7 + d.length) r i
theorem fr_zero (p : Nat) (recs : List (List UInt8)) : fr p recs 0 = p := by cases recs <;> rfl
theorem fr_succ : ∀ (recs : List (List UInt8)) (p i : Nat) (d : List UInt8), recs[i]? = some d → fr p recs (i + 1) = fr p recs i + 7 + d.length
  | [], _, _, _, h => by simp at h
  | c :: r, p, 0, d, h => by simp at h; subst h; simp [fr, fr_zero]
  | c :: r, p, i + 1, d, h => by
    show fr (p + 7 + c.length) r (i + 1) = fr (p + 7 + c.length) r i + 7 + d.length
    exact fr_succ r _ i d (by simpa using h)
theorem recCs_fr (g : Nat) : ∀ (recs : List (List UInt8)) (p i : Nat) (d : List UInt8), recs[i]? = some d → (Go.Proofs.Dk.recCs g p recs)[i]? = some (.slice (some ⟨g, fr p recs i + 7, none⟩) d.length d.length)
  | [], _, _, _, h => by simp at h
  | c :: r, p, 0, d, h => by simp at h; subst h; simp [fr, Go.Proofs.Dk.recCs]
  | c :: r, p, i + 1, d, h => by
    have := recCs_fr g r (p + 7 + c.length) i d (by simpa using h)
    simpa [fr, Go.Proofs.Dk.recCs] using this
theorem cut_fr {R : List UInt8} : ∀ (recs : List (List UInt8)) (p e : Nat), cut R p = (recs, e) → ∀ (i : Nat) (d : List UInt8), recs[i]? = some d → (R.drop (fr p recs i + 7)).take d.length = d ∧ fr p recs i + 7 + d.length ≤ R.length
  | [], _, _, _, i, d, hi => by simp at hi
  | d0 :: r, p, e, h, i, d, hi => by
    cases hra : recAt R p with
    | none => rw [cut_none hra] at h; cases h
    | some d' =>
      rw [cut_some hra] at h
      injection h with h1 h2
      injection h1 with h3 h4
      subst h3
      obtain ⟨k1, k2, k3, k4⟩ := recAt_some hra
      cases i with
      | zero =>
        simp at hi
        subst hi
        exact ⟨k4.symm, k1⟩
      | succ i =>
        simp at hi
        exact cut_fr r (p + 7 + d'.length) e (by rw [← h4, ← h2]) i d hi
end Go.Dk
namespace Go.Proofs
open Go.RowKit Go.Dk
/-- What was made between w and w' stands in W. -/
def Dk.Kp (w w' W : World) : Prop := w'.heap.size ≤ W.heap.size ∧ ∀ k, w.heap.size ≤ k → k < w'.heap.size → W.heap[k]? = w'.heap[k]?
structure Try.Cme (w w' : World) (G : Nat) (sn rv : Value) (snap : List UInt8) (recs : List (List UInt8)) : Prop where
  bel : Below w.heap.size w w'
  g0 : w.heap.size ≤ G
  gl : G < w'.heap.size
  sv : ∃ ad, sn = .slice ad snap.length snap.length ∧ Dk.Tak w' G 0 ad snap.length ∧ Dk.takEnd ad snap.length 0 = snap.length
  cv : ∀ W, Dk.Kp w w' W → (convert 22 9 sn).run Try.prog W = .ok (.string ⟨snap.toArray⟩) W
  rw : ∃ ad cap, rv = .slice ad recs.length cap ∧ ∀ i d, recs[i]? = some d → ∃ g, ad = some ⟨g, 0, none⟩ ∧ g ≠ G ∧ w.heap.size ≤ g ∧ g < w'.heap.size ∧ w'.cell? ⟨g, i, none⟩ = some (.slice (some ⟨G, fr snap.length recs i + 7, none⟩) d.length d.length) ∧ Dk.Src w' (.slice (some ⟨G, fr snap.length recs i + 7, none⟩) d.length d.length) d ∧ (∀ j, j < d.length → (∃ u, w'.cell? ⟨G, fr snap.length recs i + 7 + j, none⟩ = some u) ∧ w'.frozen? ⟨G, fr snap.length recs i + 7 + j, none⟩ = false)
  few : recs.length ≤ 131008 ∧ snap.length ≤ 131008 ∧ ∀ d ∈ recs, d.length ≤ 6000
theorem Try.cv_nil (W : World) : (convert 22 9 (.slice none 0 0)).run Try.prog W = .ok (.string ⟨#[]⟩) W := Try.xConv (b := []) (World.ownsRow_nil W 0 5 1)
theorem Try.Cme.no {w w' : World} (hb : Below w.heap.size w w') (hl : w.heap.size < w'.heap.size) : Try.Cme w w' w.heap.size (.slice none 0 0) (.slice none 0 0) [] [] :=
  ⟨hb, Nat.le_refl _, hl, ⟨.none, rfl, .inl rfl, rfl⟩, fun W _ => Try.cv_nil W, ⟨.none, 0, rfl, fun i d hd => by simp at hd⟩, by simp, by simp, fun d hd => by cases hd⟩
theorem Dk.cut_small {R : List UInt8} : ∀ (recs : List (List UInt8)) (p e : Nat), cut R p = (recs, e) → ∀ d ∈ recs, d.length ≤ 6000
  | [], _, _, _, d, hd => by cases hd
  | d0 :: r, p, e, h, d, hd => by
    cases hra : recAt R p with
    | none => rw [cut_none hra] at h; cases h
    | some d' =>
      rw [cut_some hra] at h
      injection h with h1 h2
      injection h1 with h3 h4
      subst h3
      rcases List.mem_cons.1 hd with rfl | hd
      · exact (recAt_some hra).2.2.1
      · exact Dk.cut_small r (p + 7 + d'.length) e (by rw [← h4, ← h2]) d hd
theorem Try.Cme.of {w w' : World} {x : Nat} {s : DS} {H : Hd} {y : Nat} {sn rv : Value} (h : Try.Opened w w' x s H y sn rv) (hA : (area s.view s.n H.side).length ≤ 131008) (hH : H.size ≤ (area s.view s.n H.side).length) : ∃ G, Try.Cme w w' G sn rv ((area s.view s.n H.side).take H.size) (cut (area s.view s.n H.side) H.size).1 := by
  obtain ⟨g, hg0, hblk, hsn, hrv⟩ := h.ex
  obtain ⟨A, hAe⟩ : ∃ A, A = area s.view s.n H.side := ⟨_, rfl⟩
  obtain ⟨Z, hZ⟩ : ∃ Z, Z = H.size := ⟨_, rfl⟩
  rw [← hAe] at hblk hrv hA hH ⊢
  rw [← hZ] at hrv hsn hH ⊢
  obtain ⟨recs, E, hcut⟩ : ∃ recs E, cut A Z = (recs, E) := ⟨_, _, rfl⟩
  rw [hcut] at hrv ⊢
  simp only at hrv ⊢
  have hl : (A.take Z).length = Z := by rw [List.length_take]; omega
  have hrow := Dk.row_row hblk
  have hgl := Dk.block_lt hblk
  have hcl := (Dk.cut_len A _ Z (Nat.le_refl _)).1
  rw [hcut] at hcl
  simp only at hcl
  have hcell : ∀ o, o < A.length → (∃ u, w'.cell? ⟨g, o, none⟩ = some u) ∧ w'.frozen? ⟨g, o, none⟩ = false := fun o ho => by
    exact ⟨⟨_, hrow.cells o _ (Dk.byteCell ho)⟩, frozen_of_row _ _ _ _ _ hblk⟩
  have hs0 : Dk.Src w' (.slice (some ⟨g, 0, none⟩) Z Z) (A.take Z) := by
    have := hrow.sub 0 Z Z (by omega)
    rwa [List.drop_zero] at this
  have hcv := fun W (hW : Dk.Kp w w' W) => Try.conv_src (Dk.srcKeep hs0 (hW.2 g hg0 hgl) hW.1)
  rw [← hsn] at hcv
  refine ⟨g, h.bel, hg0, hgl, ⟨some ⟨g, 0, none⟩, by rw [hl]; exact hsn, ?_, ?_⟩, hcv, ?_, by omega, by rw [hl]; omega, Dk.cut_small recs Z E hcut⟩
  · refine .inr ⟨0, rfl, Nat.le_refl _, fun j hj => ?_⟩
    rw [Nat.zero_add]
    exact hcell j (by omega)
  · unfold Dk.takEnd
    rw [hl]
    split
    · omega
    · simp
  · obtain ⟨ad, cap, hrf, hrc⟩ := Dk.rowCell hrv
    refine ⟨ad, cap, hrf, fun i d hd => ?_⟩
    obtain ⟨c1, c2⟩ := cut_fr recs Z E hcut i d hd
    obtain ⟨g2, e1, e2, e3⟩ := hrc i _ (recCs_fr g recs Z i d hd)
    have hne : g2 ≠ g := fun e => by
      subst e
      rw [hrf, e1] at hrv
      rcases hrv.2 with ⟨q, -⟩ | ⟨g3, c3, cur, q, -, q2, -⟩
      · cases q
      · cases q
        rw [hblk] at q2
        cases q2
    have hg2 : w.heap.size ≤ g2 := by
      rw [hrf, e1] at hrv
      exact (hrv.lt g2 rfl).1
    rw [hl]
    refine ⟨g2, e1, hne, hg2, e2, e3, ?_, fun j hj => hcell _ (by omega)⟩
    have := hrow.sub (fr Z recs i + 7) d.length d.length (by omega)
    rwa [c1] at this
/-- The document's. -/
structure Try.Cmd (w w' : World) (sv V : Value) (snap : List UInt8) (recs : List (List UInt8)) : Prop where
  bel : Below w.heap.size w w'
  cv : ∀ W, Dk.Kp w w' W → (convert 22 9 sv).run Try.prog W = .ok (.string ⟨snap.toArray⟩) W
  rw : ∃ ad cap, V = .slice ad recs.length cap ∧ ∀ i d, recs[i]? = some d → ∃ g v, ad = some ⟨g, 0, none⟩ ∧ g < w'.heap.size ∧ w'.cell? ⟨g, i, none⟩ = some v ∧ v.oneCell' = true ∧ w.heap.size ≤ g ∧ ∀ W, Dk.Kp w w' W → (convert 22 9 v).run Try.prog W = .ok (.string ⟨d.toArray⟩) W
theorem Try.Cmd.no {w w' : World} (hb : Below w.heap.size w w') : Try.Cmd w w' (.slice none 0 0) (.slice none 0 0) [] [] :=
  ⟨hb, fun W _ => Try.cv_nil W, .none, 0, rfl, fun i d hd => by simp at hd⟩
theorem Try.Cmd.of {w w' : World} {x : Nat} {s : DS} {H : Hd} {y : Nat} {sv V : Value} (h : Try.OpenR w w' x s H y sv V) : Try.Cmd w w' sv V ((area s.view s.n H.side).take H.size) (cut (area s.view s.n H.side) H.size).1 := by
  obtain ⟨g, cap, hg0, hgl, rfl, hsrc⟩ := h.snap
  obtain ⟨vs, hrow, hel⟩ := h.rows.ex
  obtain ⟨ad, c2, hrf, hrc⟩ := Dk.rowCell hrow
  refine ⟨h.bel, fun W hW => Try.conv_src (Dk.srcKeep hsrc (hW.2 g hg0 hgl) hW.1), ad, c2, hrf, fun i d hd => ?_⟩
  obtain ⟨g3, c3, e1, e2, e3, e4, e5⟩ := hel i d hd
  obtain ⟨g4, f1, f2, f3⟩ := hrc i _ e1
  have f4 : w.heap.size ≤ g4 := by
    rw [hrf, f1] at hrow
    exact (hrow.lt g4 rfl).1
  exact ⟨g4, _, f1, f2, f3, rfl, f4, fun W hW => Try.conv_src (Dk.srcKeep e4 (hW.2 g3 e2 e5) hW.1)⟩
end Go.Proofs
namespace Go.Proofs
open Go.RowKit Go.Dk
def Dk.JOk (e : Int) (j : Value) : Prop := (e ≠ 0 ∧ j = .pointer none) ∨ (e = 0 ∧ ∃ y, j = .pointer (some ⟨y, 0, none⟩))
/-- What open leaves of the pair. -/
structure Try.Opnd (w w' : World) (own : Nat → Prop) (p : Nat) (d r : Value) (hs : List Dk.Ho) (m : Nat) : Prop where
  ex : ∃ j' k' G' q' lv' mv' own' hs' ms', Try.Pbx w' p d r j' k' lv' mv' ∧ Try.Hold w' own' G' q' lv' mv' hs' ms' ∧ hs'.map (·.m) = ms' ∧ hs'.length = hs.length + 4 * (m + 1) ∧ (∀ x ∈ hs', x.n ≤ 900000) ∧ (∀ k, own' k → own k ∨ w.heap.size ≤ k)
  wo : Dk.Wo (fun k => own k ∨ k = p) w w'
set_option maxRecDepth 20000 in
set_option maxHeartbeats 4000000 in
theorem Try.open_core {w : World} {own : Nat → Prop} {G0 q0 p x xr : Nat} {jv kv lv mv : Value} {hs : List Dk.Ho} {ms : List UInt8} (hp : Try.Pbx w p (.pointer (some ⟨x, 0, none⟩)) (.pointer (some ⟨xr, 0, none⟩)) jv kv lv mv) (h : Try.Hold w own G0 q0 lv mv hs ms) (hm : hs.map (·.m) = ms) (hn : ∀ x ∈ hs, x.n ≤ 900000) (hpo : ¬ own p)
    (e : Int) (snap : List UInt8) (recs : List (List UInt8)) (hlen : hs.length + 4 * (recs.length + 1) ≤ 90000) (hsl : snap.length ≤ 90000) (hrl : ∀ d ∈ recs, d.length ≤ 6000)
    (k1 : Calls Try.prog 16 #[.pointer (some ⟨x, 0, none⟩)] w fun r w1 => ∃ ja sn rv G, r = .returned (.tuple #[ja, sn, rv, .int .i64 e]) ∧ Try.Cme w w1 G sn rv snap recs ∧ Dk.JOk e ja)
    (k2 : ∀ W, Below w.heap.size w W → Calls Try.prog 23 #[.pointer (some ⟨xr, 0, none⟩)] W fun r w1 => ∃ ja sn rv, r = .returned (.tuple #[ja, sn, rv, .int .i64 e]) ∧ Try.Cmd W w1 sn rv snap recs ∧ Dk.JOk e ja) :
    Calls Try.prog 11 #[.pointer (some ⟨p, 0, none⟩)] w fun r w' => r = .returned (.bool true) ∧ Try.Opnd w w' own p (.pointer (some ⟨x, 0, none⟩)) (.pointer (some ⟨xr, 0, none⟩)) hs recs.length := by
  have hpl : p < w.heap.size := Dk.block_lt hp
  have c0 : w.cell? ⟨p, 0, none⟩ = some (.pointer (some ⟨x, 0, none⟩)) := cell_of_row _ _ _ _ _ _ hp
  have HP : Hid _ := hp
  have HH : Hid _ := h
  have HH0 : Hid (∀ k, own k → k < w.heap.size) := h.lt
  have HN : Hid (∀ x ∈ hs, x.n ≤ 900000) := hn
  have HRL : Hid (∀ d ∈ recs, d.length ≤ 6000) := hrl
  have HM : Hid (hs.map (·.m) = ms) := hm
  clear hp h hn hm hrl
  go_enter Try.func11, Try.ntmps11
  go_upto_region 2 with (first
    | (go_at_call 16; refine k1.mono ?_; clear k1; rintro r w1 ⟨ja, sn, rv, G, rfl, hC, hja⟩)
    | fail)
  obtain ⟨hb1, hg0, hgl, ⟨sa, hsn, htk, hte⟩, hcv, ⟨ra, rc, hrv, hrw⟩, -⟩ := hC
  subst hsn hrv
  have hk2 := k2 w1 hb1
  clear k2 c0
  have c1 : w1.cell? ⟨p, 1, none⟩ = some (.pointer (some ⟨xr, 0, none⟩)) := cell_of_row _ _ _ _ _ _ ((hb1.block p hpl).trans HP.out)
  have HTK : Hid _ := htk
  have HTE : Hid _ := hte
  have HCV : Hid _ := hcv
  have HRW : Hid _ := hrw
  have HJA : Hid (Dk.JOk e ja) := hja
  clear htk hte hcv hrw hja
  go_upto_region 3 with (first
    | (go_at_call 23; refine hk2.mono ?_; clear hk2; rintro r w2 ⟨ka, sv, V, rfl, hD, hka⟩)
    | fail)
  obtain ⟨hb2, hcv2, ma, mc, hV, hmw⟩ := hD
  subst hV
  have hbw2 : Below w.heap.size w w2 := hb1.trans (hb2.mono hb1.size)
  have HCV2 : Hid _ := hcv2
  have HMW : Hid _ := hmw
  have HKA : Hid (Dk.JOk e ka) := hka
  have hp2 : Try.Pbx w2 p (.pointer (some ⟨x, 0, none⟩)) (.pointer (some ⟨xr, 0, none⟩)) jv kv lv mv := (hbw2.block p hpl).trans HP.out
  have hp2l : p < w2.heap.size := Dk.block_lt hp2
  have hH2 := HH.out.below hbw2
  have d2 : w2.cell? ⟨p, 2, none⟩ = some jv := cell_of_row _ _ _ _ _ _ hp2
  have d3 : w2.cell? ⟨p, 3, none⟩ = some kv := cell_of_row _ _ _ _ _ _ hp2
  have f2 : w2.frozen? ⟨p, 2, none⟩ = false := frozen_of_row _ _ _ _ _ hp2
  have f3 : w2.frozen? ⟨p, 3, none⟩ = false := frozen_of_row _ _ _ _ _ hp2
  have HB1 : Hid (Below w.heap.size w w1) := hb1
  have HB2 : Hid (Below w1.heap.size w1 w2) := hb2
  clear hcv2 hmw hka hb1 hb2 c1 HP HH
  go_upto_region 5 with fail
  have hp4 : Try.Pbx ((w2.setCell ⟨p, 2, none⟩ (.pointer none)).setCell ⟨p, 3, none⟩ (.pointer none)) p (.pointer (some ⟨x, 0, none⟩)) (.pointer (some ⟨xr, 0, none⟩)) (.pointer none) (.pointer none) lv mv := heap_setCell_same _ p 3 _ _ _ (heap_setCell_same w2 p 2 _ _ _ hp2)
  have hwo4 : Dk.Wo (fun k => k = p) w2 ((w2.setCell ⟨p, 2, none⟩ (.pointer none)).setCell ⟨p, 3, none⟩ (.pointer none)) := ((Dk.Wo.refl (fun k => k = p) w2).setCell p 2 _ (.inl rfl)).setCell p 3 _ (.inl rfl)
  have hsz4 : ((w2.setCell ⟨p, 2, none⟩ (.pointer none)).setCell ⟨p, 3, none⟩ (.pointer none)).heap.size = w2.heap.size := by simp
  generalize (w2.setCell ⟨p, 2, none⟩ (.pointer none)).setCell ⟨p, 3, none⟩ (.pointer none) = w4 at *
  have hH4 := hH2.keep (w' := w4) (fun k ek => hwo4.block k (hH2.lt k ek) (fun e2 => hpo (e2 ▸ ek))) hwo4.size
  have hlk := Try.looks_any hp4 hH4 HM.out (by omega) (fun x hx => Nat.le_trans (HN.out x hx) (by omega))
  clear d2 d3 f2 f3 hp2 hH2
  go_upto_region 6 with (first
    | (go_at_call 24; refine hlk.mono ?_; clear hlk; rintro r w5 ⟨rfl, hb5⟩)
    | fail)
  have hp5 := (hb5.block p (by omega)).trans hp4
  have hH5 := hH4.below hb5
  have hs1 := HB1.out.size
  have hs2 := HB2.out.size
  have hs5 := hb5.size
  have hKp1 : ∀ W, Below w5.heap.size w5 W → Dk.Kp w w1 W := fun W hW => ⟨by have := hW.size; omega, fun k e1 e2 => by
    rw [hW.block k (by omega), hb5.block k (by omega), hwo4.block k (by omega) (by omega), HB2.out.block k e2]⟩
  have hKp2 : ∀ W, Below w5.heap.size w5 W → Dk.Kp w1 w2 W := fun W hW => ⟨by have := hW.size; omega, fun k e1 e2 => by
    rw [hW.block k (by omega), hb5.block k (by omega), hwo4.block k e2 (by omega)]⟩
  have HK1 : Hid _ := hKp1
  have HK2 : Hid _ := hKp2
  have v1 := HCV.out w5 (hKp1 w5 (Below.refl _ _))
  have v2 := HCV2.out w5 (hKp2 w5 (Below.refl _ _))
  clear hKp1 hKp2
  go_cut [69] (fun c wx => c = .bool false ∧ w5 = wx)
  case first =>
    rcases HJA.out with ⟨e1, rfl⟩ | ⟨e1, y, rfl⟩
    · rcases HKA.out with ⟨e2, rfl⟩ | ⟨e2, y2, rfl⟩
      · go_wp2
        go_meet
        case rel => exact ⟨by simp, rfl⟩
      · exact absurd e2 e1
    · rcases HKA.out with ⟨e2, rfl⟩ | ⟨e2, y2, rfl⟩
      · exact absurd e1 e2
      · go_wp2
        go_meet
        case rel => exact ⟨by simp, rfl⟩
  case rest =>
    obtain ⟨rfl, rfl⟩ := hcut
    clear v1 v2
    go_wp2
    go_loopw [12] (fun i wr => ∃ k : Nat, k ≤ recs.length ∧ i = .int .i64 k ∧ Below w5.heap.size w5 wr) (fun i _ => recs.length - (intOf i).toNat)
    case atStart => exact ⟨0, Nat.zero_le _, rfl, Below.refl _ _⟩
    case round =>
      obtain ⟨k, hk, rfl, hbr⟩ := hrel
      by_cases hkr : k < recs.length
      · have q0 : (k : Int) < (recs.length : Int) := by omega
        obtain ⟨g, rfl, hgG, hgw, hg1, gc, gs, -⟩ := HRW.out k recs[k] (by simp [hkr])
        obtain ⟨g2, v, rfl, hg2, vc, v1, hgw2, vs⟩ := HMW.out k recs[k] (by simp [hkr])
        have hK1 := HK1.out wr hbr
        have hK2 := HK2.out wr hbr
        have gc2 : wr.cell? ⟨g, k, none⟩ = _ := (World.cell?_of_block (a := ⟨g, k, none⟩) (hK1.2 g hgw hg1)).trans gc
        have vc2 : wr.cell? ⟨g2, k, none⟩ = _ := (World.cell?_of_block (a := ⟨g2, k, none⟩) (hK2.2 g2 hgw2 hg2)).trans vc
        have r1 : ∀ n, (convert 22 9 (.slice (some ⟨G, fr snap.length recs k + 7, none⟩) recs[k].length recs[k].length)).run Try.prog (wr.drewN n) = .ok (.string ⟨recs[k].toArray⟩) (wr.drewN n) := fun n => Try.conv_src (Dk.srcKeep gs (hK1.2 G hg0 hgl) hK1.1)
        have r2 : ∀ n, (convert 22 9 v).run Try.prog (wr.drewN n) = .ok (.string ⟨recs[k].toArray⟩) (wr.drewN n) := fun n => vs (wr.drewN n) hK2
        clear gs vs gc vc
        generalize recs[k] = D at *
        generalize fr snap.length recs k + 7 = O at *
        go_wp2
        go_quiet (fail)
        go_wp2
        go_roundw
        case rel => exact ⟨k + 1, by omega, by go_num, hbr.trans ((Dk.belowN wr _).mono hbr.size)⟩
        case measure => simp [intOf]; omega
      · have q0 : ¬ (k : Int) < (recs.length : Int) := by omega
        have hKR := HK1.out wr hbr
        have hGR : wr.heap[G]? = w1.heap[G]? := hKR.2 G hg0 hgl
        have hpR := (hbr.block p (by omega)).trans hp5
        have hHR := (hH5.below hbr).turn (G' := G) (fun ek => by have := HH0.out G ek; omega) 0
        have htR : Dk.Tak wr G 0 sa snap.length := by
          rcases HTK.out with e0 | ⟨o, e1, e2, e3⟩
          · exact .inl e0
          · refine .inr ⟨o, e1, e2, fun j hj => ?_⟩
            obtain ⟨⟨u, hu⟩, hf⟩ := e3 j hj
            exact ⟨⟨u, (World.cell?_of_block (a := ⟨G, o + j, none⟩) hGR).trans hu⟩, (World.frozen?_of_block (a := ⟨G, o + j, none⟩) hGR).trans hf⟩
        have hml : ms.length = hs.length := by rw [← HM.out, List.length_map]
        have hsR := hbr.size
        have htk := Try.takes_any hpR hHR HM.out (by omega) (show G < wr.heap.size by omega) (fun ek => by have := HH0.out G (hHR.lo G ek); omega) (fun ek => by have := HH0.out G (hHR.mo G ek); omega) hpo (by omega) (by omega) htR
        rw [HTE.out] at htk
        have HRWB : Hid (∀ k, w.heap.size ≤ k → k < w1.heap.size → wr.heap[k]? = w1.heap[k]?) := hKR.2
        have hwoR : Dk.Wo (fun k => k = p) w wr := ⟨hbr.os.trans (hb5.os.trans (hwo4.os.trans (HB2.out.os.trans HB1.out.os))), hbr.tape.trans (hb5.tape.trans (hwo4.tape.trans (HB2.out.tape.trans HB1.out.tape))), hbr.output.trans (hb5.output.trans (hwo4.output.trans (HB2.out.output.trans HB1.out.output))), by omega, fun b hb hnb => by
          rw [hbr.block b (by omega), hb5.block b (by omega), hwo4.block b (by omega) hnb, HB2.out.block b (by omega), HB1.out.block b hb]⟩
        have hr1 : w1.heap.size ≤ wr.heap.size := by omega
        have hr0 : w.heap.size ≤ wr.heap.size := by omega
        clear hKR hpR hHR htR hGR hp5 hH5 hb5 hH4 hp4 hwo4 hbr
        generalize wr = wa at *
        go_upto_region 14 with (first
          | (go_at_call 25; refine htk.mono ?_; clear htk; rintro r w6 ⟨⟨v6, rfl⟩, hT⟩)
          | fail)
        obtain ⟨⟨own6, lv6, mv6, hs6, ms6, hbd6, hp6, hlG6, hmG6, hH6, hl6, hl6m, hm6, hsub6, hsup6⟩, hwo6, hth6, hfz6⟩ := hT
        have hst : ∃ (own' : Nat → Prop) (lv' mv' : Value) (hs' : List Dk.Ho) (ms' : List UInt8), Try.Pbx w6 p (.pointer (some ⟨x, 0, none⟩)) (.pointer (some ⟨xr, 0, none⟩)) (.pointer none) (.pointer none) lv' mv' ∧ lv'.ownBlock ≠ some G ∧ mv'.ownBlock ≠ some G ∧ Try.Hold w6 own' G (fr snap.length recs 0) lv' mv' hs' ms' ∧ hs'.map (·.m) = ms' ∧ hs'.length = hs.length + 4 * (0 + 1) ∧ (∀ x ∈ hs', x.n ≤ 900000) ∧ (∀ b, own' b → own b ∨ b = G ∨ wa.heap.size ≤ b) ∧ Dk.Wo (fun b => own b ∨ b = G ∨ b = p) wa w6 ∧ (∀ o, (∃ u, wa.cell? ⟨G, o, none⟩ = some u) → ∃ u, w6.cell? ⟨G, o, none⟩ = some u) ∧ (∀ o, w6.frozen? ⟨G, o, none⟩ = wa.frozen? ⟨G, o, none⟩) := by
          rw [fr_zero]
          exact ⟨own6, lv6, mv6, hs6, ms6, hp6, hlG6, hmG6, hH6, hm6, by omega, hbd6 900000 (by omega) HN.out, hsup6, hwo6, hth6, hfz6⟩
        have HST : Hid _ := hst
        have hw6 : Dk.Wo (fun b => own b ∨ b = G ∨ b = p) wa w6 := hwo6
        clear hst hp6 hlG6 hmG6 hH6 hl6 hl6m hm6 hsub6 hsup6 hwo6 hth6 hfz6 hbd6
        go_wp2
        go_loopw [13] (fun i wr => ∃ k : Nat, k ≤ recs.length ∧ i = .int .i64 k ∧ ∃ (own' : Nat → Prop) (lv' mv' : Value) (hs' : List Dk.Ho) (ms' : List UInt8), Try.Pbx wr p (.pointer (some ⟨x, 0, none⟩)) (.pointer (some ⟨xr, 0, none⟩)) (.pointer none) (.pointer none) lv' mv' ∧ lv'.ownBlock ≠ some G ∧ mv'.ownBlock ≠ some G ∧ Try.Hold wr own' G (fr snap.length recs k) lv' mv' hs' ms' ∧ hs'.map (·.m) = ms' ∧ hs'.length = hs.length + 4 * (k + 1) ∧ (∀ x ∈ hs', x.n ≤ 900000) ∧ (∀ b, own' b → own b ∨ b = G ∨ wa.heap.size ≤ b) ∧ Dk.Wo (fun b => own b ∨ b = G ∨ b = p) wa wr ∧ (∀ o, (∃ u, wa.cell? ⟨G, o, none⟩ = some u) → ∃ u, wr.cell? ⟨G, o, none⟩ = some u) ∧ (∀ o, wr.frozen? ⟨G, o, none⟩ = wa.frozen? ⟨G, o, none⟩)) (fun i _ => recs.length - (intOf i).toNat)
        case atStart => exact ⟨0, Nat.zero_le _, rfl, HST.out⟩
        case round =>
          obtain ⟨k, hk, rfl, own', lv', mv', hs', ms', hpk, hlG, hmG, hHk, hmk, hlk, hbk, hok, hwk, hthk, hfzk⟩ := hrel
          by_cases hkr : k < recs.length
          · have q0 : (k : Int) < (recs.length : Int) := by omega
            obtain ⟨g, rfl, hgG, hgw, hg1, gc, -, gt⟩ := HRW.out k recs[k] (by simp [hkr])
            have hD := HRL.out recs[k] (List.getElem_mem hkr)
            have hfs := fr_succ recs snap.length k recs[k] (by simp [hkr])
            have hgwr : wr.heap[g]? = w1.heap[g]? := (hwk.block g (by omega) (fun e9 => by
              rcases e9 with e9 | e9 | e9
              · have := HH0.out g e9; omega
              · exact hgG e9
              · omega)).trans (HRWB.out g hgw hg1)
            have gc2 : wr.cell? ⟨g, k, none⟩ = _ := (World.cell?_of_block (a := ⟨g, k, none⟩) hgwr).trans gc
            have hGa := HRWB.out G hg0 hgl
            have htk2 : Dk.Tak wr G (fr snap.length recs k) (some ⟨G, fr snap.length recs k + 7, none⟩) recs[k].length := by
              refine .inr ⟨_, rfl, by omega, fun j hj => ?_⟩
              obtain ⟨⟨u, hu⟩, hf⟩ := gt j hj
              exact ⟨hthk _ ⟨u, (World.cell?_of_block (a := ⟨G, fr snap.length recs k + 7 + j, none⟩) hGa).trans hu⟩, (hfzk _).trans ((World.frozen?_of_block (a := ⟨G, fr snap.length recs k + 7 + j, none⟩) hGa).trans hf)⟩
            have hml' : ms'.length = hs'.length := by rw [← hmk, List.length_map]
            have hpo' : ¬ own' p := fun e9 => by
              rcases hok p e9 with e8 | e8 | e8
              · exact hpo e8
              · omega
              · omega
            have hsk := hwk.size
            have htk := Try.takes_any hpk hHk hmk (by omega) (show G < wr.heap.size by omega) hlG hmG hpo' (by omega) (show recs[k].length ≤ 100000 by omega) htk2
            have hte : Dk.takEnd (some ⟨G, fr snap.length recs k + 7, none⟩) recs[k].length (fr snap.length recs k) ≤ fr snap.length recs (k + 1) := by
              unfold Dk.takEnd
              split
              · omega
              · simp only; omega
            generalize recs[k] = D at *
            generalize fr snap.length recs k = F at *
            have HTE2 : Hid _ := hte
            have HWK : Hid _ := hwk
            have HOK : Hid _ := hok
            have HTHK : Hid _ := hthk
            have HFZK : Hid _ := hfzk
            have HBK : Hid (∀ x ∈ hs', x.n ≤ 900000) := hbk
            clear hfs htk2 hte gt gc hwk hok hthk hfzk hpk hHk hmk hbk hgwr hGa
            go_wp2_with (first
              | (go_at_call 25; refine htk.mono ?_; clear htk; rintro r w7 ⟨⟨v7, rfl⟩, hT⟩)
              | fail)
            obtain ⟨⟨own7, lv7, mv7, hs7, ms7, hbd7, hp7, hlG7, hmG7, hH7, hl7, hl7m, hm7, hsub7, hsup7⟩, hwo7, hth7, hfz7⟩ := hT
            go_roundw
            case rel =>
              refine ⟨k + 1, by omega, by go_num, own7, lv7, mv7, hs7, ms7, hp7, hlG7, hmG7, hH7.more HTE2.out, hm7, by omega, hbd7 900000 (by omega) HBK.out, fun b hb => ?_, ?_, fun o ho => hth7 o (HTHK.out o ho), fun o => (hfz7 o).trans (HFZK.out o)⟩
              · rcases hsup7 b hb with e9 | e9 | e9
                · exact HOK.out b e9
                · exact .inr (.inl e9)
                · exact .inr (.inr (by omega))
              · refine ⟨hwo7.os.trans HWK.out.os, hwo7.tape.trans HWK.out.tape, hwo7.output.trans HWK.out.output, Nat.le_trans HWK.out.size hwo7.size, fun b hb hnb => ?_⟩
                rw [hwo7.block b (by omega) (fun e9 => ?_), HWK.out.block b hb hnb]
                rcases e9 with e9 | e9 | e9
                · rcases HOK.out b e9 with e8 | e8 | e8
                  · exact hnb (.inl e8)
                  · exact hnb (.inr (.inl e8))
                  · omega
                · exact hnb (.inr (.inl e9))
                · exact hnb (.inr (.inr e9))
            case measure => simp [intOf]; omega
          · have q0 : ¬ (k : Int) < (recs.length : Int) := by omega
            obtain rfl : k = recs.length := by omega
            have hml' : ms'.length = hs'.length := by rw [← hmk, List.length_map]
            have hpo' : ¬ own' p := fun e9 => by
              rcases hok p e9 with e8 | e8 | e8
              · exact hpo e8
              · omega
              · omega
            have hsk := hwk.size
            have hgo : ∀ b, own' b → own b ∨ w.heap.size ≤ b := fun b hb => by
              rcases hok b hb with e8 | e8 | e8
              · exact .inl e8
              · exact .inr (by omega)
              · exact .inr (by omega)
            have hwf : ∀ W, Dk.Wo (fun b => b = p) wr W → Dk.Wo (fun b => own b ∨ b = p) w W := fun W hW => by
              refine ⟨hW.os.trans (hwk.os.trans hwoR.os), hW.tape.trans (hwk.tape.trans hwoR.tape), hW.output.trans (hwk.output.trans hwoR.output), by have := hW.size; omega, fun b hb hnb => ?_⟩
              rw [hW.block b (by omega) (fun e9 => hnb (.inr e9)), hwk.block b (by omega) (fun e9 => ?_), hwoR.block b hb (fun e9 => hnb (.inr e9))]
              rcases e9 with e9 | e9 | e9
              · exact hnb (.inl e9)
              · omega
              · exact hnb (.inr e9)
            have HWF : Hid _ := hwf
            have HGO : Hid _ := hgo
            have HBK : Hid (∀ x ∈ hs', x.n ≤ 900000) := hbk
            have HHK : Hid _ := hHk
            have HMK : Hid _ := hmk
            have HPK : Hid _ := hpk
            have HLK : Hid (hs'.length = hs.length + 4 * (recs.length + 1)) := hlk
            have hhl : hs'.length ≤ 100000 := by omega
            have hprl : p < wr.heap.size := by omega
            clear hwf hgo hok hwk hthk hfzk hwoR
            rcases HJA.out with ⟨e1, rfl⟩ | ⟨rfl, y, rfl⟩
            · have q9 : (e == 0) = false := by simp [e1]
              have hlk9 := Try.looks_any HPK.out HHK.out HMK.out hhl (fun x hx => Nat.le_trans (HBK.out x hx) (by omega))
              clear hpk hHk hmk hbk hlk hml'
              go_wp2_with (first
                | (go_at_call 24; refine hlk9.mono ?_; clear hlk9; rintro r w9 ⟨rfl, hb9⟩)
                | fail)
              go_ret
              exact ⟨rfl, ⟨⟨_, _, G, _, lv', mv', own', hs', ms', (hb9.block p hprl).trans HPK.out, HHK.out.below hb9, HMK.out, HLK.out, HBK.out, HGO.out⟩, HWF.out _ ((Dk.Wo.refl (fun b => b = p) wr).below hb9 (Nat.le_refl _))⟩⟩
            · obtain ⟨y2, rfl⟩ : ∃ y2, ka = .pointer (some ⟨y2, 0, none⟩) := by
                rcases HKA.out with ⟨e2, -⟩ | ⟨-, h9⟩
                · exact absurd rfl e2
                · exact h9
              have d2 : wr.cell? ⟨p, 2, none⟩ = some (.pointer none) := cell_of_row _ _ _ _ _ _ HPK.out
              have d3 : wr.cell? ⟨p, 3, none⟩ = some (.pointer none) := cell_of_row _ _ _ _ _ _ HPK.out
              have f2 : wr.frozen? ⟨p, 2, none⟩ = false := frozen_of_row _ _ _ _ _ HPK.out
              have f3 : wr.frozen? ⟨p, 3, none⟩ = false := frozen_of_row _ _ _ _ _ HPK.out
              clear hpk hHk hmk hbk hlk hml'
              go_upto_region 21 with fail
              have hp9 : Try.Pbx ((wr.setCell ⟨p, 2, none⟩ (.pointer (some ⟨y, 0, none⟩))).setCell ⟨p, 3, none⟩ (.pointer (some ⟨y2, 0, none⟩))) p (.pointer (some ⟨x, 0, none⟩)) (.pointer (some ⟨xr, 0, none⟩)) (.pointer (some ⟨y, 0, none⟩)) (.pointer (some ⟨y2, 0, none⟩)) lv' mv' := heap_setCell_same _ p 3 _ _ _ (heap_setCell_same wr p 2 _ _ _ HPK.out)
              have hwo9 : Dk.Wo (fun k => k = p) wr ((wr.setCell ⟨p, 2, none⟩ (.pointer (some ⟨y, 0, none⟩))).setCell ⟨p, 3, none⟩ (.pointer (some ⟨y2, 0, none⟩))) := ((Dk.Wo.refl (fun k => k = p) wr).setCell p 2 _ (.inl rfl)).setCell p 3 _ (.inl rfl)
              generalize (wr.setCell ⟨p, 2, none⟩ (.pointer (some ⟨y, 0, none⟩))).setCell ⟨p, 3, none⟩ (.pointer (some ⟨y2, 0, none⟩)) = w8 at *
              have hH8 := HHK.out.keep (w' := w8) (fun b eb => hwo9.block b (HHK.out.lt b eb) (fun e2 => hpo' (e2 ▸ eb))) hwo9.size
              have hlk9 := Try.looks_any hp9 hH8 HMK.out hhl (fun x hx => Nat.le_trans (HBK.out x hx) (by omega))
              have HP9 : Hid _ := hp9
              have HH8 : Hid _ := hH8
              have HWO9 : Hid _ := hwo9
              have hp8l : p < w8.heap.size := Dk.block_lt hp9
              clear hp9 hH8 hwo9 d2 d3 f2 f3
              go_wp2_with (first
                | (go_at_call 24; refine hlk9.mono ?_; clear hlk9; rintro r w9 ⟨rfl, hb9⟩)
                | fail)
              go_ret
              exact ⟨rfl, ⟨⟨_, _, G, _, lv', mv', own', hs', ms', (hb9.block p hp8l).trans HP9.out, HH8.out.below hb9, HMK.out, HLK.out, HBK.out, HGO.out⟩, HWF.out _ (HWO9.out.below hb9 HWO9.out.size)⟩⟩
end Go.Proofs
namespace Go.Proofs
open Go.RowKit Go.Dk
set_option maxRecDepth 20000 in
set_option maxHeartbeats 4000000 in
theorem Try.alike_any {w : World} {own : Nat → Prop} {p x xr : Nat} {Lv Wv jv kv lv mv : Value} {left kk t : Int} {s : DS} (hp : Try.Pbx w p (.pointer (some ⟨x, 0, none⟩)) (.pointer (some ⟨xr, 0, none⟩)) jv kv lv mv) (h : Try.Dsk w own x s) (hr : Try.Rfm w xr Lv Wv left kk t s) (hd : s.dead = false) :
    Calls Try.prog 12 #[.pointer (some ⟨p, 0, none⟩)] w fun r w' => r = .returned (.bool true) ∧ Below w.heap.size w w' := by
  have hn1 := hr.n1
  have hvl := h.len.1
  have hpl : p < w.heap.size := Dk.block_lt hp
  have hD : ∀ W, Below w.heap.size w W → Try.Dsk W own x s := fun W hW => h.below hW
  have hR : ∀ W, Below w.heap.size w W → Try.Rfm W xr Lv Wv left kk t s := fun W hW => hr.keep fun j e => hW.block j (hr.foot_lt j e)
  have kc : Calls Try.prog 26 #[.pointer (some ⟨x, 0, none⟩)] w fun e w' => e = .returned (.tuple #[.int .i64 s.wrote, .int .i64 s.synced]) ∧ ∃ n, w' = w.drewN n := by
    obtain ⟨l, t, V, hm, -⟩ := h.ex
    exact Try.costs_any hm
  have kcr := fun n => Try.rCosts_any (hR (w.drewN n) (Dk.belowN w n))
  have kal : ∀ W, Below w.heap.size w W → Calls Try.prog 28 #[.pointer (some ⟨x, 0, none⟩)] W fun e w' => e = .returned (.bool (!s.dead)) ∧ w' = W := fun W hW => by
    obtain ⟨l, t, V, hm, -⟩ := (hD W hW).ex
    exact Try.alive_any hm
  have kar : ∀ W, Below w.heap.size w W → Calls Try.prog 29 #[.pointer (some ⟨xr, 0, none⟩)] W fun e w' => e = .returned (.bool (!s.dead)) ∧ w' = W := fun W hW => Try.rAlive_any (hR W hW)
  have kfl : ∀ W, Below w.heap.size w W → Calls Try.prog 30 #[.pointer (some ⟨x, 0, none⟩)] W fun e w' => e = .returned (.int .i64 s.falls) ∧ w' = W := fun W hW => by
    obtain ⟨l, t, V, hm, -⟩ := (hD W hW).ex
    exact Try.falls_any hm
  have kfr : ∀ W, Below w.heap.size w W → Calls Try.prog 31 #[.pointer (some ⟨xr, 0, none⟩)] W fun e w' => e = .returned (.int .i64 s.falls) ∧ w' = W := fun W hW => Try.rFalls_any (hR W hW)
  have kbl : ∀ W, Below w.heap.size w W → Calls Try.prog 8 #[.pointer (some ⟨xr, 0, none⟩)] W fun e w' => e = .returned (.int .i64 s.n) ∧ w' = W := fun W hW => Try.rBlocks_any (hR W hW)
  have krd : ∀ W, Below w.heap.size w W → ∀ i, i < s.n → Calls Try.prog 32 #[.pointer (some ⟨x, 0, none⟩), .int .i64 (i : Nat)] W fun e w' => ∃ g, e = .returned (.tuple #[.slice (some ⟨g, 0, none⟩) 64 64, .int .i64 0]) ∧ (convert 22 9 (.slice (some ⟨g, 0, none⟩) 64 64)).run Try.prog w' = .ok (.string ⟨(blk s.view i).toArray⟩) w' ∧ Below W.heap.size W w' := fun W hW i hi => by
    obtain ⟨l, t, V, hm, -⟩ := (hD W hW).ex
    refine (Try.read_ok hm rfl hd i hi).mono fun e w' ⟨e1, e2, e3⟩ => ⟨_, e1, ?_, e3⟩
    have hs := Dk.src_row e2 64
    have hbl := blk_length hvl hi
    rw [hbl] at hs
    exact Try.conv_src hs
  have krr : ∀ W, Below w.heap.size w W → ∀ i, i < s.n → Calls Try.prog 33 #[.pointer (some ⟨xr, 0, none⟩), .int .i64 (i : Nat)] W fun e w' => e = .returned (.tuple #[.string ⟨(blk s.view i).toArray⟩, .int .i64 0]) ∧ w' = W := fun W hW i hi => Try.rRead_ok (hR W hW) hd i hi
  have HP : Hid _ := hp
  have hpc : ∀ W, Below w.heap.size w W → W.cell? ⟨p, 0, none⟩ = some (.pointer (some ⟨x, 0, none⟩)) ∧ W.cell? ⟨p, 1, none⟩ = some (.pointer (some ⟨xr, 0, none⟩)) := fun W hW => by
    have := (hW.block p hpl).trans HP.out
    exact ⟨cell_of_row _ _ _ _ _ _ this, cell_of_row _ _ _ _ _ _ this⟩
  obtain ⟨c0, c1⟩ := hpc w (Below.refl _ _)
  generalize s.n = N at *
  generalize s.wrote = A1 at *
  generalize s.synced = A2 at *
  generalize s.falls = A3 at *
  clear hD hR h hr hp hvl hd
  generalize s.dead = DD at *
  go_enter Try.func12, Try.ntmps12
  go_upto_region 3 with (first
    | (go_at_call 26; refine kc.mono ?_; clear kc; rintro r w2 ⟨rfl, n2, e2⟩; obtain ⟨d0, d1⟩ := hpc (w.drewN n2) (Dk.belowN w n2); have kcr2 := kcr n2; have e3 := e2.symm; clear e2; subst e3)
    | (go_at_call 27; refine kcr2.mono ?_; clear kcr2; rintro r w3 ⟨rfl, n3, e2⟩; have hb3 : Below w.heap.size w w3 := (by rw [e2]; exact (Dk.belowN w n2).trans ((Dk.belowN (w.drewN n2) n3).mono (Dk.belowN w n2).size)); clear e2)
    | fail)
  clear kcr c0 c1
  obtain ⟨f0, f1⟩ := hpc w3 hb3
  have hbq : ∀ n, Below w.heap.size w (w3.drewN n) := fun n => hb3.trans ((Dk.belowN w3 n).mono hb3.size)
  have ka := fun n => kal (w3.drewN n) (hbq n)
  have kb := fun n => kar (w3.drewN n) (hbq n)
  have kc := fun n => kfl (w3.drewN n) (hbq n)
  have kd := fun n => kfr (w3.drewN n) (hbq n)
  clear kal kar kfl kfr
  go_quiet (first
    | (go_at_call 28; exact Calls.quiet_of_same (ka _))
    | (go_at_call 29; exact Calls.quiet_of_same (kb _))
    | (go_at_call 30; exact Calls.quiet_of_same (kc _))
    | (go_at_call 31; exact Calls.quiet_of_same (kd _))
    | fail)
  clear ka kb kc kd
  have hb4 := hbq nq
  generalize w3.drewN nq = w4 at *
  clear hbq f0 f1
  go_wp2
  go_loopw [7] (fun i wr => ∃ k : Nat, k ≤ N ∧ i = .int .i64 k ∧ Below w.heap.size w wr) (fun i _ => N - (intOf i).toNat)
  case atStart => exact ⟨0, Nat.zero_le _, rfl, hb4⟩
  case round =>
    obtain ⟨k, hk, rfl, hbr⟩ := hrel
    obtain ⟨d0, d1⟩ := hpc wr hbr
    have kbl1 := kbl wr hbr
    by_cases hkN : k < N
    · have q0 : (k : Int) < (N : Int) := by omega
      have krd1 := krd wr hbr k hkN
      go_upto_region 9 with (first
        | (go_at_call 8; refine kbl1.mono ?_; clear kbl1; rintro e w5 ⟨rfl, e5⟩; have e6 := e5.symm; clear e5; subst e6)
        | (go_at_call 32; refine krd1.mono ?_; clear krd1; rintro e w5 ⟨g, rfl, hcv, hb5⟩)
        | fail)
      have hbw5 : Below w.heap.size w w5 := hbr.trans (hb5.mono hbr.size)
      have krr1 := krr w5 hbw5 k hkN
      obtain ⟨g0, g1⟩ := hpc w5 hbw5
      generalize (blk s.view k).toArray = BB at *
      clear krd krr kbl d0 d1
      go_wp2_with (first
        | (go_at_call 33; refine krr1.mono ?_; clear krr1; rintro e w6 ⟨rfl, e5⟩; have e6 := e5.symm; clear e5; subst e6)
        | fail)
      go_roundw
      case rel => exact ⟨k + 1, by omega, by go_num, hbw5⟩
      case measure => simp [intOf]; omega
    · have q0 : ¬ (k : Int) < (N : Int) := by omega
      go_wp2_with (first
        | (go_at_call 8; refine kbl1.mono ?_; clear kbl1; rintro e w5 ⟨rfl, e5⟩; have e6 := e5.symm; clear e5; subst e6)
        | fail)
      go_ret
      exact ⟨rfl, hbr⟩
end Go.Proofs
