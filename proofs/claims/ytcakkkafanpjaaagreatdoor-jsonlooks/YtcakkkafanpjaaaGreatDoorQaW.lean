/-
  Laid together by packg.py of TnE TnF TnG.
-/
import Derived.Test.YtcakkkafanpjaaaGreatDoorQaV
import Derived.Test.YtcakkkafanpjaaaGreatDoorQaI
namespace Go.Proofs
open Go.RowKit Go.Jv
theorem Tryz.Tds_get {w : World} {ok : Nat → Prop} : ∀ (l : List V) (ps : List Nat) (k : Nat) (h : k < l.length), Tryz.Tds w ok l ps → ∃ y, ps[k]? = some y ∧ Tryz.Td w ok l[k] y
  | [], ps, k, h, _ => by simp at h
  | v :: l, ps, 0, h, ht => by
    unfold Tryz.Tds at ht
    obtain ⟨y, r, rfl, h2, _⟩ := ht
    exact ⟨y, rfl, h2⟩
  | v :: l, ps, k + 1, h, ht => by
    unfold Tryz.Tds at ht
    obtain ⟨y, r, rfl, _, h3⟩ := ht
    exact Tryz.Tds_get l r k (by simpa using h) h3
set_option maxRecDepth 20000 in
set_option maxHeartbeats 4000000 in
theorem Tryz.rpr_list (l : List V) (hall : ∀ (k : Nat) (h : k < l.length), Tryz.RPr l[k]) : Tryz.RPr (.list l) := by
  intro B n bv xs w x hTr hrow hB hlen
  obtain ⟨hx, sv, ps, hvb, hrw, htr⟩ := hTr
  have hx : x < B := hx
  have hk := (Tryz.rKind hvb).mono fun e w' (h : e = .returned (.int .i64 4) ∧ w' = w) => (And.intro h.1 h.2.symm : e = .returned (.int .i64 4) ∧ w = w')
  have hpl : (pr (.list l)).length = (prL false l).length + 2 := by rw [pr]; simp
  have HP : Hid (pr (.list l) = [91] ++ (prL false l ++ [93])) := by show pr (.list l) = _; rw [pr]; rfl
  rw [hpl] at hlen
  have hpl : ps.length = l.length := Tryz.Tds_len l ps htr
  have hpp : (Jv.ptrs ps).length = l.length := by simp [Jv.ptrs, hpl]
  obtain ⟨ag, cg, hsv⟩ := Jv.row_form hrw.row
  rw [hpp] at hsv
  have hl64 : l.length ≤ 9223372036854775807 := by
    rcases hrw.row.2 with ⟨_, h2⟩ | ⟨g, cap, cur, _, _, _, h4, h5, _⟩
    · omega
    · unfold maxLen at h5; omega
  have HCELL : Hid (∀ (k : Nat) (h : k < l.length), ∃ g y, ag = some ⟨g, 0, none⟩ ∧ g < B ∧ Tryz.Td w (fun m => m < B) l[k] y ∧ w.cell? ⟨g, k, none⟩ = some (.pointer (some ⟨y, 0, none⟩))) := fun k h => by
    obtain ⟨g, c, h1, h2, h3, h4⟩ := Jv.row_cells hrw (by omega)
    obtain ⟨y, h5, h6⟩ := Tryz.Tds_get l ps k h htr
    rw [hsv] at h1
    injection h1 with h1
    exact ⟨g, y, h1, h2, h6, h4 k _ (by simp [Jv.ptrs, h5])⟩
  have hc0 := hvb.c0
  have hc4 := hvb.c4
  rw [hsv] at hc4
  clear hvb hrw htr hpp hsv hpl
  have Hc0 : Hid (w.cell? ⟨x, 0, none⟩ = some (.int .i64 4)) := hc0
  have Hc4 : Hid (w.cell? ⟨x, 4, none⟩ = some (.slice ag l.length cg)) := hc4
  clear hc4
  have HALL : Hid (∀ (k : Nat) (h : k < l.length), Tryz.RPr l[k]) := hall
  clear hall
  go_enter Tryz.func60, Tryz.ntmps60
  go_wp2_with (first | (go_at_call 31; refine hk.mono ?_; clear hk; rintro e1 w1 ⟨rfl, rfl⟩) | (at_builtin; refine Tryz.app_new rfl _ _ rfl B bv n xs (by rfl) _ hrow hB [.int .u8 91] 1 rfl (by rfl) (by decide) (by omega) (by simp [Value.oneCell']) ?_; clear hrow; intro v1 w1 hown1 hbe1) | fail)
  go_loopw [1, 6] (fun b i wr => ∃ k : Nat, k ≤ l.length ∧ i = .int .i64 k ∧ wr.ownsRow B 5 1 b (n + 1 + (prL false (l.take k)).length) (xs ++ [.int .u8 91] ++ Lib.byteCells (prL false (l.take k))) ∧ Below B w wr) (fun _ i _ => l.length - (intOf i).toNat)
  case atStart =>
    have e0 : prL false (l.take 0) = [] := by simp [prL]
    exact ⟨0, Nat.zero_le _, rfl, by rw [e0]; simpa [Lib.byteCells] using hown1, hbe1⟩
  case round =>
    clear hown1 hbe1
    obtain ⟨k, hk, rfl, hown, hbe⟩ := hrel
    have hBr : B ≤ wr.heap.size := Nat.le_trans hB hbe.size
    have hx0 := (hbe.cell (p := ⟨x, 0, none⟩) hx).trans Hc0.out
    have hx4 := (hbe.cell (p := ⟨x, 4, none⟩) hx).trans Hc4.out
    have HBE : Hid (Below B w wr) := hbe
    by_cases hlt : k < l.length
    · obtain ⟨g, y, rfl, hgB, htk, hck⟩ := HCELL.out k hlt
      have htk' : Tryz.Td wr (fun m => m < B) l[k] y := Tryz.Td_keep (fun m hm _ => hbe.block m hm) hbe.size _ _ htk
      have hck' := (hbe.cell (p := ⟨g, k, none⟩) hgB).trans hck
      have hmo := Jv.prL_mono l (l.length - (k + 1)) (k + 1) (by omega)
      have HT := Jv.prL_take l k hlt
      have hpr := HALL.out k hlt
      rw [HT] at hmo
      simp only [List.length_append] at hmo
      have HT' : Hid (prL false (l.take (k + 1)) = prL false (l.take k) ++ (comma (decide (0 < k)) ++ pr l[k])) := HT
      clear HT hck htk hc0 hbe
      generalize prL false (l.take k) = P at *
      generalize l[k] = vk at *
      have hki : (k : Int) < (l.length : Int) := by omega
      by_cases hk0 : k = 0
      · subst hk0
        have e0 : comma (decide (0 < 0)) = [] := rfl
        rw [e0] at HT' hmo
        have hap := hpr B _ _ _ wr y htk' hown hBr (by simp at hmo; omega)
        go_wp2_with (first | (go_at_call 60; refine hap.mono ?_; rintro e2 w2 ⟨v2, rfl, hown2, hbe2⟩) | fail)
        go_roundw
        case rel =>
          refine ⟨1, by omega, rfl, ?_, HBE.out.trans hbe2⟩
          rw [HT'.out]
          have e1 : n + 1 + (P ++ ([] ++ pr vk)).length = n + 1 + P.length + (pr vk).length := by simp; omega
          have e2 : xs ++ [.int .u8 91] ++ Lib.byteCells (P ++ ([] ++ pr vk)) = xs ++ [.int .u8 91] ++ Lib.byteCells P ++ Lib.byteCells (pr vk) := by simp [Lib.byteCells]
          rw [e1, e2]
          exact hown2
        case measure => simp [intOf]; omega
      · have e0 : comma (decide (0 < k)) = [44] := by simp [comma]; omega
        rw [e0] at HT' hmo
        have hk1 : (0 : Int) < k := by omega
        go_wp2_with (first | (at_builtin; refine Tryz.app_new rfl _ _ rfl B u1 _ _ (by rfl) wr hown hBr [.int .u8 44] 1 rfl (by rfl) (by decide) (by simp at hmo; omega) (by simp [Value.oneCell']) ?_; intro v1 w1 hown1 hbe1; have hx1 := (hbe1.cell (p := ⟨x, 0, none⟩) hx).trans hx0; have hx14 := (hbe1.cell (p := ⟨x, 4, none⟩) hx).trans hx4; have hck1 := (hbe1.cell (p := ⟨g, k, none⟩) hgB).trans hck') | fail)
        have hb1 := HBE.out.trans hbe1
        have hap := hpr B _ v1 _ w1 y (Tryz.Td_keep (fun m hm _ => hbe1.block m hm) hbe1.size _ _ htk') hown1 (Nat.le_trans hB hb1.size) (by simp at hmo; omega)
        refine hap.mono ?_
        rintro e2 w2 ⟨v2, rfl, hown2, hbe2⟩
        go_wp2
        go_roundw
        case rel =>
          refine ⟨k + 1, by omega, by go_num, ?_, hb1.trans hbe2⟩
          rw [HT'.out]
          have e1 : n + 1 + (P ++ ([44] ++ pr vk)).length = n + 1 + P.length + 1 + (pr vk).length := by simp; omega
          have e2 : xs ++ [.int .u8 91] ++ Lib.byteCells (P ++ ([44] ++ pr vk)) = xs ++ [.int .u8 91] ++ Lib.byteCells P ++ [.int .u8 44] ++ Lib.byteCells (pr vk) := by simp [Lib.byteCells]
          rw [e1, e2]
          exact hown2
        case measure => simp [intOf]; omega
    · obtain rfl : k = l.length := by omega
      rw [List.take_of_length_le (Nat.le_refl _)] at hown
      go_wp2_with (first | (at_builtin; refine Tryz.app_new rfl _ _ rfl B u1 _ _ (by rfl) wr hown hBr [.int .u8 93] 1 rfl (by rfl) (by decide) (by omega) (by simp [Value.oneCell']) ?_; intro v3 w3 hown3 hbe3) | fail)
      go_ret
      refine ⟨v3, rfl, ?_, HBE.out.trans hbe3⟩
      rw [HP.out]
      have e1 : n + ([91] ++ (prL false l ++ [93])).length = n + 1 + (prL false l).length + 1 := by simp; omega
      have e2 : xs ++ Lib.byteCells ([91] ++ (prL false l ++ [93])) = xs ++ [.int .u8 91] ++ Lib.byteCells (prL false l) ++ [.int .u8 93] := by simp [Lib.byteCells]
      rw [e1, e2]
      exact hown3
end Go.Proofs
namespace Go.Proofs
open Go.RowKit Go.Jv
set_option maxRecDepth 20000 in
set_option maxHeartbeats 4000000 in
theorem Tryz.rpr_obj (ks : List ByteArray) (l : List V) (hall : ∀ (k : Nat) (h : k < l.length), Tryz.RPr l[k]) : Tryz.RPr (.obj ks l) := by
  intro B n bv xs w x hTr hrow hB hlen
  obtain ⟨hx, kv, sv, ps, hvb, hkw, hrw, htr, hkl0⟩ := hTr
  have hkl : ks.length = l.length := hkl0.trans (Tryz.Tds_len l ps htr)
  have hx : x < B := hx
  have hk := (Tryz.rKind hvb).mono fun e w' (h : e = .returned (.int .i64 5) ∧ w' = w) => (And.intro h.1 h.2.symm : e = .returned (.int .i64 5) ∧ w = w')
  have hpl : (pr (.obj ks l)).length = (prO false ks l).length + 2 := by rw [pr]; simp
  have HP : Hid (pr (.obj ks l) = [123] ++ (prO false ks l ++ [125])) := by show pr (.obj ks l) = _; rw [pr]; rfl
  rw [hpl] at hlen
  have hpl : ps.length = l.length := Tryz.Tds_len l ps htr
  have hpp : (Jv.ptrs ps).length = l.length := by simp [Jv.ptrs, hpl]
  obtain ⟨ag, cg, hsv⟩ := Jv.row_form hrw.row
  rw [hpp] at hsv
  have hl64 : l.length ≤ 9223372036854775807 := by
    rcases hrw.row.2 with ⟨_, h2⟩ | ⟨g, cap, cur, _, _, _, h4, h5, _⟩
    · omega
    · unfold maxLen at h5; omega
  have HCELL : Hid (∀ (k : Nat) (h : k < l.length), ∃ g y, ag = some ⟨g, 0, none⟩ ∧ g < B ∧ Tryz.Td w (fun m => m < B) l[k] y ∧ w.cell? ⟨g, k, none⟩ = some (.pointer (some ⟨y, 0, none⟩))) := fun k h => by
    obtain ⟨g, c, h1, h2, h3, h4⟩ := Jv.row_cells hrw (by omega)
    obtain ⟨y, h5, h6⟩ := Tryz.Tds_get l ps k h htr
    rw [hsv] at h1
    injection h1 with h1
    exact ⟨g, y, h1, h2, h6, h4 k _ (by simp [Jv.ptrs, h5])⟩
  obtain ⟨akk, ck, hkv⟩ := Jv.row_form hkw.row
  rw [List.length_map, hkl] at hkv
  have HKC : Hid (∀ (k : Nat) (h : k < l.length), ∃ gk, akk = some ⟨gk, 0, none⟩ ∧ gk < B ∧ w.cell? ⟨gk, k, none⟩ = some (.string (ks.getD k emp))) := fun k h => by
    obtain ⟨g, c, h1, h2, h3, h4⟩ := Jv.row_cells hkw (by rw [List.length_map]; omega)
    rw [hkv] at h1
    injection h1 with h1
    exact ⟨g, h1, h2, h4 k _ (by simp [List.getD_eq_getElem?_getD, (by omega : k < ks.length)])⟩
  have hc0 := hvb.c0
  have hc4 := hvb.c4
  have hc5 := hvb.c5
  rw [hsv] at hc4
  rw [hkv] at hc5
  have HA := Jv.prO_all ks l hkl
  clear hvb hrw htr hpp hsv hpl hkw hkv hkl0
  have HC : Hid (∀ W, Below B w W → W.cell? ⟨x, 0, none⟩ = some (.int .i64 5) ∧ W.cell? ⟨x, 4, none⟩ = some (.slice ag l.length cg) ∧ W.cell? ⟨x, 5, none⟩ = some (.slice akk l.length ck)) := fun W hb => ⟨(hb.cell (p := ⟨x, 0, none⟩) hx).trans hc0, (hb.cell (p := ⟨x, 4, none⟩) hx).trans hc4, (hb.cell (p := ⟨x, 5, none⟩) hx).trans hc5⟩
  rw [HA] at hlen HP
  have HL2 : Hid (ks.length = l.length) := hkl
  clear hc4 hc5 HA hkl
  have HALL : Hid (∀ (k : Nat) (h : k < l.length), Tryz.RPr l[k]) := hall
  clear hall
  go_enter Tryz.func60, Tryz.ntmps60
  go_wp2_with (first | (go_at_call 31; refine hk.mono ?_; clear hk; rintro e1 w1 ⟨rfl, rfl⟩) | (at_builtin; refine Tryz.app_new rfl _ _ rfl B bv n xs (by rfl) _ hrow hB [.int .u8 123] 1 rfl (by rfl) (by decide) (by omega) (by simp [Value.oneCell']) ?_; clear hrow; intro v1 w1 hown1 hbe1) | fail)
  go_loopw [1, 6] (fun b i wr => ∃ k : Nat, k ≤ l.length ∧ i = .int .i64 k ∧ wr.ownsRow B 5 1 b (n + 1 + (Jv.prT ks l k).length) (xs ++ [.int .u8 123] ++ Lib.byteCells (Jv.prT ks l k)) ∧ Below B w wr) (fun _ i _ => l.length - (intOf i).toNat)
  case atStart =>
    exact ⟨0, Nat.zero_le _, rfl, by simpa [Jv.prT, Lib.byteCells] using hown1, hbe1⟩
  case round =>
    clear hown1 hbe1
    obtain ⟨k, hk, rfl, hown, hbe⟩ := hrel
    have hBr : B ≤ wr.heap.size := Nat.le_trans hB hbe.size
    obtain ⟨hx0, hx4, hx5⟩ := HC.out wr hbe
    have HBE : Hid (Below B w wr) := hbe
    by_cases hlt : k < l.length
    · obtain ⟨g, y, rfl, hgB, htk, hck⟩ := HCELL.out k hlt
      obtain ⟨gk, rfl, hgkB, hckk⟩ := HKC.out k hlt
      have hmo := Jv.prT_le ks l (l.length - (k + 1)) (k + 1)
      rw [show k + 1 + (l.length - (k + 1)) = l.length by omega, Jv.prT, Jv.prM] at hmo
      have e2 : l.getD k .null = l[k] := by simp [List.getD_eq_getElem?_getD, hlt]
      rw [e2] at hmo
      have HT' : Hid (Jv.prT ks l (k + 1) = Jv.prT ks l k ++ (comma (decide (0 < k)) ++ (qText (ks.getD k emp) ++ ([58] ++ pr l[k])))) := by
        show Jv.prT ks l k ++ (comma (decide (0 < k)) ++ Jv.prM ks l k) = _
        rw [Jv.prM, e2]
      have hpr := HALL.out k hlt
      have hql := Jv.qText_len (ks.getD k emp)
      have HTK : Hid (Tryz.Td w (fun m => m < B) l[k] y) := htk
      have HGC : Hid (∀ W, Below B w W → W.cell? ⟨g, k, none⟩ = some (.pointer (some ⟨y, 0, none⟩)) ∧ W.cell? ⟨gk, k, none⟩ = some (.string (ks.getD k emp))) := fun W hb => ⟨(hb.cell (p := ⟨g, k, none⟩) hgB).trans hck, (hb.cell (p := ⟨gk, k, none⟩) hgkB).trans hckk⟩
      clear e2 hbe htk hc0
      generalize Jv.prT ks l k = P at *
      generalize l[k] = vk at *
      generalize ks.getD k emp = kk at *
      simp only [List.length_append] at hmo
      clear hck hckk
      have hki : (k : Int) < (l.length : Int) := by omega
      by_cases hk0 : k = 0
      · have e0 : comma (decide (0 < k)) = [] := by rw [hk0]; rfl
        rw [e0] at HT' hmo
        simp only [List.length_nil, List.length_cons] at hmo
        have hk1 : ¬ (0 : Int) < k := by omega
        clear hk0
        obtain ⟨hg0, hgk0⟩ := HGC.out wr HBE.out
        have hown0 : wr.ownsRow B 5 1 u1 (n + 1 + P.length + 0) (xs ++ [.int .u8 123] ++ Lib.byteCells P ++ Lib.byteCells []) := by simpa [Lib.byteCells] using hown
        have hq := Tryz.rquote_any B _ u1 _ wr hown0 hBr kk (by omega)
        clear hown
        go_wp2_with (first | (go_at_call 85; refine hq.mono ?_; clear hq; rintro e5 w5 ⟨v5, rfl, hown5, hbe5⟩) | (at_builtin; refine Tryz.app_new rfl _ _ rfl B v5 _ _ (by rfl) w5 hown5 (Nat.le_trans hB (HBE.out.trans hbe5).size) [.int .u8 58] 1 rfl (by rfl) (by decide) (by omega) (by simp [Value.oneCell']) ?_; intro v6 w6 hown6 hbe6; have hb6 := (HBE.out.trans hbe5).trans hbe6; have hz := HC.out w6 hb6; have hz4 := hz.2.1; have hzg := (HGC.out w6 hb6).1; clear hz) | fail)
        have hap := hpr B _ v6 _ w6 y (Tryz.Td_keep (fun m hm _ => hb6.block m hm) hb6.size _ _ HTK.out) hown6 (Nat.le_trans hB hb6.size) (by omega)
        refine hap.mono ?_
        rintro e7 w7 ⟨v7, rfl, hown7, hbe7⟩
        go_wp2
        go_roundw
        case rel =>
          refine ⟨k + 1, by omega, by go_num, ?_, hb6.trans hbe7⟩
          rw [HT'.out]
          have e1 : n + 1 + (P ++ ([] ++ (qText kk ++ ([58] ++ pr vk)))).length = n + 1 + P.length + 0 + (qText kk).length + 1 + (pr vk).length := by simp; omega
          have e2 : xs ++ [.int .u8 123] ++ Lib.byteCells (P ++ ([] ++ (qText kk ++ ([58] ++ pr vk)))) = xs ++ [.int .u8 123] ++ Lib.byteCells P ++ Lib.byteCells [] ++ Lib.byteCells (qText kk) ++ [.int .u8 58] ++ Lib.byteCells (pr vk) := by simp [Lib.byteCells]
          rw [e1, e2]
          exact hown7
        case measure => simp [intOf]; omega
      · have e0 : comma (decide (0 < k)) = [44] := by simp [comma]; omega
        rw [e0] at HT' hmo
        simp only [List.length_nil, List.length_cons] at hmo
        have hk1 : (0 : Int) < k := by omega
        go_wp2_with (first | (at_builtin; refine Tryz.app_new rfl _ _ rfl B u1 _ _ (by rfl) wr hown hBr [.int .u8 44] 1 rfl (by rfl) (by decide) (by omega) (by simp [Value.oneCell']) ?_; clear hown; intro v1 w1 hown1 hbe1; have hb1 := HBE.out.trans hbe1; obtain ⟨hy0, hy4, hy5⟩ := HC.out w1 hb1; obtain ⟨hyg, hygk⟩ := HGC.out w1 hb1; have hq := Tryz.rquote_any B _ v1 _ w1 hown1 (Nat.le_trans hB hb1.size) kk (by omega)) | (go_at_call 85; refine hq.mono ?_; clear hq; rintro e5 w5 ⟨v5, rfl, hown5, hbe5⟩) | (at_builtin; refine Tryz.app_new rfl _ _ rfl B v5 _ _ (by rfl) w5 hown5 (Nat.le_trans hB (hb1.trans hbe5).size) [.int .u8 58] 1 rfl (by rfl) (by decide) (by omega) (by simp [Value.oneCell']) ?_; intro v6 w6 hown6 hbe6; have hb6 := (hb1.trans hbe5).trans hbe6; have hz := HC.out w6 hb6; have hz4 := hz.2.1; have hzg := (HGC.out w6 hb6).1; clear hz) | fail)
        have hap := hpr B _ v6 _ w6 y (Tryz.Td_keep (fun m hm _ => hb6.block m hm) hb6.size _ _ HTK.out) hown6 (Nat.le_trans hB hb6.size) (by omega)
        refine hap.mono ?_
        rintro e7 w7 ⟨v7, rfl, hown7, hbe7⟩
        go_wp2
        go_roundw
        case rel =>
          refine ⟨k + 1, by omega, by go_num, ?_, hb6.trans hbe7⟩
          rw [HT'.out]
          have e1 : n + 1 + (P ++ ([44] ++ (qText kk ++ ([58] ++ pr vk)))).length = n + 1 + P.length + 1 + (qText kk).length + 1 + (pr vk).length := by simp; omega
          have e2 : xs ++ [.int .u8 123] ++ Lib.byteCells (P ++ ([44] ++ (qText kk ++ ([58] ++ pr vk)))) = xs ++ [.int .u8 123] ++ Lib.byteCells P ++ [.int .u8 44] ++ Lib.byteCells (qText kk) ++ [.int .u8 58] ++ Lib.byteCells (pr vk) := by simp [Lib.byteCells]
          rw [e1, e2]
          exact hown7
        case measure => simp [intOf]; omega
    · obtain rfl : k = l.length := by omega
      go_wp2_with (first | (at_builtin; refine Tryz.app_new rfl _ _ rfl B u1 _ _ (by rfl) wr hown hBr [.int .u8 125] 1 rfl (by rfl) (by decide) (by omega) (by simp [Value.oneCell']) ?_; intro v3 w3 hown3 hbe3) | fail)
      go_ret
      refine ⟨v3, rfl, ?_, HBE.out.trans hbe3⟩
      rw [HP.out]
      have e1 : n + ([123] ++ (Jv.prT ks l l.length ++ [125])).length = n + 1 + (Jv.prT ks l l.length).length + 1 := by simp; omega
      have e2 : xs ++ Lib.byteCells ([123] ++ (Jv.prT ks l l.length ++ [125])) = xs ++ [.int .u8 123] ++ Lib.byteCells (Jv.prT ks l l.length) ++ [.int .u8 125] := by simp [Lib.byteCells]
      rw [e1, e2]
      exact hown3
end Go.Proofs
namespace Go.Proofs
open Go.RowKit Go.Jv
mutual
/-- 'write' of every value. -/
theorem Tryz.rpr_any : ∀ v : V, Tryz.RPr v
  | .null => Tryz.rpr_scalar .null (fun _ h => by cases h) (fun _ _ h => by cases h)
  | .bool b => Tryz.rpr_scalar (.bool b) (fun _ h => by cases h) (fun _ _ h => by cases h)
  | .int n => Tryz.rpr_scalar (.int n) (fun _ h => by cases h) (fun _ _ h => by cases h)
  | .text s => Tryz.rpr_scalar (.text s) (fun _ h => by cases h) (fun _ _ h => by cases h)
  | .list l => Tryz.rpr_list l (Tryz.rpr_all l)
  | .obj ks l => Tryz.rpr_obj ks l (Tryz.rpr_all l)
theorem Tryz.rpr_all : ∀ (l : List V) (k : Nat) (h : k < l.length), Tryz.RPr l[k]
  | v :: _, 0, _ => Tryz.rpr_any v
  | _ :: l, k + 1, h => Tryz.rpr_all l k (by simpa using h)
end
set_option maxHeartbeats 1000000 in
/-- 'Print'. -/
theorem Tryz.rprint_any (v : V) (w : World) (x : Nat) (hTr : Tryz.Td w (fun g => g < w.heap.size) v x) (hlen : (pr v).length ≤ 100000000) :
    Calls Tryz.prog 23 #[.pointer (some ⟨x, 0, none⟩)] w fun en w' => en = .returned (.string ⟨(pr v).toArray⟩) ∧ Below w.heap.size w w' := by
  have hap := Tryz.rpr_any v w.heap.size 0 (.slice none 0 0) [] w x hTr ⟨rfl, .inl ⟨rfl, rfl⟩⟩ (Nat.le_refl _) (by omega)
  have hcv : ∀ (W : World) (b : Value), W.ownsRow w.heap.size 5 1 b (0 + (pr v).length) ([] ++ Lib.byteCells (pr v)) → (convert 22 9 b).run Tryz.prog W = .ok (.string ⟨(pr v).toArray⟩) W := fun W b h => Tryz.gathered (B := w.heap.size) (by simpa using h)
  go_enter Tryz.func23, Tryz.ntmps23
  go_wp2_with (first | (go_at_call 60; refine hap.mono ?_; rintro e1 w1 ⟨v1, rfl, hown1, hbe1⟩; have hcv1 := hcv w1 v1 hown1) | fail)
  go_ret
  exact ⟨rfl, hbe1⟩
end Go.Proofs
