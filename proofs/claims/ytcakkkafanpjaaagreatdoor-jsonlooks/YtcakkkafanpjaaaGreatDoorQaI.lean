/-
  Laid together by packg.py of Jx Jy Jz JBy TnL.
-/
import Derived.Test.YtcakkkafanpjaaaGreatDoorQaH
import Derived.Lib.ConvBytes
import Derived.Deep.SlicePairs
import Derived.OpenShut
import Derived.SizedLaws
import Derived.Carry
import Derived.Shelf.Bytes.SlSmallAll
import Derived.Laws.IdiomCopy
import Derived.Laws.CopyOwn
import Derived.Lib.LazyBuf
import Derived.Laws.BytesArg
namespace Go.Proofs
open Go.RowKit Go.Jv
theorem Jv.prL_snoc : ∀ (c : Bool) (l : List V) (v : V), prL c (l ++ [v]) = prL c l ++ (comma (c || !l.isEmpty) ++ pr v)
  | c, [], v => by simp [prL]
  | c, u :: l, v => by
    have h := Jv.prL_snoc true l v
    simp only [List.cons_append, prL, h]
    simp
theorem Jv.prL_take (l : List V) (k : Nat) (h : k < l.length) : prL false (l.take (k + 1)) = prL false (l.take k) ++ (comma (decide (0 < k)) ++ pr l[k]) := by
  rw [List.take_succ_eq_append_getElem h, Jv.prL_snoc]
  congr 2
  cases k with
  | zero => simp
  | succ k => cases l with
    | nil => simp at h
    | cons a l => simp
theorem Jv.prL_mono (l : List V) : ∀ (m k : Nat), k + m = l.length → (prL false (l.take k)).length ≤ (prL false l).length
  | 0, k, h => by rw [List.take_of_length_le (by omega)]; exact Nat.le_refl _
  | m + 1, k, h => by
    have h1 := Jv.prL_mono l m (k + 1) (by omega)
    rw [Jv.prL_take l k (by omega)] at h1
    simp only [List.length_append] at h1
    omega
theorem Tryz.Trs_get {w : World} {ok : Nat → Prop} : ∀ (l : List V) (ps : List Nat) (k : Nat) (h : k < l.length), Tryz.Trs w ok l ps → ∃ y, ps[k]? = some y ∧ Tryz.Tr w ok l[k] y
  | [], ps, k, h, _ => by simp at h
  | v :: l, ps, 0, h, ht => by
    unfold Tryz.Trs at ht
    obtain ⟨y, r, rfl, h2, _⟩ := ht
    exact ⟨y, rfl, h2⟩
  | v :: l, ps, k + 1, h, ht => by
    unfold Tryz.Trs at ht
    obtain ⟨y, r, rfl, _, h3⟩ := ht
    exact Tryz.Trs_get l r k (by simpa using h) h3
theorem Jv.row_cells {w : World} {e : TypeId} {sv : Value} {vals : List Value} {ok : Nat → Prop} (h : Jv.Rw w ok e sv vals) (h0 : 0 < vals.length) : ∃ g c, sv = .slice (some ⟨g, 0, none⟩) vals.length c ∧ ok g ∧ g < w.heap.size ∧ ∀ (j : Nat) u, vals[j]? = some u → w.cell? ⟨g, j, none⟩ = some u := by
  rcases h.row.2 with ⟨_, h2⟩ | ⟨g, cap, cur, h1, _, hg, _, _, _, htk⟩
  · omega
  · refine ⟨g, cap, h1, h.ok g (by rw [h1]; rfl), (Array.getElem?_eq_some_iff.1 hg).1, fun j u hj => ?_⟩
    simp only [Nat.mul_one] at htk
    rw [cell_of_row _ _ j _ _ _ hg, ← Array.getElem?_toList]
    have hjl : j < vals.length := (List.getElem?_eq_some_iff.1 hj).1
    rw [← htk, List.getElem?_take, if_pos hjl] at hj
    exact hj
set_option maxHeartbeats 4000000 in
theorem Tryz.items_list (l : List V) (hall : ∀ (k : Nat) (h : k < l.length), Tryz.PrOk l[k]) (B n : Nat) (bv : Value) (xs : List Value) (w : World) (x : Nat) (sv : Value) (ps : List Nat) (hx : x < B) (hvb : Jv.Vb w x 4 false 0 emp Jv.nilS sv)
    (hrw : Jv.Rw w (fun g => g < B) 24 sv (Jv.ptrs ps)) (htr : Tryz.Trs w (fun g => g < B) l ps) (hT : Tryz.Tb w) (hBg : 8 ≤ B) (hrow : w.ownsRow B 5 1 bv n xs) (hB : B ≤ w.heap.size) (hlen : n + 6 * (prL false l).length ≤ 900000000) :
    Calls Tryz.prog 65 #[.pointer (some ⟨x, 0, none⟩), bv] w fun en w' => Tryz.Put B n xs (prL false l) w en w' := by
  have hpl : ps.length = l.length := Tryz.Trs_len l ps htr
  have hpp : (Jv.ptrs ps).length = l.length := by rw [Jv.ptrs_len, hpl]
  obtain ⟨ag, cg, hsv⟩ := Jv.row_form hrw.row
  rw [hpp] at hsv
  have hl64 : l.length ≤ 9223372036854775807 := by
    rcases hrw.row.2 with ⟨_, h2⟩ | ⟨g, cap, cur, _, _, _, h4, h5, _⟩
    · omega
    · unfold maxLen at h5; omega
  have hcell : ∀ (k : Nat) (h : k < l.length), ∃ g y, ag = some ⟨g, 0, none⟩ ∧ g < B ∧ Tryz.Tr w (fun m => m < B) l[k] y ∧ w.cell? ⟨g, k, none⟩ = some (.pointer (some ⟨y, 0, none⟩)) := fun k h => by
    obtain ⟨g, c, h1, h2, h3, h4⟩ := Jv.row_cells hrw (by omega)
    obtain ⟨y, h5, h6⟩ := Tryz.Trs_get l ps k h htr
    rw [hsv] at h1
    injection h1 with h1
    exact ⟨g, y, h1, h2, h6, h4 k _ (by simp [Jv.ptrs, h5])⟩
  have hc0 := hvb.c0
  have hc5 := hvb.c5
  rw [hsv] at hc5
  clear hvb hrw htr hpp hsv
  have Hc0 : Hid (w.cell? ⟨x, 0, none⟩ = some (.int .i64 4)) := hc0
  go_enter Tryz.func65, Tryz.ntmps65
  go_wp2
  go_loopw [1, 12] (fun b i wr => ∃ k : Nat, k ≤ l.length ∧ i = .int .i64 k ∧ wr.ownsRow B 5 1 b (n + (prL false (l.take k)).length) (xs ++ Lib.byteCells (prL false (l.take k))) ∧ Below B w wr) (fun _ i _ => l.length - (intOf i).toNat)
  case atStart =>
    have e0 : prL false (l.take 0) = [] := by simp [prL]
    exact ⟨0, Nat.zero_le _, rfl, by rw [e0]; simpa [Lib.byteCells] using hrow, Below.refl _ _⟩
  case round =>
    obtain ⟨k, hk, rfl, hown, hbe⟩ := hrel
    have hBr : B ≤ wr.heap.size := Nat.le_trans hB hbe.size
    have hTr := hT.below hbe hBg
    by_cases hlt : k < l.length
    · obtain ⟨g, y, rfl, hgB, htk, hck⟩ := hcell k hlt
      have htk' : Tryz.Tr wr (fun m => m < B) l[k] y := Tryz.Tr_keep (fun m hm _ => hbe.block m hm) hbe.size _ _ htk
      have hck' := (hbe.cell (p := ⟨g, k, none⟩) hgB).trans hck
      have hx0 := (hbe.cell (p := ⟨x, 0, none⟩) hx).trans Hc0.out
      have hmo := Jv.prL_mono l (l.length - (k + 1)) (k + 1) (by omega)
      have HT := Jv.prL_take l k hlt
      have hpr := hall k hlt
      rw [HT] at hmo
      simp only [List.length_append] at hmo
      have HT' : Hid (prL false (l.take (k + 1)) = prL false (l.take k) ++ (comma (decide (0 < k)) ++ pr l[k])) := HT
      clear HT hck htk hcell hc0 hc5
      generalize prL false (l.take k) = P at *
      generalize l[k] = vk at *
      by_cases hk0 : k = 0
      · subst hk0
        have e0 : comma (decide (0 < 0)) = [] := rfl
        rw [e0] at HT' hmo
        have hap := hpr B _ _ _ wr y htk' hTr hBg hown hBr (by simp at hmo; omega)
        go_wp2_with (first | (go_at_call 25; refine hap.mono ?_; rintro e2 w2 ⟨v2, rfl, hown2, hbe2⟩) | fail)
        go_roundw
        case rel =>
          refine ⟨1, by omega, rfl, ?_, hbe.trans hbe2⟩
          rw [HT'.out]
          have e1 : n + (P ++ ([] ++ pr vk)).length = n + P.length + (pr vk).length := by simp; omega
          have e2 : xs ++ Lib.byteCells (P ++ ([] ++ pr vk)) = xs ++ Lib.byteCells P ++ Lib.byteCells (pr vk) := by simp [Lib.byteCells]
          rw [e1, e2]
          exact hown2
        case measure => simp [intOf]; omega
      · have e0 : comma (decide (0 < k)) = [44] := by simp [comma]; omega
        rw [e0] at HT' hmo
        have hk1 : (0 : Int) < k := by omega
        go_wp2_with (first | (at_builtin; refine Tryz.app_new rfl _ _ rfl B u1 _ _ (by rfl) wr hown hBr [.int .u8 44] 1 rfl (by rfl) (by decide) (by simp at hmo; omega) (by simp [Value.oneCell']) ?_; intro v1 w1 hown1 hbe1; have hx1 := (hbe1.cell (p := ⟨x, 0, none⟩) hx).trans hx0) | fail)
        have hb1 := hbe.trans hbe1
        have hap := hpr B _ v1 _ w1 y (Tryz.Tr_keep (fun m hm _ => hbe1.block m hm) hbe1.size _ _ htk') (hT.below hb1 hBg) hBg hown1 (Nat.le_trans hB hb1.size) (by simp at hmo; omega)
        refine hap.mono ?_
        rintro e2 w2 ⟨v2, rfl, hown2, hbe2⟩
        go_wp2
        go_roundw
        case rel =>
          refine ⟨k + 1, by omega, by go_num, ?_, hb1.trans hbe2⟩
          rw [HT'.out]
          have e1 : n + (P ++ ([44] ++ pr vk)).length = n + P.length + 1 + (pr vk).length := by simp; omega
          have e2 : xs ++ Lib.byteCells (P ++ ([44] ++ pr vk)) = xs ++ Lib.byteCells P ++ [.int .u8 44] ++ Lib.byteCells (pr vk) := by simp [Lib.byteCells]
          rw [e1, e2]
          exact hown2
        case measure => simp [intOf]; omega
    · obtain rfl : k = l.length := by omega
      go_wp2
      go_ret
      rw [List.take_of_length_le (Nat.le_refl _)] at hown
      exact ⟨_, rfl, hown, hbe⟩
end Go.Proofs
namespace Go.Proofs
open Go.RowKit Go.Jv
/-- One member. -/
def Jv.prM (ks : List ByteArray) (l : List V) (k : Nat) : List UInt8 := qText (ks.getD k emp) ++ ([58] ++ pr (l.getD k .null))
/-- The first k members. -/
def Jv.prT (ks : List ByteArray) (l : List V) : Nat → List UInt8
  | 0 => []
  | k + 1 => Jv.prT ks l k ++ (comma (decide (0 < k)) ++ Jv.prM ks l k)
theorem Jv.prT_le (ks : List ByteArray) (l : List V) : ∀ (m k : Nat), (Jv.prT ks l k).length ≤ (Jv.prT ks l (k + m)).length
  | 0, k => Nat.le_refl _
  | m + 1, k => by
    have h := Jv.prT_le ks l m k
    show _ ≤ (Jv.prT ks l (k + m) ++ _).length
    rw [List.length_append]
    omega
/-- All members, from the k-th on, behind the first k. -/
theorem Jv.prO_eq (ks : List ByteArray) (l : List V) (hl : ks.length = l.length) : ∀ (m k : Nat), k + m = l.length → Jv.prT ks l k ++ prO (decide (0 < k)) (ks.drop k) (l.drop k) = Jv.prT ks l l.length
  | 0, k, h => by
    obtain rfl : k = l.length := by omega
    have e : l.drop l.length = [] := List.drop_of_length_le (Nat.le_refl _)
    rw [e]
    simp [prO]
  | m + 1, k, h => by
    have hk : k < l.length := by omega
    have hk2 : k < ks.length := by omega
    rw [← Jv.prO_eq ks l hl m (k + 1) (by omega), List.drop_eq_getElem_cons hk, List.drop_eq_getElem_cons hk2, prO, Jv.prT, Jv.prM]
    have e1 : ks.getD k emp = ks[k] := by simp [List.getD_eq_getElem?_getD, hk2]
    have e2 : l.getD k .null = l[k] := by simp [List.getD_eq_getElem?_getD, hk]
    rw [e1, e2]
    simp
theorem Jv.prO_all (ks : List ByteArray) (l : List V) (hl : ks.length = l.length) : prO false ks l = Jv.prT ks l l.length := by
  have h := Jv.prO_eq ks l hl l.length 0 (by omega)
  simpa [Jv.prT] using h
set_option maxHeartbeats 4000000 in
theorem Tryz.items_obj (ks : List ByteArray) (l : List V) (hkl : ks.length = l.length) (hall : ∀ (k : Nat) (h : k < l.length), Tryz.PrOk l[k]) (B n : Nat) (bv : Value) (xs : List Value) (w : World) (x : Nat) (kv sv : Value) (ps : List Nat) (hx : x < B) (hvb : Jv.Vb w x 5 false 0 emp kv sv) (hkw : Jv.Rw w (fun g => g < B) 9 kv (ks.map Value.string))
    (hrw : Jv.Rw w (fun g => g < B) 24 sv (Jv.ptrs ps)) (htr : Tryz.Trs w (fun g => g < B) l ps) (hT : Tryz.Tb w) (hBg : 8 ≤ B) (hrow : w.ownsRow B 5 1 bv n xs) (hB : B ≤ w.heap.size) (hlen : n + 6 * (prO false ks l).length ≤ 900000000) :
    Calls Tryz.prog 65 #[.pointer (some ⟨x, 0, none⟩), bv] w fun en w' => Tryz.Put B n xs (prO false ks l) w en w' := by
  have hpl : ps.length = l.length := Tryz.Trs_len l ps htr
  have hpp : (Jv.ptrs ps).length = l.length := by rw [Jv.ptrs_len, hpl]
  obtain ⟨ag, cg, hsv⟩ := Jv.row_form hrw.row
  rw [hpp] at hsv
  have hl64 : l.length ≤ 9223372036854775807 := by
    rcases hrw.row.2 with ⟨_, h2⟩ | ⟨g, cap, cur, _, _, _, h4, h5, _⟩
    · omega
    · unfold maxLen at h5; omega
  have hcell : ∀ (k : Nat) (h : k < l.length), ∃ g y, ag = some ⟨g, 0, none⟩ ∧ g < B ∧ Tryz.Tr w (fun m => m < B) l[k] y ∧ w.cell? ⟨g, k, none⟩ = some (.pointer (some ⟨y, 0, none⟩)) := fun k h => by
    obtain ⟨g, c, h1, h2, h3, h4⟩ := Jv.row_cells hrw (by omega)
    obtain ⟨y, h5, h6⟩ := Tryz.Trs_get l ps k h htr
    rw [hsv] at h1
    injection h1 with h1
    exact ⟨g, y, h1, h2, h6, h4 k _ (by simp [Jv.ptrs, h5])⟩
  obtain ⟨akk, ck, hkv⟩ := Jv.row_form hkw.row
  rw [List.length_map, hkl] at hkv
  have hkcell : ∀ (k : Nat) (h : k < l.length), ∃ gk, akk = some ⟨gk, 0, none⟩ ∧ gk < B ∧ w.cell? ⟨gk, k, none⟩ = some (.string (ks.getD k emp)) := fun k h => by
    obtain ⟨g, c, h1, h2, h3, h4⟩ := Jv.row_cells hkw (by rw [List.length_map]; omega)
    rw [hkv] at h1
    injection h1 with h1
    exact ⟨g, h1, h2, h4 k _ (by simp [List.getD_eq_getElem?_getD, (by omega : k < ks.length)])⟩
  have Hc4 : Hid (w.cell? ⟨x, 4, none⟩ = some kv) := hvb.c4
  have HA := Jv.prO_all ks l hkl
  rw [HA] at hlen
  have HA' : Hid (prO false ks l = Jv.prT ks l l.length) := HA
  clear HA
  have hc0 := hvb.c0
  have hc5 := hvb.c5
  rw [hsv] at hc5
  clear hvb hrw htr hpp hsv hkw
  have Hc0 : Hid (w.cell? ⟨x, 0, none⟩ = some (.int .i64 5)) := hc0
  go_enter Tryz.func65, Tryz.ntmps65
  go_wp2
  go_loopw [1, 12] (fun b i wr => ∃ k : Nat, k ≤ l.length ∧ i = .int .i64 k ∧ wr.ownsRow B 5 1 b (n + (Jv.prT ks l k).length) (xs ++ Lib.byteCells (Jv.prT ks l k)) ∧ Below B w wr) (fun _ i _ => l.length - (intOf i).toNat)
  case atStart => exact ⟨0, Nat.zero_le _, rfl, by simpa [Jv.prT, Lib.byteCells] using hrow, Below.refl _ _⟩
  case round =>
    obtain ⟨k, hk, rfl, hown, hbe⟩ := hrel
    have hBr : B ≤ wr.heap.size := Nat.le_trans hB hbe.size
    by_cases hlt : k < l.length
    · obtain ⟨g, y, rfl, hgB, htk, hck⟩ := hcell k hlt
      obtain ⟨gk, rfl, hgkB, hckk⟩ := hkcell k hlt
      have hmo := Jv.prT_le ks l (l.length - (k + 1)) (k + 1)
      rw [show k + 1 + (l.length - (k + 1)) = l.length by omega, Jv.prT, Jv.prM] at hmo
      have e2 : l.getD k .null = l[k] := by simp [List.getD_eq_getElem?_getD, hlt]
      rw [e2] at hmo
      have HT' : Hid (Jv.prT ks l (k + 1) = Jv.prT ks l k ++ (comma (decide (0 < k)) ++ (qText (ks.getD k emp) ++ ([58] ++ pr l[k])))) := by
        show Jv.prT ks l k ++ (comma (decide (0 < k)) ++ Jv.prM ks l k) = _
        rw [Jv.prM, e2]
      have hpr := hall k hlt
      have hql := Jv.qText_len (ks.getD k emp)
      have HKV : Hid (kv = .slice (some ⟨gk, 0, none⟩) l.length ck) := hkv
      clear hcell hkcell hc0 hc5 e2 hkv
      generalize Jv.prT ks l k = P at *
      generalize l[k] = vk at *
      generalize ks.getD k emp = kk at *
      simp only [List.length_append] at hmo
      have hck' := (hbe.cell (p := ⟨g, k, none⟩) hgB).trans hck
      by_cases hk0 : k = 0
      · have e0 : comma (decide (0 < k)) = [] := by rw [hk0]; rfl
        rw [e0] at HT' hmo
        simp only [List.length_nil, List.length_cons] at hmo
        have hk1 : ¬ (0 : Int) < k := by omega
        clear hk0
        have hx0 := ((hbe).cell (p := ⟨x, 0, none⟩) hx).trans Hc0.out; have hx4 := ((hbe).cell (p := ⟨x, 4, none⟩) hx).trans Hc4.out; rw [HKV.out] at hx4; have hkc := ((hbe).cell (p := ⟨gk, k, none⟩) hgkB).trans hckk
        have hown0 : wr.ownsRow B 5 1 u1 (n + P.length + 0) (xs ++ Lib.byteCells P ++ Lib.byteCells []) := by simpa [Lib.byteCells] using hown
        have hq := Tryz.quote_any B _ u1 _ wr hown0 hBr kk (by omega)
        go_wp2_with (first | (go_at_call 64; refine hq.mono ?_; clear hq; rintro e5 w5 ⟨v5, rfl, hown5, hbe5⟩) | (at_builtin; refine Tryz.app_new rfl _ _ rfl B v5 _ _ (by rfl) w5 hown5 (Nat.le_trans hB (hbe.trans hbe5).size) [.int .u8 58] 1 rfl (by rfl) (by decide) (by omega) (by simp [Value.oneCell']) ?_; intro v6 w6 hown6 hbe6) | fail)
        have hb6 := (hbe.trans hbe5).trans hbe6
        have hap := hpr B _ v6 _ w6 y (Tryz.Tr_keep (fun m hm _ => hb6.block m hm) hb6.size _ _ htk) (hT.below hb6 hBg) hBg hown6 (Nat.le_trans hB hb6.size) (by omega)
        refine hap.mono ?_
        rintro e7 w7 ⟨v7, rfl, hown7, hbe7⟩
        go_wp2
        go_roundw
        case rel =>
          refine ⟨k + 1, by omega, by go_num, ?_, hb6.trans hbe7⟩
          rw [HT'.out]
          have e1 : n + (P ++ ([] ++ (qText kk ++ ([58] ++ pr vk)))).length = n + P.length + 0 + (qText kk).length + 1 + (pr vk).length := by simp; omega
          have e2 : xs ++ Lib.byteCells (P ++ ([] ++ (qText kk ++ ([58] ++ pr vk)))) = xs ++ Lib.byteCells P ++ Lib.byteCells [] ++ Lib.byteCells (qText kk) ++ [.int .u8 58] ++ Lib.byteCells (pr vk) := by simp [Lib.byteCells]
          rw [e1, e2]
          exact hown7
        case measure => simp [intOf]; omega
      · have e0 : comma (decide (0 < k)) = [44] := by simp [comma]; omega
        rw [e0] at HT' hmo
        simp only [List.length_nil, List.length_cons] at hmo
        have hk1 : (0 : Int) < k := by omega
        go_wp2_with (first | (at_builtin; refine Tryz.app_new rfl _ _ rfl B u1 _ _ (by rfl) wr hown hBr [.int .u8 44] 1 rfl (by rfl) (by decide) (by omega) (by simp [Value.oneCell']) ?_; clear hown; intro v1 w1 hown1 hbe1; have hb1 := hbe.trans hbe1; have hx0 := ((hb1).cell (p := ⟨x, 0, none⟩) hx).trans Hc0.out; have hx4 := ((hb1).cell (p := ⟨x, 4, none⟩) hx).trans Hc4.out; rw [HKV.out] at hx4; have hkc := ((hb1).cell (p := ⟨gk, k, none⟩) hgkB).trans hckk; have hq := Tryz.quote_any B _ v1 _ w1 hown1 (Nat.le_trans hB hb1.size) kk (by omega)) | (go_at_call 64; refine hq.mono ?_; clear hq; rintro e5 w5 ⟨v5, rfl, hown5, hbe5⟩) | (at_builtin; refine Tryz.app_new rfl _ _ rfl B v5 _ _ (by rfl) w5 hown5 (Nat.le_trans hB (hb1.trans hbe5).size) [.int .u8 58] 1 rfl (by rfl) (by decide) (by omega) (by simp [Value.oneCell']) ?_; intro v6 w6 hown6 hbe6) | fail)
        have hb6 := (hb1.trans hbe5).trans hbe6
        have hap := hpr B _ v6 _ w6 y (Tryz.Tr_keep (fun m hm _ => hb6.block m hm) hb6.size _ _ htk) (hT.below hb6 hBg) hBg hown6 (Nat.le_trans hB hb6.size) (by omega)
        refine hap.mono ?_
        rintro e7 w7 ⟨v7, rfl, hown7, hbe7⟩
        go_wp2
        go_roundw
        case rel =>
          refine ⟨k + 1, by omega, by go_num, ?_, hb6.trans hbe7⟩
          rw [HT'.out]
          have e1 : n + (P ++ ([44] ++ (qText kk ++ ([58] ++ pr vk)))).length = n + P.length + 1 + (qText kk).length + 1 + (pr vk).length := by simp; omega
          have e2 : xs ++ Lib.byteCells (P ++ ([44] ++ (qText kk ++ ([58] ++ pr vk)))) = xs ++ Lib.byteCells P ++ [.int .u8 44] ++ Lib.byteCells (qText kk) ++ [.int .u8 58] ++ Lib.byteCells (pr vk) := by simp [Lib.byteCells]
          rw [e1, e2]
          exact hown7
        case measure => simp [intOf]; omega
    · obtain rfl : k = l.length := by omega
      go_wp2
      go_ret
      rw [HA'.out]
      exact ⟨_, rfl, hown, hbe⟩
set_option maxHeartbeats 2000000 in
theorem Tryz.pr_list (l : List V) (hall : ∀ (k : Nat) (h : k < l.length), Tryz.PrOk l[k]) : Tryz.PrOk (.list l) := by
  intro B n bv xs w x hTr hT hBg hrow hB hlen
  obtain ⟨hx, sv, ps, hvb, hrw, htr⟩ := hTr
  have hk := Tryz.kind_any hvb
  have hpl : (pr (.list l)).length = (prL false l).length + 2 := by rw [pr]; simp
  have HP : Hid (pr (.list l) = [91] ++ (prL false l ++ [93])) := by show pr (.list l) = _; rw [pr]; rfl
  rw [hpl] at hlen
  have hit : ∀ w1 b1, Below B w w1 → w1.ownsRow B 5 1 b1 (n + 1) (xs ++ [.int .u8 91]) → Calls Tryz.prog 65 #[.pointer (some ⟨x, 0, none⟩), b1] w1 fun en w' => Tryz.Put B (n + 1) (xs ++ [.int .u8 91]) (prL false l) w1 en w' := fun w1 b1 hb1 h1 =>
    Tryz.items_list l hall B (n + 1) b1 _ w1 x sv ps hx (hvb.keep (hb1.block x hx) hb1.size) (hrw.keep fun g hg _ => hb1.block g hg) (Tryz.Trs_keep (fun g hg _ => hb1.block g hg) hb1.size l ps htr) (hT.below hb1 hBg) hBg h1 (Nat.le_trans hB hb1.size) (by omega)
  clear hvb hrw htr hpl
  go_enter Tryz.func25, Tryz.ntmps25
  go_wp2_with (first | (go_at_call 12; refine hk.mono ?_; clear hk; rintro e1 w1 ⟨rfl, rfl⟩) | (at_builtin; refine Tryz.app_new rfl _ _ rfl B bv n xs (by rfl) _ hrow hB [.int .u8 91] 1 rfl (by rfl) (by decide) (by omega) (by simp [Value.oneCell']) ?_; clear hrow; intro v1 w1 hown1 hbe1) | (go_at_call 65; refine (hit _ _ hbe1 hown1).mono ?_; rintro e2 w2 ⟨v2, rfl, hown2, hbe2⟩) | (at_builtin; refine Tryz.app_new rfl _ _ rfl B v2 _ _ (by rfl) w2 hown2 (Nat.le_trans hB (hbe1.trans hbe2).size) [.int .u8 93] 1 rfl (by rfl) (by decide) (by omega) (by simp [Value.oneCell']) ?_; intro v3 w3 hown3 hbe3) | fail)
  go_ret
  refine ⟨v3, rfl, ?_, (hbe1.trans hbe2).trans hbe3⟩
  rw [HP.out]
  have e1 : n + ([91] ++ (prL false l ++ [93])).length = n + 1 + (prL false l).length + 1 := by simp; omega
  have e2 : xs ++ Lib.byteCells ([91] ++ (prL false l ++ [93])) = xs ++ [.int .u8 91] ++ Lib.byteCells (prL false l) ++ [.int .u8 93] := by simp [Lib.byteCells]
  rw [e1, e2]
  exact hown3
set_option maxHeartbeats 2000000 in
theorem Tryz.pr_obj (ks : List ByteArray) (l : List V) (hall : ∀ (k : Nat) (h : k < l.length), Tryz.PrOk l[k]) : Tryz.PrOk (.obj ks l) := by
  intro B n bv xs w x hTr hT hBg hrow hB hlen
  obtain ⟨hx, kv, sv, ps, hvb, hkw, hrw, htr, hkl⟩ := hTr
  have hkl2 : ks.length = l.length := hkl.trans (Tryz.Trs_len l ps htr)
  have hk := Tryz.kind_any hvb
  have hpl : (pr (.obj ks l)).length = (prO false ks l).length + 2 := by rw [pr]; simp
  have HP : Hid (pr (.obj ks l) = [123] ++ (prO false ks l ++ [125])) := by show pr (.obj ks l) = _; rw [pr]; rfl
  rw [hpl] at hlen
  have hit : ∀ w1 b1, Below B w w1 → w1.ownsRow B 5 1 b1 (n + 1) (xs ++ [.int .u8 123]) → Calls Tryz.prog 65 #[.pointer (some ⟨x, 0, none⟩), b1] w1 fun en w' => Tryz.Put B (n + 1) (xs ++ [.int .u8 123]) (prO false ks l) w1 en w' := fun w1 b1 hb1 h1 =>
    Tryz.items_obj ks l hkl2 hall B (n + 1) b1 _ w1 x kv sv ps hx (hvb.keep (hb1.block x hx) hb1.size) (hkw.keep fun g hg _ => hb1.block g hg) (hrw.keep fun g hg _ => hb1.block g hg) (Tryz.Trs_keep (fun g hg _ => hb1.block g hg) hb1.size l ps htr) (hT.below hb1 hBg) hBg h1 (Nat.le_trans hB hb1.size) (by omega)
  clear hvb hrw htr hpl hkw hkl
  go_enter Tryz.func25, Tryz.ntmps25
  go_wp2_with (first | (go_at_call 12; refine hk.mono ?_; clear hk; rintro e1 w1 ⟨rfl, rfl⟩) | (at_builtin; refine Tryz.app_new rfl _ _ rfl B bv n xs (by rfl) _ hrow hB [.int .u8 123] 1 rfl (by rfl) (by decide) (by omega) (by simp [Value.oneCell']) ?_; clear hrow; intro v1 w1 hown1 hbe1) | (go_at_call 65; refine (hit _ _ hbe1 hown1).mono ?_; rintro e2 w2 ⟨v2, rfl, hown2, hbe2⟩) | (at_builtin; refine Tryz.app_new rfl _ _ rfl B v2 _ _ (by rfl) w2 hown2 (Nat.le_trans hB (hbe1.trans hbe2).size) [.int .u8 125] 1 rfl (by rfl) (by decide) (by omega) (by simp [Value.oneCell']) ?_; intro v3 w3 hown3 hbe3) | fail)
  go_ret
  refine ⟨v3, rfl, ?_, (hbe1.trans hbe2).trans hbe3⟩
  rw [HP.out]
  have e1 : n + ([123] ++ (prO false ks l ++ [125])).length = n + 1 + (prO false ks l).length + 1 := by simp; omega
  have e2 : xs ++ Lib.byteCells ([123] ++ (prO false ks l ++ [125])) = xs ++ [.int .u8 123] ++ Lib.byteCells (prO false ks l) ++ [.int .u8 125] := by simp [Lib.byteCells]
  rw [e1, e2]
  exact hown3
mutual
/-- 'append' of every value. -/
theorem Tryz.pr_any : ∀ v : V, Tryz.PrOk v
  | .null => Tryz.pr_scalar .null (fun _ h => by cases h) (fun _ _ h => by cases h)
  | .bool b => Tryz.pr_scalar (.bool b) (fun _ h => by cases h) (fun _ _ h => by cases h)
  | .int n => Tryz.pr_scalar (.int n) (fun _ h => by cases h) (fun _ _ h => by cases h)
  | .text s => Tryz.pr_scalar (.text s) (fun _ h => by cases h) (fun _ _ h => by cases h)
  | .list l => Tryz.pr_list l (Tryz.pr_all l)
  | .obj ks l => Tryz.pr_obj ks l (Tryz.pr_all l)
theorem Tryz.pr_all : ∀ (l : List V) (k : Nat) (h : k < l.length), Tryz.PrOk l[k]
  | v :: _, 0, _ => Tryz.pr_any v
  | _ :: l, k + 1, h => Tryz.pr_all l k (by simpa using h)
end
set_option maxHeartbeats 1000000 in
/-- 'Print'. -/
theorem Tryz.print_any (v : V) (w : World) (x : Nat) (hTr : Tryz.Tr w (fun g => g < w.heap.size) v x) (hT : Tryz.Tb w) (hlen : (pr v).length ≤ 100000000) :
    Calls Tryz.prog 11 #[.pointer (some ⟨x, 0, none⟩)] w fun en w' => en = .returned (.string ⟨(pr v).toArray⟩) ∧ Below w.heap.size w w' := by
  have hap := Tryz.pr_any v w.heap.size 0 (.slice none 0 0) [] w x hTr hT hT.size ⟨rfl, .inl ⟨rfl, rfl⟩⟩ (Nat.le_refl _) (by omega)
  have hcv : ∀ (W : World) (b : Value), W.ownsRow w.heap.size 5 1 b (0 + (pr v).length) ([] ++ Lib.byteCells (pr v)) → (convert 22 9 b).run Tryz.prog W = .ok (.string ⟨(pr v).toArray⟩) W := fun W b h => Tryz.gathered (B := w.heap.size) (by simpa using h)
  go_enter Tryz.func11, Tryz.ntmps11
  go_wp2_with (first | (go_at_call 25; refine hap.mono ?_; rintro e1 w1 ⟨v1, rfl, hown1, hbe1⟩; have hcv1 := hcv w1 v1 hown1) | fail)
  go_ret
  exact ⟨rfl, hbe1⟩
end Go.Proofs
namespace Go.Jv
/-- The text of 'awake'. -/
def awT : ByteArray := ⟨#[123, 34, 98, 34, 58, 91, 49, 44, 32, 45, 48, 93, 44, 34, 97, 34, 58, 34, 92, 117, 48, 48, 101, 57, 34, 125]⟩
def awV : V := .obj [⟨#[97]⟩, ⟨#[98]⟩] [.text ⟨#[195, 169]⟩, .list [.int 1, .int 0]]
theorem awake_parse : parse awT = .ok awV := by kernel_rfl
theorem awake_print : pr awV = [123, 34, 97, 34, 58, 34, 195, 169, 34, 44, 34, 98, 34, 58, 91, 49, 44, 48, 93, 125] := by kernel_rfl
end Go.Jv
namespace Go.Proofs
open Go.RowKit Go.Jv
/-- Bytes that lie in a block, as a text. -/
theorem Tryz.conv_at (t : ByteArray) (g c : Nat) (W : World) (h : ∀ j, j < t.size → W.cell? ⟨g, j, none⟩ = some (.int .u8 (t.data.toList.getD j 0).toNat)) :
    (convert 22 9 (.slice (some ⟨g, 0, none⟩) t.size c)).run Tryz.prog W = .ok (.string t) W := by
  have := run_convert_bytes_back (P := Tryz.prog) W 22 9 5 ⟨g, 0, none⟩ c t.data.toList Tryz.underlying22 Tryz.underlying5 Tryz.underlying9 (fun j hj => by
    have hadd : (⟨g, 0, none⟩ : Addr).add j = ⟨g, j, none⟩ := by unfold Addr.add; split <;> simp_all
    rw [hadd, h j hj]
    have hj' : j < t.data.size := hj
    simp only [List.getD_eq_getElem?_getD, List.getElem?_eq_getElem hj, Option.getD_some])
  simpa using this
/-- 'Parse' of the bytes of a text that were laid out anew. -/
theorem Tryz.parse_bytes (t : ByteArray) (c : Nat) (w : World) (hs : t.size ≤ 140737488355328) (hT : Tryz.Tb w) :
    Calls Tryz.prog 20 #[.slice (some ⟨w.heap.size, 0, none⟩) t.size c] (Lib.bytesWorld w 5 t) fun en w' => Tryz.ParseOk t (Lib.bytesWorld w 5 t) en w' := by
  have hb : Below w.heap.size w (Lib.bytesWorld w 5 t) := ⟨rfl, rfl, rfl, by rw [Lib.bytesWorld_size]; omega, fun k hk => Lib.bytesWorld_at_old w _ t k hk⟩
  refine Tryz.parse_any t _ c _ hs (hT.below hb hT.size) fun W hW => Tryz.conv_at t _ c W fun j hj => ?_
  rw [← Lib.bytesWorld_cell w 5 t j hj]
  exact hW.cell (by rw [Lib.bytesWorld_size]; show w.heap.size < _; omega)
/-- A row of bytes that is marked as a text's. -/
def Jv.stW (w : World) (e : TypeId) (cs : Array Value) : World := (w.alloc (.cells cs e)).freeze ⟨w.heap.size, cs.size, none⟩ 1
theorem Jv.stW_at (w : World) (e : TypeId) (cs : Array Value) : (Jv.stW w e cs).heap[w.heap.size]? = some (.cells cs e (cs.size, cs.size + 1)) := by
  simp [Jv.stW, World.freeze, World.alloc, -World.alloc_eq]
  rw [Array.getElem_modify_self]
  simp
theorem Jv.stW_size (w : World) (e : TypeId) (cs : Array Value) : (Jv.stW w e cs).heap.size = w.heap.size + 1 := by
  simp [Jv.stW, World.freeze, World.alloc, -World.alloc_eq]
theorem Jv.stW_below (w : World) (e : TypeId) (cs : Array Value) : Below w.heap.size w (Jv.stW w e cs) := by
  refine ⟨rfl, rfl, rfl, by rw [Jv.stW_size]; omega, fun k hk => ?_⟩
  have h1 : w.heap.size ≠ k := by omega
  simp [Jv.stW, World.freeze, World.alloc, -World.alloc_eq, Array.getElem?_modify, Array.getElem?_push, h1, Ne.symm h1]
theorem Tryz.same_conv (cs : Array Value) (n c : Nat) (w : World) : (convert 22 22 (.slice (some ⟨w.heap.size, 0, none⟩) n c)).run Tryz.prog (w.alloc (.cells cs 5)) = .ok (.slice (some ⟨w.heap.size, 0, none⟩) n c) (Jv.stW w 5 cs) := by
  have hsh : (w.alloc (.cells cs 5)).shape? w.heap.size = some (5, cs.size) := by
    simp [World.shape?, World.alloc, -World.alloc_eq]
  simp [convert, run_underlying Tryz.underlying22, run_underlying Tryz.underlying5, markStringish, Jv.stW, hsh, Result.andThen]
/-- 'Parse' of bytes that were laid out as a text. -/
theorem Tryz.parse_st (t : ByteArray) (c : Nat) (w : World) (hs : t.size ≤ 140737488355328) (hT : Tryz.Tb w) :
    Calls Tryz.prog 20 #[.slice (some ⟨w.heap.size, 0, none⟩) t.size c] (Jv.stW w 5 (Lib.byteCells t.data.toList).toArray) fun en w' => Tryz.ParseOk t (Jv.stW w 5 (Lib.byteCells t.data.toList).toArray) en w' := by
  refine Tryz.parse_any t _ c _ hs (hT.below (Jv.stW_below w _ _) hT.size) fun W hW => Tryz.conv_at t _ c W fun j hj => ?_
  rw [hW.cell (by rw [Jv.stW_size]; show w.heap.size < _; omega)]
  have hj' : j < t.data.size := hj
  simp [World.cell?, Jv.stW_at, Lib.byteCells, List.getD]
  exact ⟨_, Array.getElem?_eq_getElem hj', by simp [Array.getElem?_eq_getElem hj']⟩
/-- What 'Parse' answers, where the text is right. -/
theorem Tryz.ParseOk.ok {t : ByteArray} {w w' : World} {en : Ending} {v : V} (hv : parse t = .ok v) (h : Tryz.ParseOk t w en w') :
    ∃ x, en = .returned (.tuple #[.pointer (some ⟨x, 0, none⟩), .nilIface]) ∧ Tryz.Tr w' (fun g => w.heap.size ≤ g) v x ∧ Below w.heap.size w w' := by
  rcases h with ⟨v', x, h1, h2, h3, h4⟩ | ⟨p, e, y, h1, _⟩
  · rw [hv] at h1; cases h1; exact ⟨x, h2, h3, h4⟩
  · rw [hv] at h1; cases h1
/-- Where it is not. -/
theorem Tryz.ParseOk.bad {t : ByteArray} {w w' : World} {en : Ending} {p e : Nat} (hv : parse t = .bad p e) (h : Tryz.ParseOk t w en w') :
    ∃ y, en = .returned (.tuple #[.pointer none, .iface 88 (.pointer (some ⟨y, 0, none⟩))]) ∧ w'.cell? ⟨y, 0, none⟩ = some (.int .i64 p) ∧ w'.cell? ⟨y, 1, none⟩ = some (.int .i64 e) ∧ Below w.heap.size w w' := by
  rcases h with ⟨v', x, h1, h2, h3, h4⟩ | ⟨p, e, y, h1, h2, h3, h4, h5⟩
  · rw [hv] at h1; cases h1
  · rw [hv] at h1; cases h1; exact ⟨y, h2, h3, h4, h5⟩
set_option maxRecDepth 100000 in
set_option maxHeartbeats 2000000 in
theorem Tryz.awake_any (w : World) (hT : Tryz.Tb w) : Calls Tryz.prog 8 #[] w fun en w' => en = .returned (.bool true) ∧ Below w.heap.size w w' := by
  have hp := (Tryz.parse_st awT 26 w (by decide) hT).mono (fun _ _ h => Tryz.ParseOk.ok awake_parse h)
  have hsc := Tryz.same_conv (Lib.byteCells awT.data.toList).toArray awT.size 26 w
  have hbe := Jv.stW_below w 5 (Lib.byteCells awT.data.toList).toArray
  change (convert 22 22 (.slice (some ⟨w.heap.size, 0, none⟩) 26 26)).run Tryz.prog (w.alloc (.cells #[.int .u8 123, .int .u8 34, .int .u8 98, .int .u8 34, .int .u8 58, .int .u8 91, .int .u8 49, .int .u8 44, .int .u8 32, .int .u8 45, .int .u8 48, .int .u8 93, .int .u8 44, .int .u8 34, .int .u8 97, .int .u8 34, .int .u8 58, .int .u8 34, .int .u8 92, .int .u8 117, .int .u8 48, .int .u8 48, .int .u8 101, .int .u8 57, .int .u8 34, .int .u8 125] 5)) = .ok (.slice (some ⟨w.heap.size, 0, none⟩) 26 26) _ at hsc
  change Calls Tryz.prog 20 #[.slice (some ⟨w.heap.size, 0, none⟩) 26 26] _ _ at hp
  generalize Jv.stW w 5 (Lib.byteCells awT.data.toList).toArray = w0 at hp hsc hbe
  go_enter Tryz.func8, Tryz.ntmps8
  go_wp2_with (first | (go_at_call 20; refine hp.mono ?_; clear hp; rintro e1 w1 ⟨x, rfl, htr, hb1⟩; have hT1 := hT.below (hbe.trans (hb1.mono hbe.size)) hT.size; have hpr := Tryz.print_any awV w1 x (Tryz.Tr_mono (fun _ _ h => h) _ _ htr) hT1 (by rw [awake_print]; decide); rw [awake_print] at hpr) | (go_at_call 11; refine hpr.mono ?_; clear hpr; rintro e2 w2 ⟨rfl, hb2⟩) | fail)
  go_ret
  exact ⟨rfl, (hbe.trans (hb1.mono hbe.size)).trans (hb2.mono (Nat.le_trans hbe.size hb1.size))⟩
end Go.Proofs
namespace Go.Proofs
open Go.RowKit Go.ChangeShapes Go.WideShapes Go.Deep Go.Jv
theorem Tryz.laidOut : laidOutB Tryz.prog = true := by kernel_rfl
theorem Tryz.cellsU8 : Tryz.prog.cellsOf 5 = 1 := by kernel_rfl
theorem Tryz.bytesU8 : Tryz.prog.bytesOf 5 = 1 := by kernel_rfl
/-- Bytes that lie somewhere. -/
structure Jv.By (w : World) (v : Value) (t : ByteArray) : Prop where
  ex : ∃ ad cap, v = .slice ad t.size cap ∧ (t = ⟨#[]⟩ ∨ ∃ g o, ad = some ⟨g, o, none⟩ ∧ g < w.heap.size ∧ ∀ j, j < t.size → w.cell? ⟨g, o + j, none⟩ = some (.int .u8 (t.data.toList.getD j 0).toNat))
theorem Jv.By.up {w w' : World} {v : Value} {t : ByteArray} (h : Jv.By w v t) (hb : Below w.heap.size w w') : Jv.By w' v t := by
  obtain ⟨ad, cap, h1, h2⟩ := h.ex
  refine ⟨ad, cap, h1, h2.imp id ?_⟩
  rintro ⟨g, o, e, hg, hc⟩
  exact ⟨g, o, e, Nat.lt_of_lt_of_le hg hb.size, fun j hj => (hb.cell (p := ⟨g, o + j, none⟩) hg).trans (hc j hj)⟩
set_option maxRecDepth 20000 in
theorem Tryz.conv_by {W : World} {ad : Option Addr} {cap : Nat} {t : ByteArray} (h : Jv.By W (.slice ad t.size cap) t) : (convert 22 9 (.slice ad t.size cap)).run Tryz.prog W = .ok (.string t) W := by
  obtain ⟨ad', cap', e, h1⟩ := h.ex
  injection e with e1 e2 e3
  subst e1
  rcases h1 with rfl | ⟨g, o, rfl, _, h2⟩
  · exact run_convert_bytes_zero (P := Tryz.prog) _ 22 5 Tryz.underlying22 Tryz.underlying5 ad cap 9 Tryz.underlying9
  · have := run_convert_bytes_back (P := Tryz.prog) W 22 9 5 ⟨g, o, none⟩ cap t.data.toList Tryz.underlying22 Tryz.underlying5 Tryz.underlying9 (fun j hj => by
      rw [Addr.add_mid, h2 j hj]
      simp only [List.getD_eq_getElem?_getD, List.getElem?_eq_getElem hj, Option.getD_some])
    simpa using this
theorem Tryz.open_by {H : Type} {enc : TypeId × Value → H} {W : World} {a0 : Option Addr} {len cap fuel : Nat} {x : DataW H × List MemPlace}
    (hf : DataW.trod enc Tryz.prog W 0 (fun _ => true) true fuel 22 [.slice a0 len cap] = some x) : ∃ t : ByteArray, Jv.By W (.slice a0 len cap) t ∧ (t.size = 0 ∨ ∃ el sp, x.1 = .slice el sp ∧ el.length = t.size) := by
  rcases open_slice Tryz.underlying22 hf with ⟨hcs, -⟩ | ⟨a, len', cap', m, n, D, Pl, hcs, _, hl, hm, hmm, hxx, hx⟩
  · simp at hcs
    obtain ⟨rfl, rfl, rfl⟩ := hcs
    exact ⟨⟨#[]⟩, ⟨none, 0, rfl, .inl rfl⟩, .inl rfl⟩
  · simp at hcs
    obtain ⟨rfl, rfl, rfl⟩ := hcs
    have hm' : m = cap := by simpa using hmm
    subst hm'
    obtain ⟨b, off, spot⟩ := a
    have each : ∀ i, i < m → ∃ c : UInt8, W.cell? ((⟨b, off, spot⟩ : Addr).add i) = some (.int .u8 (c.toNat : Nat)) := by
      intro i hi
      obtain ⟨cs', h1, h2⟩ := hx i hi
      rw [Tryz.cellsU8, Nat.mul_one] at h1
      obtain ⟨_, hlen, hcell⟩ := World.cells?_some h1
      obtain ⟨n0, e0, -, b0⟩ := DataW.trod_int Tryz.underlying5 h2
      have d0 := hcell 0 (by omega)
      rw [add_add] at d0
      have hb0 := bounds_u8 b0
      refine ⟨UInt8.ofNat n0.toNat, ?_⟩
      rw [UInt8.toNat_ofNat', Nat.mod_eq_of_lt (by omega)]
      have : ((n0.toNat : Nat) : Int) = n0 := by omega
      rw [this]
      subst e0
      simpa using d0
    obtain ⟨q, hq⟩ := choose_lt each
    have hll : (⟨((List.range len).map q).toArray⟩ : ByteArray).size = len := by simp [ByteArray.size]
    refine ⟨⟨((List.range len).map q).toArray⟩, ⟨some ⟨b, off, spot⟩, m, by rw [hll], ?_⟩, .inr ⟨_, _, by rw [hxx], by rw [hll]; simp⟩⟩
    by_cases h0 : len = 0
    · subst h0; exact .inl rfl
    · have hc0 := hq 0 (by omega)
      have hspot : spot = none := by simpa [Addr.add] using World.cell?_spot hc0
      subst hspot
      refine .inr ⟨b, off, rfl, World.block_lt_of_cell? _ _ (by simpa [Addr.add] using hc0), fun j hj => ?_⟩
      rw [hll] at hj
      have h1 := hq j (by omega)
      rw [Addr.add_mid] at h1
      rw [h1]
      simp [List.getD_eq_getElem?_getD, hj]
end Go.Proofs
namespace Go.Proofs
open Go.RowKit Go.Jv
/-- A block with N bytes, each as f says. -/
structure Jv.Rb (w : World) (g N : Nat) (f : Nat → Nat) : Prop where
  lt : g < w.heap.size
  cell : ∀ j, j < N → w.cell? ⟨g, j, none⟩ = some (.int .u8 (f j : Nat))
  fz : ∀ j, j < N → w.frozen? ⟨g, j, none⟩ = false
theorem Jv.Rb.set {w : World} {g N : Nat} {f : Nat → Nat} (h : Jv.Rb w g N f) {i : Nat} (hi : i < N) (c : Nat) : Jv.Rb (w.setCell ⟨g, i, none⟩ (.int .u8 (c : Nat))) g N (fun j => if j = i then c else f j) := by
  refine ⟨by simpa using h.lt, fun j hj => ?_, fun j hj => by rw [World.frozen?_setCell]; exact h.fz j hj⟩
  by_cases hji : j = i
  · subst hji
    rw [World.cell?_setCell_same _ _ _ (h.cell j hj)]
    simp
  · rw [World.cell?_setCell_other _ _ _ _ (fun e => hji (by injection e with e1 e2; exact e2.symm)), h.cell j hj]
    simp [hji]
theorem Jv.Rb.below {w w' : World} {g N : Nat} {f : Nat → Nat} {B : Nat} (h : Jv.Rb w g N f) (hb : Below B w w') (hg : g < B) : Jv.Rb w' g N f :=
  ⟨Nat.lt_of_lt_of_le h.lt hb.size, fun j hj => (hb.cell (p := ⟨g, j, none⟩) hg).trans (h.cell j hj), fun j hj => (World.frozen?_of_block (a := ⟨g, j, none⟩) (hb.block g hg)).trans (h.fz j hj)⟩
theorem Jv.below_setCells {B g : Nat} (hg : B ≤ g) : ∀ (vs : List Value) (o : Nat) (a w : World), Below B a w → Below B a (w.setCells g o vs)
  | [], _, _, _, h => h
  | v :: r, o, a, _w, h => Jv.below_setCells hg r (o + 1) a _ (h.setCell (p := ⟨g, o, none⟩) hg v)
theorem Tryz.szU8 : ∀ w, (Go.sizeOf 5).run Tryz.prog w = .ok 1 w := by
  have : (Tryz.prog.info? 5).map (·.size) = some 1 := by kernel_rfl
  intro w
  cases h : Tryz.prog.info? 5 with
  | none => rw [h] at this; cases this
  | some i =>
    rw [h] at this
    simp at this
    simp [Go.sizeOf, typeInfo, h, this]
theorem Tryz.infoU8s : (Tryz.prog.info? 5).map (fun i => (i.zero, i.size, i.bytes)) = some (some (.int .u8 0), 1, 1) := by kernel_rfl
theorem Tryz.size1U8 : (Tryz.prog.info? 5).map (·.size) = some 1 := by kernel_rfl
theorem Tryz.makeRb {ops : Array Oper} {rest : List Oper} {o : Oper} {a : Act} {Q : Exit → Act → World → Prop} {w : World} (hgd : o.guard = none) (l c : Operand) (hop : o.op = Op.makeSlice 22 l c)
    (L : Int) (n : Nat) (hl : a.eval l = .int .i64 L) (hc : a.eval c = .int .i64 L) (hL : L = (n : Int)) (hn : n ≤ 140737488355328)
    (hK : ∀ w', Jv.Rb w' w.heap.size n (fun _ => 0) → Below w.heap.size w w' → wpList Tryz.prog ops Q rest (a.put o.dst (.slice (some ⟨w.heap.size, 0, none⟩) n n)) w') (h0 : 0 < n) : wpList Tryz.prog ops Q (o :: rest) a w := by
  obtain ⟨i0, hi0, hz0, hz1, hz2⟩ := info_parts Tryz.infoU8s
  refine wpList_make_full w hgd l c 22 hop w.heap.size 5 i0 (.int .u8 0) 1 Tryz.underlying22 hi0 hz0 hz1 .i64 .i64 L L n hl hc hL hL (by rw [hz2]; omega) (by unfold maxLen; omega) (Nat.le_refl _) ?_
  intro w' hown hg
  refine hK w' ?_ ((Below.refl _ w).grown hg (Nat.le_refl _) fun k e => by cases e)
  have e2 : (madeCells (Value.int .u8 0).cells (n * 1)).toList = List.replicate n (.int .u8 0) := by
    rw [show (Value.int .u8 0).cells = #[.int .u8 0] from rfl, toList_madeCells_one, Nat.mul_one]
  rw [e2] at hown
  rcases hown.2 with ⟨e, e0⟩ | ⟨g, cap, cur, e, hB, hgg, k1, k2, k3, k4⟩
  · omega
  · injection e with e1 e3 e4
    injection e1 with e1
    injection e1 with e1
    subst e1
    refine ⟨(Array.getElem?_eq_some_iff.1 hgg).1, fun j hj => ?_, fun j hj => frozen_of_row _ _ _ _ _ hgg⟩
    rw [cell_of_row _ _ _ _ _ _ hgg]
    have hq : (cur.toList.take (n * 1))[j]? = some (.int .u8 0) := by rw [k4]; simp [hj]
    rw [List.getElem?_take] at hq
    split at hq
    · rw [← Array.getElem?_toList]; exact hq
    · cases hq
/-- copy of the bytes that came in, into a row made. -/
theorem Tryz.copyRb {w : World} {g N : Nat} {f : Nat → Nat} (h : Jv.Rb w g N f) {bv : Value} {t : ByteArray} (hB : Jv.By w bv t) (hl : t.size ≤ N) (B : Nat) (w0 : World) (hb : Below B w0 w) (hBg : B ≤ g) :
    ∃ w', (∀ ty, (Builtin.copy_ #[22, 22] ty #[.slice (some ⟨g, 0, none⟩) N N, bv]).run Tryz.prog w = .ok (goInt t.size) w') ∧ Jv.Rb w' g N (fun j => if j < t.size then (t.data.toList.getD j 0).toNat else f j) ∧ Below B w0 w' := by
  obtain ⟨ad, cap, rfl, h1⟩ := hB.ex
  rcases h1 with rfl | ⟨sb, so, rfl, _, h2⟩
  · refine ⟨w, fun ty => run_copy_none (P := Tryz.prog) w _ _ ty 5 _ _ _ _ _ _ Tryz.underlying22 Tryz.size1U8 (Nat.zero_min N), ?_, hb⟩
    have e : (fun j => if j < ByteArray.size ⟨#[]⟩ then ((⟨#[]⟩ : ByteArray).data.toList.getD j 0).toNat else f j) = f := funext fun j => if_neg (Nat.not_lt_zero j)
    rw [e]
    exact h
  · have hcl : (Lib.byteCells t.data.toList).length = t.size := by
      simp only [Lib.byteCells, List.length_map, Array.length_toList]
      rfl
    have hcj : ∀ j, j < t.size → (Lib.byteCells t.data.toList)[j]? = some (.int .u8 ((t.data.toList.getD j 0).toNat : Nat)) := fun j hj => by
      have hj' : j < t.data.toList.length := by rw [Array.length_toList]; exact hj
      simp only [Lib.byteCells, List.getElem?_map, List.getElem?_eq_getElem hj', Option.map_some, List.getD_eq_getElem?_getD, Option.getD_some]
    have hrun := fun ty => run_copy_cells (P := Tryz.prog) w 22 22 ty 5 g 0 N N ⟨sb, so, none⟩ t.size cap (Lib.byteCells t.data.toList) Tryz.underlying22 Tryz.size1U8 (by rw [hcl]; exact (Nat.min_eq_left hl).symm) (fun j u hj => by
      have hjl := (List.getElem?_eq_some_iff.1 hj).1
      rw [hcl] at hjl
      rw [hcj j hjl] at hj
      injection hj with hj
      rw [Addr.add_mid, ← hj]
      exact h2 j hjl) (fun j hj => by rw [Nat.zero_add, h.cell j (by omega)]; rfl) (fun j hj => by rw [Nat.zero_add]; exact h.fz j (by omega)) (fun u hu => by
      simp only [Lib.byteCells, List.mem_map] at hu
      obtain ⟨b, _, rfl⟩ := hu
      rfl)
    rw [hcl] at hrun
    refine ⟨_, hrun, ⟨?_, fun j hj => ?_, fun j hj => by rw [World.frozen?_setCells]; exact h.fz j hj⟩, Jv.below_setCells hBg _ _ _ _ hb⟩
    · exact Nat.lt_of_lt_of_le h.lt (Jv.below_setCells (B := 0) (Nat.zero_le _) _ _ w w (Below.refl _ _)).size
    · by_cases hjt : j < t.size
      · have := World.cell?_setCells_in g (Lib.byteCells t.data.toList) 0 w (fun i hi => by rw [Nat.zero_add, h.cell i (by omega)]; rfl) j (by omega)
        rw [Nat.zero_add] at this
        rw [this, ← List.getElem?_eq_getElem, hcj j hjt]
        simp [hjt]
      · rw [World.cell?_setCells_out g _ _ w _ (fun _ _ => .inr (by show 0 + _ ≤ j; omega)), h.cell j hj]
        simp [hjt]
/-- The first bytes of such a block, as a text. -/
theorem Tryz.conv_rb {w : World} {g N : Nat} {f : Nat → Nat} (h : Jv.Rb w g N f) {t : ByteArray} (hl : t.size ≤ N) (hf : ∀ j, j < t.size → f j = (t.data.toList.getD j 0).toNat) (c : Nat) :
    (convert 22 9 (.slice (some ⟨g, 0, none⟩) t.size c)).run Tryz.prog w = .ok (.string t) w :=
  Tryz.conv_at t g c w fun j hj => by rw [h.cell j (by omega), hf j hj]
end Go.Proofs
