/-
  'appendItems' of a list.
-/
import Derived.Test.YtejibjeidklnkaaGreatDoorJu
namespace Go.Proofs
open Go.RowKit Go.Jv
theorem Jv.prL_snoc : ∀ (c : Bool) (l : List V) (v : V), prL c (l ++ [v]) = prL c l ++ (comma (c || !l.isEmpty) ++ pr v)
  | c, [], v => by simp [prL]
  | c, u :: l, v => by
    have h := Jv.prL_snoc true l v
    simp only [List.cons_append, prL, h]
    simp
theorem Jv.prL_take (l : List V) (k : Nat) (h : k < l.length) : prL false (l.take (k + 1)) = prL false (l.take k) ++ (comma (decide (0 < k)) ++ pr l[k]) := by
  rw [List.take_succ_eq_append_getElem h, Jv.prL_snoc]
  congr 2
  cases k with
  | zero => simp
  | succ k => cases l with
    | nil => simp at h
    | cons a l => simp
theorem Jv.prL_mono (l : List V) : ∀ (m k : Nat), k + m = l.length → (prL false (l.take k)).length ≤ (prL false l).length
  | 0, k, h => by rw [List.take_of_length_le (by omega)]; exact Nat.le_refl _
  | m + 1, k, h => by
    have h1 := Jv.prL_mono l m (k + 1) (by omega)
    rw [Jv.prL_take l k (by omega)] at h1
    simp only [List.length_append] at h1
    omega
theorem Tryz.Trs_get {w : World} {ok : Nat → Prop} : ∀ (l : List V) (ps : List Nat) (k : Nat) (h : k < l.length), Tryz.Trs w ok l ps → ∃ y, ps[k]? = some y ∧ Tryz.Tr w ok l[k] y
  | [], ps, k, h, _ => by simp at h
  | v :: l, ps, 0, h, ht => by
    unfold Tryz.Trs at ht
    obtain ⟨y, r, rfl, h2, _⟩ := ht
    exact ⟨y, rfl, h2⟩
  | v :: l, ps, k + 1, h, ht => by
    unfold Tryz.Trs at ht
    obtain ⟨y, r, rfl, _, h3⟩ := ht
    exact Tryz.Trs_get l r k (by simpa using h) h3
theorem Jv.row_cells {w : World} {e : TypeId} {sv : Value} {vals : List Value} {ok : Nat → Prop} (h : Jv.Rw w ok e sv vals) (h0 : 0 < vals.length) : ∃ g c, sv = .slice (some ⟨g, 0, none⟩) vals.length c ∧ ok g ∧ g < w.heap.size ∧ ∀ (j : Nat) u, vals[j]? = some u → w.cell? ⟨g, j, none⟩ = some u := by
  rcases h.row.2 with ⟨_, h2⟩ | ⟨g, cap, cur, h1, _, hg, _, _, _, htk⟩
  · omega
  · refine ⟨g, cap, h1, h.ok g (by rw [h1]; rfl), (Array.getElem?_eq_some_iff.1 hg).1, fun j u hj => ?_⟩
    simp only [Nat.mul_one] at htk
    rw [cell_of_row _ _ j _ _ _ hg, ← Array.getElem?_toList]
    have hjl : j < vals.length := (List.getElem?_eq_some_iff.1 hj).1
    rw [← htk, List.getElem?_take, if_pos hjl] at hj
    exact hj
set_option maxHeartbeats 4000000 in
theorem Tryz.items_list (l : List V) (hall : ∀ (k : Nat) (h : k < l.length), Tryz.PrOk l[k]) (B n : Nat) (bv : Value) (xs : List Value) (w : World) (x : Nat) (sv : Value) (ps : List Nat) (hx : x < B) (hvb : Jv.Vb w x 4 false 0 emp Jv.nilS sv)
    (hrw : Jv.Rw w (fun g => g < B) 27 sv (Jv.ptrs ps)) (htr : Tryz.Trs w (fun g => g < B) l ps) (hT : Tryz.Tb w) (hBg : 8 ≤ B) (hrow : w.ownsRow B 5 1 bv n xs) (hB : B ≤ w.heap.size) (hlen : n + 6 * (prL false l).length ≤ 900000000) :
    Calls Tryz.prog 22 #[.pointer (some ⟨x, 0, none⟩), bv] w fun en w' => Tryz.Put B n xs (prL false l) w en w' := by
  have hpl : ps.length = l.length := Tryz.Trs_len l ps htr
  have hpp : (Jv.ptrs ps).length = l.length := by rw [Jv.ptrs_len, hpl]
  obtain ⟨ag, cg, hsv⟩ := Jv.row_form hrw.row
  rw [hpp] at hsv
  have hl64 : l.length ≤ 9223372036854775807 := by
    rcases hrw.row.2 with ⟨_, h2⟩ | ⟨g, cap, cur, _, _, _, h4, h5, _⟩
    · omega
    · unfold maxLen at h5; omega
  have hcell : ∀ (k : Nat) (h : k < l.length), ∃ g y, ag = some ⟨g, 0, none⟩ ∧ g < B ∧ Tryz.Tr w (fun m => m < B) l[k] y ∧ w.cell? ⟨g, k, none⟩ = some (.pointer (some ⟨y, 0, none⟩)) := fun k h => by
    obtain ⟨g, c, h1, h2, h3, h4⟩ := Jv.row_cells hrw (by omega)
    obtain ⟨y, h5, h6⟩ := Tryz.Trs_get l ps k h htr
    rw [hsv] at h1
    injection h1 with h1
    exact ⟨g, y, h1, h2, h6, h4 k _ (by simp [Jv.ptrs, h5])⟩
  have hc0 := hvb.c0
  have hc5 := hvb.c5
  rw [hsv] at hc5
  clear hvb hrw htr hpp hsv
  have Hc0 : Hid (w.cell? ⟨x, 0, none⟩ = some (.int .i64 4)) := hc0
  go_enter Tryz.func22, Tryz.ntmps22
  go_wp2
  go_loopw [1, 12] (fun b i wr => ∃ k : Nat, k ≤ l.length ∧ i = .int .i64 k ∧ wr.ownsRow B 5 1 b (n + (prL false (l.take k)).length) (xs ++ Lib.byteCells (prL false (l.take k))) ∧ Below B w wr) (fun _ i _ => l.length - (intOf i).toNat)
  case atStart =>
    have e0 : prL false (l.take 0) = [] := by simp [prL]
    exact ⟨0, Nat.zero_le _, rfl, by rw [e0]; simpa [Lib.byteCells] using hrow, Below.refl _ _⟩
  case round =>
    obtain ⟨k, hk, rfl, hown, hbe⟩ := hrel
    have hBr : B ≤ wr.heap.size := Nat.le_trans hB hbe.size
    have hTr := hT.below hbe hBg
    by_cases hlt : k < l.length
    · obtain ⟨g, y, rfl, hgB, htk, hck⟩ := hcell k hlt
      have htk' : Tryz.Tr wr (fun m => m < B) l[k] y := Tryz.Tr_keep (fun m hm _ => hbe.block m hm) hbe.size _ _ htk
      have hck' := (hbe.cell (p := ⟨g, k, none⟩) hgB).trans hck
      have hx0 := (hbe.cell (p := ⟨x, 0, none⟩) hx).trans Hc0.out
      have hmo := Jv.prL_mono l (l.length - (k + 1)) (k + 1) (by omega)
      have HT := Jv.prL_take l k hlt
      have hpr := hall k hlt
      rw [HT] at hmo
      simp only [List.length_append] at hmo
      have HT' : Hid (prL false (l.take (k + 1)) = prL false (l.take k) ++ (comma (decide (0 < k)) ++ pr l[k])) := HT
      clear HT hck htk hcell hc0 hc5
      generalize prL false (l.take k) = P at *
      generalize l[k] = vk at *
      by_cases hk0 : k = 0
      · subst hk0
        have e0 : comma (decide (0 < 0)) = [] := rfl
        rw [e0] at HT' hmo
        have hap := hpr B _ _ _ wr y htk' hTr hBg hown hBr (by simp at hmo; omega)
        go_wp2_with (first | (go_at_call 15; refine hap.mono ?_; rintro e2 w2 ⟨v2, rfl, hown2, hbe2⟩) | fail)
        go_roundw
        case rel =>
          refine ⟨1, by omega, rfl, ?_, hbe.trans hbe2⟩
          rw [HT'.out]
          have e1 : n + (P ++ ([] ++ pr vk)).length = n + P.length + (pr vk).length := by simp; omega
          have e2 : xs ++ Lib.byteCells (P ++ ([] ++ pr vk)) = xs ++ Lib.byteCells P ++ Lib.byteCells (pr vk) := by simp [Lib.byteCells]
          rw [e1, e2]
          exact hown2
        case measure => simp [intOf]; omega
      · have e0 : comma (decide (0 < k)) = [44] := by simp [comma]; omega
        rw [e0] at HT' hmo
        have hk1 : (0 : Int) < k := by omega
        go_wp2_with (first | (at_builtin; refine Tryz.app_new rfl _ _ rfl B u1 _ _ (by rfl) wr hown hBr [.int .u8 44] 1 rfl (by rfl) (by decide) (by simp at hmo; omega) (by simp [Value.oneCell']) ?_; intro v1 w1 hown1 hbe1; have hx1 := (hbe1.cell (p := ⟨x, 0, none⟩) hx).trans hx0) | fail)
        have hb1 := hbe.trans hbe1
        have hap := hpr B _ v1 _ w1 y (Tryz.Tr_keep (fun m hm _ => hbe1.block m hm) hbe1.size _ _ htk') (hT.below hb1 hBg) hBg hown1 (Nat.le_trans hB hb1.size) (by simp at hmo; omega)
        refine hap.mono ?_
        rintro e2 w2 ⟨v2, rfl, hown2, hbe2⟩
        go_wp2
        go_roundw
        case rel =>
          refine ⟨k + 1, by omega, by go_num, ?_, hb1.trans hbe2⟩
          rw [HT'.out]
          have e1 : n + (P ++ ([44] ++ pr vk)).length = n + P.length + 1 + (pr vk).length := by simp; omega
          have e2 : xs ++ Lib.byteCells (P ++ ([44] ++ pr vk)) = xs ++ Lib.byteCells P ++ [.int .u8 44] ++ Lib.byteCells (pr vk) := by simp [Lib.byteCells]
          rw [e1, e2]
          exact hown2
        case measure => simp [intOf]; omega
    · obtain rfl : k = l.length := by omega
      go_wp2
      go_ret
      rw [List.take_of_length_le (Nat.le_refl _)] at hown
      exact ⟨_, rfl, hown, hbe⟩
end Go.Proofs
