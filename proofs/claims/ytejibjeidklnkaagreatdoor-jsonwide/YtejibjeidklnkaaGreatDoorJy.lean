/-
  'appendItems' of an object; 'append' of every value; 'Print'.
-/
import Derived.Test.YtejibjeidklnkaaGreatDoorJx
namespace Go.Proofs
open Go.RowKit Go.Jv
/-- One member. -/
def Jv.prM (ks : List ByteArray) (l : List V) (k : Nat) : List UInt8 := qText (ks.getD k emp) ++ ([58] ++ pr (l.getD k .null))
/-- The first k members. -/
def Jv.prT (ks : List ByteArray) (l : List V) : Nat → List UInt8
  | 0 => []
  | k + 1 => Jv.prT ks l k ++ (comma (decide (0 < k)) ++ Jv.prM ks l k)
theorem Jv.prT_le (ks : List ByteArray) (l : List V) : ∀ (m k : Nat), (Jv.prT ks l k).length ≤ (Jv.prT ks l (k + m)).length
  | 0, k => Nat.le_refl _
  | m + 1, k => by
    have h := Jv.prT_le ks l m k
    show _ ≤ (Jv.prT ks l (k + m) ++ _).length
    rw [List.length_append]
    omega
/-- All members, from the k-th on, behind the first k. -/
theorem Jv.prO_eq (ks : List ByteArray) (l : List V) (hl : ks.length = l.length) : ∀ (m k : Nat), k + m = l.length → Jv.prT ks l k ++ prO (decide (0 < k)) (ks.drop k) (l.drop k) = Jv.prT ks l l.length
  | 0, k, h => by
    obtain rfl : k = l.length := by omega
    have e : l.drop l.length = [] := List.drop_of_length_le (Nat.le_refl _)
    rw [e]
    simp [prO]
  | m + 1, k, h => by
    have hk : k < l.length := by omega
    have hk2 : k < ks.length := by omega
    rw [← Jv.prO_eq ks l hl m (k + 1) (by omega), List.drop_eq_getElem_cons hk, List.drop_eq_getElem_cons hk2, prO, Jv.prT, Jv.prM]
    have e1 : ks.getD k emp = ks[k] := by simp [List.getD_eq_getElem?_getD, hk2]
    have e2 : l.getD k .null = l[k] := by simp [List.getD_eq_getElem?_getD, hk]
    rw [e1, e2]
    simp
theorem Jv.prO_all (ks : List ByteArray) (l : List V) (hl : ks.length = l.length) : prO false ks l = Jv.prT ks l l.length := by
  have h := Jv.prO_eq ks l hl l.length 0 (by omega)
  simpa [Jv.prT] using h
set_option maxHeartbeats 4000000 in
theorem Tryz.items_obj (ks : List ByteArray) (l : List V) (hkl : ks.length = l.length) (hall : ∀ (k : Nat) (h : k < l.length), Tryz.PrOk l[k]) (B n : Nat) (bv : Value) (xs : List Value) (w : World) (x : Nat) (kv sv : Value) (ps : List Nat) (hx : x < B) (hvb : Jv.Vb w x 5 false 0 emp kv sv) (hkw : Jv.Rw w (fun g => g < B) 9 kv (ks.map Value.string))
    (hrw : Jv.Rw w (fun g => g < B) 27 sv (Jv.ptrs ps)) (htr : Tryz.Trs w (fun g => g < B) l ps) (hT : Tryz.Tb w) (hBg : 8 ≤ B) (hrow : w.ownsRow B 5 1 bv n xs) (hB : B ≤ w.heap.size) (hlen : n + 6 * (prO false ks l).length ≤ 900000000) :
    Calls Tryz.prog 22 #[.pointer (some ⟨x, 0, none⟩), bv] w fun en w' => Tryz.Put B n xs (prO false ks l) w en w' := by
  have hpl : ps.length = l.length := Tryz.Trs_len l ps htr
  have hpp : (Jv.ptrs ps).length = l.length := by rw [Jv.ptrs_len, hpl]
  obtain ⟨ag, cg, hsv⟩ := Jv.row_form hrw.row
  rw [hpp] at hsv
  have hl64 : l.length ≤ 9223372036854775807 := by
    rcases hrw.row.2 with ⟨_, h2⟩ | ⟨g, cap, cur, _, _, _, h4, h5, _⟩
    · omega
    · unfold maxLen at h5; omega
  have hcell : ∀ (k : Nat) (h : k < l.length), ∃ g y, ag = some ⟨g, 0, none⟩ ∧ g < B ∧ Tryz.Tr w (fun m => m < B) l[k] y ∧ w.cell? ⟨g, k, none⟩ = some (.pointer (some ⟨y, 0, none⟩)) := fun k h => by
    obtain ⟨g, c, h1, h2, h3, h4⟩ := Jv.row_cells hrw (by omega)
    obtain ⟨y, h5, h6⟩ := Tryz.Trs_get l ps k h htr
    rw [hsv] at h1
    injection h1 with h1
    exact ⟨g, y, h1, h2, h6, h4 k _ (by simp [Jv.ptrs, h5])⟩
  obtain ⟨akk, ck, hkv⟩ := Jv.row_form hkw.row
  rw [List.length_map, hkl] at hkv
  have hkcell : ∀ (k : Nat) (h : k < l.length), ∃ gk, akk = some ⟨gk, 0, none⟩ ∧ gk < B ∧ w.cell? ⟨gk, k, none⟩ = some (.string (ks.getD k emp)) := fun k h => by
    obtain ⟨g, c, h1, h2, h3, h4⟩ := Jv.row_cells hkw (by rw [List.length_map]; omega)
    rw [hkv] at h1
    injection h1 with h1
    exact ⟨g, h1, h2, h4 k _ (by simp [List.getD_eq_getElem?_getD, (by omega : k < ks.length)])⟩
  have Hc4 : Hid (w.cell? ⟨x, 4, none⟩ = some kv) := hvb.c4
  have HA := Jv.prO_all ks l hkl
  rw [HA] at hlen
  have HA' : Hid (prO false ks l = Jv.prT ks l l.length) := HA
  clear HA
  have hc0 := hvb.c0
  have hc5 := hvb.c5
  rw [hsv] at hc5
  clear hvb hrw htr hpp hsv hkw
  have Hc0 : Hid (w.cell? ⟨x, 0, none⟩ = some (.int .i64 5)) := hc0
  go_enter Tryz.func22, Tryz.ntmps22
  go_wp2
  go_loopw [1, 12] (fun b i wr => ∃ k : Nat, k ≤ l.length ∧ i = .int .i64 k ∧ wr.ownsRow B 5 1 b (n + (Jv.prT ks l k).length) (xs ++ Lib.byteCells (Jv.prT ks l k)) ∧ Below B w wr) (fun _ i _ => l.length - (intOf i).toNat)
  case atStart => exact ⟨0, Nat.zero_le _, rfl, by simpa [Jv.prT, Lib.byteCells] using hrow, Below.refl _ _⟩
  case round =>
    obtain ⟨k, hk, rfl, hown, hbe⟩ := hrel
    have hBr : B ≤ wr.heap.size := Nat.le_trans hB hbe.size
    by_cases hlt : k < l.length
    · obtain ⟨g, y, rfl, hgB, htk, hck⟩ := hcell k hlt
      obtain ⟨gk, rfl, hgkB, hckk⟩ := hkcell k hlt
      have hmo := Jv.prT_le ks l (l.length - (k + 1)) (k + 1)
      rw [show k + 1 + (l.length - (k + 1)) = l.length by omega, Jv.prT, Jv.prM] at hmo
      have e2 : l.getD k .null = l[k] := by simp [List.getD_eq_getElem?_getD, hlt]
      rw [e2] at hmo
      have HT' : Hid (Jv.prT ks l (k + 1) = Jv.prT ks l k ++ (comma (decide (0 < k)) ++ (qText (ks.getD k emp) ++ ([58] ++ pr l[k])))) := by
        show Jv.prT ks l k ++ (comma (decide (0 < k)) ++ Jv.prM ks l k) = _
        rw [Jv.prM, e2]
      have hpr := hall k hlt
      have hql := Jv.qText_len (ks.getD k emp)
      have HKV : Hid (kv = .slice (some ⟨gk, 0, none⟩) l.length ck) := hkv
      clear hcell hkcell hc0 hc5 e2 hkv
      generalize Jv.prT ks l k = P at *
      generalize l[k] = vk at *
      generalize ks.getD k emp = kk at *
      simp only [List.length_append] at hmo
      have hck' := (hbe.cell (p := ⟨g, k, none⟩) hgB).trans hck
      by_cases hk0 : k = 0
      · have e0 : comma (decide (0 < k)) = [] := by rw [hk0]; rfl
        rw [e0] at HT' hmo
        simp only [List.length_nil, List.length_cons] at hmo
        have hk1 : ¬ (0 : Int) < k := by omega
        clear hk0
        have hx0 := ((hbe).cell (p := ⟨x, 0, none⟩) hx).trans Hc0.out; have hx4 := ((hbe).cell (p := ⟨x, 4, none⟩) hx).trans Hc4.out; rw [HKV.out] at hx4; have hkc := ((hbe).cell (p := ⟨gk, k, none⟩) hgkB).trans hckk
        have hown0 : wr.ownsRow B 5 1 u1 (n + P.length + 0) (xs ++ Lib.byteCells P ++ Lib.byteCells []) := by simpa [Lib.byteCells] using hown
        have hq := Tryz.quote_any B _ u1 _ wr hown0 hBr kk (by omega)
        go_wp2_with (first | (go_at_call 21; refine hq.mono ?_; clear hq; rintro e5 w5 ⟨v5, rfl, hown5, hbe5⟩) | (at_builtin; refine Tryz.app_new rfl _ _ rfl B v5 _ _ (by rfl) w5 hown5 (Nat.le_trans hB (hbe.trans hbe5).size) [.int .u8 58] 1 rfl (by rfl) (by decide) (by omega) (by simp [Value.oneCell']) ?_; intro v6 w6 hown6 hbe6) | fail)
        have hb6 := (hbe.trans hbe5).trans hbe6
        have hap := hpr B _ v6 _ w6 y (Tryz.Tr_keep (fun m hm _ => hb6.block m hm) hb6.size _ _ htk) (hT.below hb6 hBg) hBg hown6 (Nat.le_trans hB hb6.size) (by omega)
        refine hap.mono ?_
        rintro e7 w7 ⟨v7, rfl, hown7, hbe7⟩
        go_wp2
        go_roundw
        case rel =>
          refine ⟨k + 1, by omega, by go_num, ?_, hb6.trans hbe7⟩
          rw [HT'.out]
          have e1 : n + (P ++ ([] ++ (qText kk ++ ([58] ++ pr vk)))).length = n + P.length + 0 + (qText kk).length + 1 + (pr vk).length := by simp; omega
          have e2 : xs ++ Lib.byteCells (P ++ ([] ++ (qText kk ++ ([58] ++ pr vk)))) = xs ++ Lib.byteCells P ++ Lib.byteCells [] ++ Lib.byteCells (qText kk) ++ [.int .u8 58] ++ Lib.byteCells (pr vk) := by simp [Lib.byteCells]
          rw [e1, e2]
          exact hown7
        case measure => simp [intOf]; omega
      · have e0 : comma (decide (0 < k)) = [44] := by simp [comma]; omega
        rw [e0] at HT' hmo
        simp only [List.length_nil, List.length_cons] at hmo
        have hk1 : (0 : Int) < k := by omega
        go_wp2_with (first | (at_builtin; refine Tryz.app_new rfl _ _ rfl B u1 _ _ (by rfl) wr hown hBr [.int .u8 44] 1 rfl (by rfl) (by decide) (by omega) (by simp [Value.oneCell']) ?_; clear hown; intro v1 w1 hown1 hbe1; have hb1 := hbe.trans hbe1; have hx0 := ((hb1).cell (p := ⟨x, 0, none⟩) hx).trans Hc0.out; have hx4 := ((hb1).cell (p := ⟨x, 4, none⟩) hx).trans Hc4.out; rw [HKV.out] at hx4; have hkc := ((hb1).cell (p := ⟨gk, k, none⟩) hgkB).trans hckk; have hq := Tryz.quote_any B _ v1 _ w1 hown1 (Nat.le_trans hB hb1.size) kk (by omega)) | (go_at_call 21; refine hq.mono ?_; clear hq; rintro e5 w5 ⟨v5, rfl, hown5, hbe5⟩) | (at_builtin; refine Tryz.app_new rfl _ _ rfl B v5 _ _ (by rfl) w5 hown5 (Nat.le_trans hB (hb1.trans hbe5).size) [.int .u8 58] 1 rfl (by rfl) (by decide) (by omega) (by simp [Value.oneCell']) ?_; intro v6 w6 hown6 hbe6) | fail)
        have hb6 := (hb1.trans hbe5).trans hbe6
        have hap := hpr B _ v6 _ w6 y (Tryz.Tr_keep (fun m hm _ => hb6.block m hm) hb6.size _ _ htk) (hT.below hb6 hBg) hBg hown6 (Nat.le_trans hB hb6.size) (by omega)
        refine hap.mono ?_
        rintro e7 w7 ⟨v7, rfl, hown7, hbe7⟩
        go_wp2
        go_roundw
        case rel =>
          refine ⟨k + 1, by omega, by go_num, ?_, hb6.trans hbe7⟩
          rw [HT'.out]
          have e1 : n + (P ++ ([44] ++ (qText kk ++ ([58] ++ pr vk)))).length = n + P.length + 1 + (qText kk).length + 1 + (pr vk).length := by simp; omega
          have e2 : xs ++ Lib.byteCells (P ++ ([44] ++ (qText kk ++ ([58] ++ pr vk)))) = xs ++ Lib.byteCells P ++ [.int .u8 44] ++ Lib.byteCells (qText kk) ++ [.int .u8 58] ++ Lib.byteCells (pr vk) := by simp [Lib.byteCells]
          rw [e1, e2]
          exact hown7
        case measure => simp [intOf]; omega
    · obtain rfl : k = l.length := by omega
      go_wp2
      go_ret
      rw [HA'.out]
      exact ⟨_, rfl, hown, hbe⟩
set_option maxHeartbeats 2000000 in
theorem Tryz.pr_list (l : List V) (hall : ∀ (k : Nat) (h : k < l.length), Tryz.PrOk l[k]) : Tryz.PrOk (.list l) := by
  intro B n bv xs w x hTr hT hBg hrow hB hlen
  obtain ⟨hx, sv, ps, hvb, hrw, htr⟩ := hTr
  have hk := Tryz.kind_any hvb
  have hpl : (pr (.list l)).length = (prL false l).length + 2 := by rw [pr]; simp
  have HP : Hid (pr (.list l) = [91] ++ (prL false l ++ [93])) := by show pr (.list l) = _; rw [pr]; rfl
  rw [hpl] at hlen
  have hit : ∀ w1 b1, Below B w w1 → w1.ownsRow B 5 1 b1 (n + 1) (xs ++ [.int .u8 91]) → Calls Tryz.prog 22 #[.pointer (some ⟨x, 0, none⟩), b1] w1 fun en w' => Tryz.Put B (n + 1) (xs ++ [.int .u8 91]) (prL false l) w1 en w' := fun w1 b1 hb1 h1 =>
    Tryz.items_list l hall B (n + 1) b1 _ w1 x sv ps hx (hvb.keep (hb1.block x hx) hb1.size) (hrw.keep fun g hg _ => hb1.block g hg) (Tryz.Trs_keep (fun g hg _ => hb1.block g hg) hb1.size l ps htr) (hT.below hb1 hBg) hBg h1 (Nat.le_trans hB hb1.size) (by omega)
  clear hvb hrw htr hpl
  go_enter Tryz.func15, Tryz.ntmps15
  go_wp2_with (first | (go_at_call 18; refine hk.mono ?_; clear hk; rintro e1 w1 ⟨rfl, rfl⟩) | (at_builtin; refine Tryz.app_new rfl _ _ rfl B bv n xs (by rfl) _ hrow hB [.int .u8 91] 1 rfl (by rfl) (by decide) (by omega) (by simp [Value.oneCell']) ?_; clear hrow; intro v1 w1 hown1 hbe1) | (go_at_call 22; refine (hit _ _ hbe1 hown1).mono ?_; rintro e2 w2 ⟨v2, rfl, hown2, hbe2⟩) | (at_builtin; refine Tryz.app_new rfl _ _ rfl B v2 _ _ (by rfl) w2 hown2 (Nat.le_trans hB (hbe1.trans hbe2).size) [.int .u8 93] 1 rfl (by rfl) (by decide) (by omega) (by simp [Value.oneCell']) ?_; intro v3 w3 hown3 hbe3) | fail)
  go_ret
  refine ⟨v3, rfl, ?_, (hbe1.trans hbe2).trans hbe3⟩
  rw [HP.out]
  have e1 : n + ([91] ++ (prL false l ++ [93])).length = n + 1 + (prL false l).length + 1 := by simp; omega
  have e2 : xs ++ Lib.byteCells ([91] ++ (prL false l ++ [93])) = xs ++ [.int .u8 91] ++ Lib.byteCells (prL false l) ++ [.int .u8 93] := by simp [Lib.byteCells]
  rw [e1, e2]
  exact hown3
set_option maxHeartbeats 2000000 in
theorem Tryz.pr_obj (ks : List ByteArray) (l : List V) (hall : ∀ (k : Nat) (h : k < l.length), Tryz.PrOk l[k]) : Tryz.PrOk (.obj ks l) := by
  intro B n bv xs w x hTr hT hBg hrow hB hlen
  obtain ⟨hx, kv, sv, ps, hvb, hkw, hrw, htr, hkl⟩ := hTr
  have hkl2 : ks.length = l.length := hkl.trans (Tryz.Trs_len l ps htr)
  have hk := Tryz.kind_any hvb
  have hpl : (pr (.obj ks l)).length = (prO false ks l).length + 2 := by rw [pr]; simp
  have HP : Hid (pr (.obj ks l) = [123] ++ (prO false ks l ++ [125])) := by show pr (.obj ks l) = _; rw [pr]; rfl
  rw [hpl] at hlen
  have hit : ∀ w1 b1, Below B w w1 → w1.ownsRow B 5 1 b1 (n + 1) (xs ++ [.int .u8 123]) → Calls Tryz.prog 22 #[.pointer (some ⟨x, 0, none⟩), b1] w1 fun en w' => Tryz.Put B (n + 1) (xs ++ [.int .u8 123]) (prO false ks l) w1 en w' := fun w1 b1 hb1 h1 =>
    Tryz.items_obj ks l hkl2 hall B (n + 1) b1 _ w1 x kv sv ps hx (hvb.keep (hb1.block x hx) hb1.size) (hkw.keep fun g hg _ => hb1.block g hg) (hrw.keep fun g hg _ => hb1.block g hg) (Tryz.Trs_keep (fun g hg _ => hb1.block g hg) hb1.size l ps htr) (hT.below hb1 hBg) hBg h1 (Nat.le_trans hB hb1.size) (by omega)
  clear hvb hrw htr hpl hkw hkl
  go_enter Tryz.func15, Tryz.ntmps15
  go_wp2_with (first | (go_at_call 18; refine hk.mono ?_; clear hk; rintro e1 w1 ⟨rfl, rfl⟩) | (at_builtin; refine Tryz.app_new rfl _ _ rfl B bv n xs (by rfl) _ hrow hB [.int .u8 123] 1 rfl (by rfl) (by decide) (by omega) (by simp [Value.oneCell']) ?_; clear hrow; intro v1 w1 hown1 hbe1) | (go_at_call 22; refine (hit _ _ hbe1 hown1).mono ?_; rintro e2 w2 ⟨v2, rfl, hown2, hbe2⟩) | (at_builtin; refine Tryz.app_new rfl _ _ rfl B v2 _ _ (by rfl) w2 hown2 (Nat.le_trans hB (hbe1.trans hbe2).size) [.int .u8 125] 1 rfl (by rfl) (by decide) (by omega) (by simp [Value.oneCell']) ?_; intro v3 w3 hown3 hbe3) | fail)
  go_ret
  refine ⟨v3, rfl, ?_, (hbe1.trans hbe2).trans hbe3⟩
  rw [HP.out]
  have e1 : n + ([123] ++ (prO false ks l ++ [125])).length = n + 1 + (prO false ks l).length + 1 := by simp; omega
  have e2 : xs ++ Lib.byteCells ([123] ++ (prO false ks l ++ [125])) = xs ++ [.int .u8 123] ++ Lib.byteCells (prO false ks l) ++ [.int .u8 125] := by simp [Lib.byteCells]
  rw [e1, e2]
  exact hown3
mutual
/-- 'append' of every value. -/
theorem Tryz.pr_any : ∀ v : V, Tryz.PrOk v
  | .null => Tryz.pr_scalar .null (fun _ h => by cases h) (fun _ _ h => by cases h)
  | .bool b => Tryz.pr_scalar (.bool b) (fun _ h => by cases h) (fun _ _ h => by cases h)
  | .int n => Tryz.pr_scalar (.int n) (fun _ h => by cases h) (fun _ _ h => by cases h)
  | .text s => Tryz.pr_scalar (.text s) (fun _ h => by cases h) (fun _ _ h => by cases h)
  | .list l => Tryz.pr_list l (Tryz.pr_all l)
  | .obj ks l => Tryz.pr_obj ks l (Tryz.pr_all l)
theorem Tryz.pr_all : ∀ (l : List V) (k : Nat) (h : k < l.length), Tryz.PrOk l[k]
  | v :: _, 0, _ => Tryz.pr_any v
  | _ :: l, k + 1, h => Tryz.pr_all l k (by simpa using h)
end
set_option maxHeartbeats 1000000 in
/-- 'Print'. -/
theorem Tryz.print_any (v : V) (w : World) (x : Nat) (hTr : Tryz.Tr w (fun g => g < w.heap.size) v x) (hT : Tryz.Tb w) (hlen : (pr v).length ≤ 100000000) :
    Calls Tryz.prog 9 #[.pointer (some ⟨x, 0, none⟩)] w fun en w' => en = .returned (.string ⟨(pr v).toArray⟩) ∧ Below w.heap.size w w' := by
  have hap := Tryz.pr_any v w.heap.size 0 (.slice none 0 0) [] w x hTr hT hT.size ⟨rfl, .inl ⟨rfl, rfl⟩⟩ (Nat.le_refl _) (by omega)
  have hcv : ∀ (W : World) (b : Value), W.ownsRow w.heap.size 5 1 b (0 + (pr v).length) ([] ++ Lib.byteCells (pr v)) → (convert 32 9 b).run Tryz.prog W = .ok (.string ⟨(pr v).toArray⟩) W := fun W b h => Tryz.gathered (B := w.heap.size) (by simpa using h)
  go_enter Tryz.func9, Tryz.ntmps9
  go_wp2_with (first | (go_at_call 15; refine hap.mono ?_; rintro e1 w1 ⟨v1, rfl, hown1, hbe1⟩; have hcv1 := hcv w1 v1 hown1) | fail)
  go_ret
  exact ⟨rfl, hbe1⟩
end Go.Proofs
