/-
  What is written is read, and the other way round: plain.
-/
import Derived.Test.YtkfmfdnfjeofiaaDoorHk
namespace Go.Dg
def num (b : Nat) (l : List Nat) : Nat := l.foldl (fun a x => a * b + x) 0
theorem num_snoc (b : Nat) (l : List Nat) (x : Nat) : num b (l ++ [x]) = num b l * b + x := by simp [num]
theorem num_inj (b : Nat) : ∀ (n : Nat) (l l' : List Nat), l.length = n → l'.length = n → (∀ x ∈ l, x < b) → (∀ x ∈ l', x < b) → num b l = num b l' → l = l'
  | 0, l, l', h, h', _, _, _ => by rw [List.eq_nil_of_length_eq_zero h, List.eq_nil_of_length_eq_zero h']
  | n + 1, l, l', h, h', hb, hb', he => by
    rcases List.eq_nil_or_concat l with rfl | ⟨L, x, rfl⟩
    · cases h
    rcases List.eq_nil_or_concat l' with rfl | ⟨L', x', rfl⟩
    · cases h'
    simp only [List.concat_eq_append] at *
    rw [num_snoc, num_snoc] at he
    have hx := hb x (by simp)
    have hx' := hb' x' (by simp)
    have h0 : 0 < b := by omega
    have e1 : x = x' := by
      have h1 : (num b L * b + x) % b = x := by rw [Nat.mul_add_mod_self_right]; exact Nat.mod_eq_of_lt hx
      have h2 : (num b L' * b + x') % b = x' := by rw [Nat.mul_add_mod_self_right]; exact Nat.mod_eq_of_lt hx'
      rw [← h1, he, h2]
    have e2 : num b L = num b L' := by
      rw [e1] at he
      exact Nat.eq_of_mul_eq_mul_right h0 (by omega)
    have := num_inj b n L L' (by simpa using h) (by simpa using h') (fun y hy => hb y (by simp [hy])) (fun y hy => hb' y (by simp [hy])) e2
    rw [this, e1]
/-- The number of the first bits. -/
def bnum (l : List UInt8) : Nat → Nat
  | 0 => 0
  | i + 1 => 2 * bnum l i + bitL l i
theorem bnum_byte (l : List UInt8) (j : Nat) : bnum l (8 * (j + 1)) = bnum l (8 * j) * 256 + (l.getD j 0).toNat := by
  have hx := (l.getD j 0).toNat_lt
  have hb : ∀ r, r < 8 → bitL l (8 * j + r) = (l.getD j 0).toNat / 2 ^ (7 - r) % 2 := fun r hr => by
    unfold bitL
    rw [show (8 * j + r) / 8 = j by omega, show (8 * j + r) % 8 = r by omega]
  have b0 := hb 0 (by omega)
  have b1 := hb 1 (by omega)
  have b2 := hb 2 (by omega)
  have b3 := hb 3 (by omega)
  have b4 := hb 4 (by omega)
  have b5 := hb 5 (by omega)
  have b6 := hb 6 (by omega)
  have b7 := hb 7 (by omega)
  rw [show 8 * (j + 1) = 8 * j + 7 + 1 by omega]
  simp only [bnum]
  generalize (l.getD j 0).toNat = x at *
  simp only [Nat.add_zero, Nat.reduceSub, Nat.reducePow] at b0 b1 b2 b3 b4 b5 b6 b7 hx
  omega
theorem bnum_bytes (l : List UInt8) : ∀ j, j ≤ l.length → bnum l (8 * j) = num 256 ((l.take j).map UInt8.toNat)
  | 0, _ => rfl
  | j + 1, h => by
    rw [bnum_byte, bnum_bytes l j (by omega), List.take_add_one, List.getElem?_eq_getElem (show j < l.length by omega), List.map_append]
    have e : l.getD j 0 = l[j] := by rw [List.getD_eq_getElem?_getD, List.getElem?_eq_getElem (show j < l.length by omega)]; rfl
    rw [e]
    exact (num_snoc 256 _ _).symm
/-- What Encode has written: numbers below 64. -/
theorem encS_vals (l : List UInt8) : ∀ i, ∃ vs : List Nat, (encS l i).o = vs.map sign ∧ (∀ v ∈ vs, v < 64) ∧ num 64 vs * 2 ^ (encS l i).k + (encS l i).n = bnum l i
  | 0 => ⟨[], rfl, (fun v h => by cases h), rfl⟩
  | i + 1 => by
    obtain ⟨vs, h1, h2, h3⟩ := encS_vals l i
    have hk := encS_ok l i
    have hb := bitL_lt l i
    rw [show encS l (i + 1) = (encS l i).step (bitL l i) from rfl, show bnum l (i + 1) = 2 * bnum l i + bitL l i from rfl]
    generalize encS l i = s at *
    unfold En.step
    split
    · rename_i h5
      have hn := hk.n
      rw [h5] at hn h3
      refine ⟨vs ++ [2 * s.n + bitL l i], by simp [h1], fun v hv => ?_, ?_⟩
      · rcases List.mem_append.1 hv with h | h
        · exact h2 v h
        · rw [List.mem_singleton.1 h]; omega
      · show num 64 (vs ++ [2 * s.n + bitL l i]) * 2 ^ 0 + 0 = _
        rw [num_snoc]
        omega
    · refine ⟨vs, h1, h2, ?_⟩
      show num 64 vs * 2 ^ (s.k + 1) + (2 * s.n + bitL l i) = _
      rw [Nat.pow_succ, ← h3, ← Nat.mul_assoc]
      omega
/-- What Encode writes. -/
theorem enc_vals (l : List UInt8) : ∃ (vs : List Nat) (p : Nat), enc l = vs.map sign ∧ (∀ v ∈ vs, v < 64) ∧ p < 6 ∧ 6 * vs.length = 8 * l.length + p ∧ num 64 vs = num 256 (l.map UInt8.toNat) * 2 ^ p := by
  obtain ⟨vs, h1, h2, h3⟩ := encS_vals l (8 * l.length)
  have hk := encS_ok l (8 * l.length)
  rw [bnum_bytes l l.length (Nat.le_refl _), List.take_length] at h3
  unfold enc
  generalize encS l (8 * l.length) = s at *
  have hlen : vs.length = s.o.length := by rw [h1, List.length_map]
  have ho := hk.o
  by_cases h0 : s.k = 0
  · have hn := hk.n
    rw [h0] at hn h3
    refine ⟨vs, 0, by simp [h0, h1], h2, by omega, by omega, ?_⟩
    have : s.n = 0 := by simpa using hn
    rw [this] at h3
    omega
  · have hkk := hk.k
    have hm : s.n * 2 ^ (6 - s.k) < 64 := by
      have h4 : s.n * 2 ^ (6 - s.k) < 2 ^ s.k * 2 ^ (6 - s.k) := Nat.mul_lt_mul_of_pos_right hk.n (Nat.pow_pos (by decide))
      rw [← Nat.pow_add, show s.k + (6 - s.k) = 6 by omega] at h4
      exact h4
    refine ⟨vs ++ [s.n * 2 ^ (6 - s.k)], 6 - s.k, by simp [h0, h1], fun v hv => ?_, by omega, by rw [List.length_append]; simp only [List.length_cons, List.length_nil]; omega, ?_⟩
    · rcases List.mem_append.1 hv with h | h
      · exact h2 v h
      · rw [List.mem_singleton.1 h]; exact hm
    · rw [num_snoc, ← h3, Nat.add_mul, Nat.mul_assoc, ← Nat.pow_add, show s.k + (6 - s.k) = 6 by omega]
/-- There is one such row of numbers. -/
theorem enc_unique {l : List UInt8} {vs : List Nat} {p : Nat} (h2 : ∀ v ∈ vs, v < 64) (h3 : p < 6) (h4 : 6 * vs.length = 8 * l.length + p) (h5 : num 64 vs = num 256 (l.map UInt8.toNat) * 2 ^ p) : enc l = vs.map sign := by
  obtain ⟨ws, q, g1, g2, g3, g4, g5⟩ := enc_vals l
  have e1 : ws.length = vs.length := by omega
  have e2 : q = p := by omega
  rw [e2] at g5
  rw [g1, num_inj 64 vs.length ws vs e1 rfl g2 h2 (by rw [g5, h5])]
theorem num_app' (b : Nat) (l : List Nat) : ∀ (n : Nat) (r : List Nat), r.length = n → num b (l ++ r) = num b l * b ^ r.length + num b r
  | 0, r, h => by rw [List.eq_nil_of_length_eq_zero h]; simp [num]
  | n + 1, r, h => by
    rcases List.eq_nil_or_concat r with rfl | ⟨R, x, rfl⟩
    · cases h
    · simp only [List.concat_eq_append] at *
      rw [← List.append_assoc, num_snoc, num_snoc, num_app' b l n R (by simpa using h), List.length_append, List.length_singleton, Nat.pow_succ, Nat.add_mul, Nat.mul_assoc]
      omega
theorem num_app (b : Nat) (l r : List Nat) : num b (l ++ r) = num b l * b ^ r.length + num b r := num_app' b l _ r rfl
/-- The number of the first signs. -/
def vnum (t : List UInt8) : Nat → Nat
  | 0 => 0
  | i + 1 => vnum t i * 64 + (val (t.getD i 0)).toNat
theorem decS_num (t : List UInt8) : ∀ i, num 256 ((decS t i).o.map UInt8.toNat) * 2 ^ (decS t i).k + (decS t i).n = vnum t i
  | 0 => rfl
  | i + 1 => by
    have h3 := decS_num t i
    have hk := decS_ok t i
    have hv := val_lt (t.getD i 0)
    rw [show decS t (i + 1) = (decS t i).read (val (t.getD i 0)).toNat from rfl, show vnum t (i + 1) = vnum t i * 64 + (val (t.getD i 0)).toNat from rfl]
    generalize decS t i = s at *
    obtain ⟨v, hv2⟩ : ∃ v, v = (val (t.getD i 0)).toNat := ⟨_, rfl⟩
    have hv64 : v < 64 := by omega
    rw [← hv2]
    have hn := hk.n
    have e64 : s.n * 64 + v < 2 ^ (s.k + 6) := by rw [Nat.pow_add]; omega
    unfold En.read
    split
    · rename_i h8
      show num 256 ((s.o ++ [UInt8.ofNat ((s.n * 64 + v) / 2 ^ (s.k + 6 - 8))]).map UInt8.toNat) * 2 ^ (s.k + 6 - 8) + (s.n * 64 + v) % 2 ^ (s.k + 6 - 8) = _
      have hq : (s.n * 64 + v) / 2 ^ (s.k + 6 - 8) < 256 := by
        rw [Nat.div_lt_iff_lt_mul (Nat.pow_pos (by decide)), show (256 : Nat) = 2 ^ 8 from rfl, ← Nat.pow_add, show 8 + (s.k + 6 - 8) = s.k + 6 by omega]
        exact e64
      rw [List.map_append, List.map_cons, List.map_nil, num_snoc, UInt8.toNat_ofNat', Nat.mod_eq_of_lt hq, Nat.add_mul, Nat.add_assoc, Nat.div_add_mod', Nat.mul_assoc, show (256 : Nat) * 2 ^ (s.k + 6 - 8) = 2 ^ s.k * 64 by
        rw [show (256 : Nat) = 2 ^ 8 from rfl, show (64 : Nat) = 2 ^ 6 from rfl, ← Nat.pow_add, ← Nat.pow_add, show 8 + (s.k + 6 - 8) = s.k + 6 by omega], ← h3, ← Nat.mul_assoc]
      omega
    · show num 256 (s.o.map UInt8.toNat) * 2 ^ (s.k + 6) + (s.n * 64 + v) = _
      rw [Nat.pow_add, ← h3, ← Nat.mul_assoc]
      omega
theorem val_signs : ((List.range 64).all fun v => decide (val (sign v) = (v : Int))) = true := by kernel_rfl
theorem val_sign (v : Nat) (h : v < 64) : val (sign v) = (v : Int) := by
  have := List.all_eq_true.1 val_signs v (List.mem_range.2 h)
  simpa using this
theorem sign_valF (c : UInt8) : ∀ f, 0 ≤ valF f c → sign (valF f c).toNat = c
  | 0, h => by unfold valF at h; omega
  | f + 1, h => by
    unfold valF at h ⊢
    split
    · rename_i e
      rw [Int.toNat_natCast]
      exact e
    · rename_i e
      rw [if_neg e] at h
      exact sign_valF c f h
theorem sign_val (c : UInt8) (h : 0 ≤ val c) : sign (val c).toNat = c := sign_valF c 64 h
theorem vnum_take (t : List UInt8) : ∀ i, i ≤ t.length → vnum t i = num 64 ((t.take i).map fun c => (val c).toNat)
  | 0, _ => rfl
  | i + 1, h => by
    have e : t.getD i 0 = t[i] := by rw [List.getD_eq_getElem?_getD, List.getElem?_eq_getElem (show i < t.length by omega)]; rfl
    rw [show vnum t (i + 1) = vnum t i * 64 + (val (t.getD i 0)).toNat from rfl, vnum_take t i (by omega), List.take_add_one, List.getElem?_eq_getElem (show i < t.length by omega), List.map_append, e]
    exact (num_snoc 64 _ _).symm
theorem vnum_all (t : List UInt8) : vnum t t.length = num 64 (t.map fun c => (val c).toNat) := by rw [vnum_take t t.length (Nat.le_refl _), List.take_length]
theorem badF_of (l : List UInt8) : ∀ (f i : Nat), (∀ j, i ≤ j → j < i + f → 0 ≤ val (l.getD j 0)) → badF l f i = none
  | 0, _, _ => rfl
  | f + 1, i, h => by
    unfold badF
    have := h i (Nat.le_refl _) (by omega)
    rw [if_neg (by omega)]
    exact badF_of l f (i + 1) fun j h1 h2 => h j (by omega) (by omega)
theorem toNats_inj {a b : List UInt8} (h : a.map UInt8.toNat = b.map UInt8.toNat) : a = b := by
  have e : ∀ l : List UInt8, (l.map UInt8.toNat).map UInt8.ofNat = l := fun l => by
    rw [List.map_map]
    conv => rhs; rw [← List.map_id l]
    exact List.map_congr_left fun c _ => UInt8.ofNat_toNat
  rw [← e a, h, e b]
/-- What is written is read as it was. -/
theorem dec_enc (l : List UInt8) : dec (enc l) = (some l, 0) := by
  obtain ⟨vs, p, h1, h2, h3, h4, h5⟩ := enc_vals l
  rw [h1]
  have hm : (vs.map sign).length = vs.length := by simp
  have hval : ∀ v ∈ vs, val (sign v) = (v : Int) := fun v hv => val_sign v (h2 v hv)
  have hbad : badF (vs.map sign) (vs.map sign).length 0 = none := badF_of _ _ _ fun j _ hj => by
    have hj' : j < vs.length := by simpa using hj
    have e : (vs.map sign).getD j 0 = sign vs[j] := by
      rw [List.getD_eq_getElem?_getD, List.getElem?_map, List.getElem?_eq_getElem hj']
      rfl
    rw [e, hval _ (List.getElem_mem hj')]
    omega
  have hw : (vs.map sign).map (fun c => (val c).toNat) = vs := by
    rw [List.map_map]
    conv => rhs; rw [← List.map_id vs]
    refine List.map_congr_left fun v hv => ?_
    show (val (sign v)).toNat = v
    rw [hval v hv]
    rfl
  have hN := decS_num (vs.map sign) (vs.map sign).length
  have hk := decS_ok (vs.map sign) (vs.map sign).length
  rw [vnum_all, hw, h5] at hN
  unfold dec
  rw [hbad]
  generalize decS (vs.map sign) (vs.map sign).length = s at *
  have ho := hk.o
  have hkk := hk.k
  have hn := hk.n
  rw [hm] at ho ⊢
  have ek : s.k = p := by omega
  have el : s.o.length = l.length := by omega
  rw [ek] at hN hn
  have hn0 : s.n = 0 := by
    have h6 : (num 256 (s.o.map UInt8.toNat) * 2 ^ p + s.n) % 2 ^ p = s.n := by rw [Nat.mul_add_mod_self_right]; exact Nat.mod_eq_of_lt hn
    rw [hN, Nat.mul_mod_left] at h6
    exact h6.symm
  have hnum : num 256 (s.o.map UInt8.toNat) = num 256 (l.map UInt8.toNat) := Nat.eq_of_mul_eq_mul_right (Nat.pow_pos (n := p) (show 0 < 2 by decide)) (by omega)
  have hol : s.o = l := toNats_inj (num_inj 256 l.length _ _ (by rw [List.length_map, el]) (by rw [List.length_map]) (fun x hx => by
    obtain ⟨c, _, rfl⟩ := List.mem_map.1 hx
    exact c.toNat_lt) (fun x hx => by
    obtain ⟨c, _, rfl⟩ := List.mem_map.1 hx
    exact c.toNat_lt) hnum)
  show (if vs.length % 4 = 1 then _ else _) = _
  rw [if_neg (by omega), if_neg (by omega), hol]
/-- What is read is written as it was. -/
theorem enc_dec (t c : List UInt8) (j : Nat) (h : dec t = (some c, j)) : enc c = t := by
  unfold dec at h
  split at h
  · cases h
  · rename_i hbad
    split at h
    · cases h
    · rename_i h4
      split at h
      · cases h
      · rename_i hn0
        injection h with h5 h6
        injection h5 with h5
        have hN := decS_num t t.length
        have hk := decS_ok t t.length
        rw [vnum_all] at hN
        generalize decS t t.length = s at *
        have hn : s.n = 0 := by omega
        rw [hn, h5] at hN
        obtain ⟨vs, p, g1, g2, g3, g4, g5⟩ := enc_vals c
        have ho := hk.o
        have hkk := hk.k
        rw [h5] at ho
        have ek : s.k = p := by
          obtain ⟨q, hq⟩ : ∃ q, q = t.length / 4 := ⟨_, rfl⟩
          have h7 : t.length = 4 * q ∨ t.length = 4 * q + 2 ∨ t.length = 4 * q + 3 := by omega
          rcases h7 with h7 | h7 | h7 <;> rw [h7] at ho
          · have : c.length = 3 * q := by omega
            omega
          · have : c.length = 3 * q + 1 := by omega
            omega
          · have : c.length = 3 * q + 2 := by omega
            omega
        have el : vs.length = t.length := by omega
        have hpos : ∀ x ∈ t, 0 ≤ val x := fun x hx => by
          obtain ⟨q, hq, rfl⟩ := List.getElem_of_mem hx
          have := badF_none t t.length 0 hbad q (by omega) (by omega)
          rwa [List.getD_eq_getElem?_getD, List.getElem?_eq_getElem hq] at this
        have hvs : vs = t.map (fun c => (val c).toNat) := num_inj 64 t.length _ _ el (by rw [List.length_map]) g2 (fun x hx => by
          obtain ⟨y, _, rfl⟩ := List.mem_map.1 hx
          have := val_lt y
          omega) (by rw [g5, ← ek]; omega)
        rw [g1, hvs, List.map_map]
        conv => rhs; rw [← List.map_id t]
        exact List.map_congr_left fun y hy => sign_val y (hpos y hy)
end Go.Dg
