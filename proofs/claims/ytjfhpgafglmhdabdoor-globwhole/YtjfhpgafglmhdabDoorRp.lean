/-
  THE DOCUMENT'S GLOB: the plain functions. Nothing of the program.
-/
import Derived.Test.YtjfhpgafglmhdabDoorGq
import Derived.Test.YtjfhpgafglmhdabDoorGe
namespace Go.Gl
open Go.Sg
def signT : P → ByteArray
  | .fix r => T (Lib.encodeRune (r : Int))
  | .one => ⟨#[]⟩
  | .any => ⟨#[]⟩
def cellsR : List P → List Value
  | [] => []
  | p :: r => .int .i64 p.kind :: .string (signT p) :: cellsR r
theorem cellsR_len (ps : List P) : (cellsR ps).length = ps.length * 2 := by
  induction ps with
  | nil => rfl
  | cons p r ih => simp [cellsR, ih]; omega
theorem cellsR_app (ps qs : List P) : cellsR (ps ++ qs) = cellsR ps ++ cellsR qs := by
  induction ps with
  | nil => rfl
  | cons p r ih => simp [cellsR, ih]
theorem cellsR_kind (ps : List P) : ∀ (i : Nat) (h : i < ps.length), (cellsR ps)[2 * i]? = some (.int .i64 (ps[i]'h).kind) := by
  induction ps with
  | nil => intro i h; simp at h
  | cons p r ih =>
    intro i h
    cases i with
    | zero => rfl
    | succ i => rw [show 2 * (i + 1) = 2 * i + 1 + 1 by omega]; simp only [cellsR, List.getElem?_cons_succ, List.getElem_cons_succ]; exact ih i (by simpa using h)
theorem cellsR_sign (ps : List P) : ∀ (i : Nat) (h : i < ps.length), (cellsR ps)[2 * i + 1]? = some (.string (signT (ps[i]'h))) := by
  induction ps with
  | nil => intro i h; simp at h
  | cons p r ih =>
    intro i h
    cases i with
    | zero => rfl
    | succ i => rw [show 2 * (i + 1) + 1 = 2 * i + 1 + 1 + 1 by omega]; simp only [cellsR, List.getElem?_cons_succ, List.getElem_cons_succ]; exact ih i (by simpa using h)
theorem cellsR_one (ps : List P) : ∀ u ∈ cellsR ps, u.oneCell' = true := by
  induction ps with
  | nil => intro u h; simp [cellsR] at h
  | cons p r ih =>
    intro u h
    simp only [cellsR, List.mem_cons] at h
    rcases h with rfl | rfl | h
    · rfl
    · rfl
    · exact ih u h
/-- The sign at a place of a text that is right. -/
theorem sign_piece {s : ByteArray} (hv : valid s = true) (n : Nat) (hp : posn s n < s.size) : s.extract (posn s n) (posn s n + wd s (posn s n)) = s.extract (posn s n) (posn s (n + 1)) ∧
    fold (s.extract (posn s n) (posn s n + wd s (posn s n))) = T (Lib.encodeRune ((small ((Utf8.decode s (posn s n)).1 : Int)).toNat : Int)) := by
  have hs := posn_step s n hp
  obtain ⟨h1, h2⟩ := part_rns (t := s) hv (i := n) (m := n + 1) (by omega)
  refine ⟨by rw [hs], ?_⟩
  rw [← hs]
  have hd := rns_at s n hp
  rw [rns_fold hv, ← List.map_drop, hd, show n + 1 - n = 1 by omega] at h2
  apply ba_ext
  rw [fold_bytes h1, h2]
  simp [T]
theorem drop_fold {s : ByteArray} (hv : valid s = true) (n : Nat) (hp : posn s n < s.size) : (rns (fold s)).drop n = (small ((Utf8.decode s (posn s n)).1 : Int)).toNat :: (rns (fold s)).drop (n + 1) := by
  rw [rns_fold hv, ← List.map_drop, rns_at s n hp, List.map_cons, List.map_drop]
theorem drop_end {s : ByteArray} (hv : valid s = true) (n : Nat) (hp : ¬ posn s n < s.size) : (rns (fold s)).drop n = [] := by
  rw [rns_fold hv]
  exact List.drop_eq_nil_of_le (by rw [List.length_map]; exact rns_over s n hp)
/-- A sign of one byte below 128. -/
theorem low_piece (s : ByteArray) (p : Nat) (hp : p < s.size) (h : (Utf8.decode s p).1 < 128) : wd s p = 1 ∧ (s.get! p).toNat = (Utf8.decode s p).1 ∧ s.extract p (p + 1) = ⟨#[s.get! p]⟩ := by
  have hb : bt s p 0 < 128 := by
    rcases Nat.lt_or_ge (bt s p 0) 128 with h1 | h1
    · exact h1
    · have := high_rune s p h1; omega
  have hd := sign_low s p hb
  have e : bt s p 0 = (s.get! p).toNat := by unfold bt; rw [Nat.add_zero]
  refine ⟨by unfold wd; rw [hd], by rw [hd, ← e], ?_⟩
  have hk : p < s.data.toList.length := by rw [← Lib.size_eq]; exact hp
  have hg : s.data.toList[p]'hk = s.get! p := by rw [getb hp]; simp
  apply ba_ext
  simp only [ByteArray.data_extract, Array.toList_extract]
  show List.take (p + 1 - p) (List.drop p s.data.toList) = [s.get! p]
  rw [List.drop_eq_getElem_cons hk, hg, show p + 1 - p = 1 by omega]
  rfl
theorem rune_byte (s : ByteArray) (p : Nat) : special (Utf8.decode s p).1 = spB (s.get! p) := by
  have e : bt s p 0 = (s.get! p).toNat := by unfold bt; rw [Nat.add_zero]
  by_cases h : bt s p 0 < 128
  · rw [sign_low s p h, e]
    unfold special spB
    have q : ∀ k : UInt8, ((s.get! p).toNat == k.toNat) = (s.get! p == k) := fun k => by rw [Bool.eq_iff_iff, beq_iff_eq, beq_iff_eq, UInt8.toNat_inj]
    rw [← q 42, ← q 63, ← q 92]
    rfl
  · have h1 := high_rune s p (by omega)
    have a1 : special (Utf8.decode s p).1 = false := by unfold special; simp; omega
    have a2 : spB (s.get! p) = false := by
      cases hs : spB (s.get! p) with
      | false => rfl
      | true => have := (sp_byte hs).1; omega
    rw [a1, a2]
/-- A piece that is not one of the three. -/
theorem piece_ne (s : ByteArray) (p : Nat) (hp : p < s.size) (k : Nat) (hk : p < k) (c : UInt8) (h : s.get! p ≠ c) : ((s.extract p k).toList == [c]) = false := by
  rw [beq_eq_false_iff_ne, Lib.toList_data]
  intro e
  have hk' : p < s.data.toList.length := by rw [← Lib.size_eq]; exact hp
  have hg : s.data.toList[p]'hk' = s.get! p := by rw [getb hp]; simp
  simp only [ByteArray.data_extract, Array.toList_extract] at e
  change List.take (k - p) (List.drop p s.data.toList) = [c] at e
  rw [List.drop_eq_getElem_cons hk', hg, show k - p = (k - p - 1) + 1 by omega, List.take_succ_cons] at e
  exact h (List.cons.inj e).1
theorem raw_other {r : Nat} (h : special r = false) (rs : List Nat) : raw false (r :: rs) = (raw false rs).map (P.fix r :: ·) := by
  have h3 : ¬ r = 92 ∧ ¬ r = 42 ∧ ¬ r = 63 := by unfold special at h; simp at h; omega
  rw [raw]
  simp [h3]
theorem raw_one (rs : List Nat) : raw false (63 :: rs) = (raw false rs).map (P.one :: ·) := by rw [raw]; rfl
theorem raw_any (rs : List Nat) : raw false (42 :: rs) = (raw false rs).map (P.any :: ·) := by rw [raw]; rfl
theorem raw_back (rs : List Nat) : raw false (92 :: rs) = raw true rs := by rw [raw]; rfl
theorem raw_esc {r : Nat} (h : special r = true) (rs : List Nat) : raw true (r :: rs) = (raw false rs).map (P.fix r :: ·) := by rw [raw]; simp [h]
theorem raw_bad {r : Nat} (h : special r = false) (rs : List Nat) : raw true (r :: rs) = none := by rw [raw]; simp [h]
theorem map_snoc {R : Option (List P)} {X : Option (List P)} {l : List P} {p : P} (h : R = X.map (l ++ ·)) {Y : Option (List P)} (hx : X = Y.map (p :: ·)) : R = Y.map ((l ++ [p]) ++ ·) := by
  rw [h, hx]
  cases Y <;> simp
/-- The rows in the one way have the same front. -/
theorem front_app_not {ps : List P} (h : ps.all isFix = false) (l : List P) : front (ps ++ l) = front ps := by
  induction ps with
  | nil => simp at h
  | cons p ps ih =>
    cases p with
    | fix r =>
      have : ps.all isFix = false := by simpa [isFix] using h
      rw [List.cons_append, front, front, ih this]
    | one => rfl
    | any => rfl
theorem front_app_all {ps : List P} (h : ps.all isFix = true) (l : List P) : front (ps ++ l) = front ps ++ front l := by
  induction ps with
  | nil => rfl
  | cons p ps ih =>
    cases p with
    | fix r =>
      have : ps.all isFix = true := by simpa [isFix] using h
      rw [List.cons_append, front, front, ih this, List.append_assoc]
    | one => simp [isFix] at h
    | any => simp [isFix] at h
theorem join_front (ps : List P) (p : P) : front (join ps p) = front (ps ++ [p]) ∧ (join ps p).all isFix = (ps ++ [p]).all isFix := by
  unfold join
  split
  · rename_i hl
    obtain ⟨q0, rfl⟩ := List.getLast?_eq_some_iff.1 hl
    cases p with
    | fix r => exact ⟨rfl, rfl⟩
    | any =>
      have hna : (q0 ++ [P.any]).all isFix = false := by simp [isFix]
      exact ⟨(front_app_not hna _).symm, by simp [isFix]⟩
    | one =>
      simp only [List.dropLast_concat]
      have hna : (q0 ++ [P.any]).all isFix = false := by simp [isFix]
      refine ⟨?_, by simp [isFix]⟩
      rw [front_app_not hna]
      cases hq : q0.all isFix with
      | true => rw [front_app_all hq, front_app_all hq]; rfl
      | false => rw [front_app_not hq, front_app_not hq]
  · exact ⟨rfl, rfl⟩
theorem front_grow {a b : List P} (h : front a = front b) (h2 : a.all isFix = b.all isFix) (l : List P) : front (a ++ l) = front (b ++ l) := by
  cases ha : a.all isFix with
  | true => rw [front_app_all ha, front_app_all (by rw [← h2]; exact ha), h]
  | false => rw [front_app_not ha, front_app_not (by rw [← h2]; exact ha), h]
theorem norm_front : ∀ (l ps : List P), front (norm ps l) = front (ps ++ l) ∧ (norm ps l).all isFix = (ps ++ l).all isFix
  | [], ps => by simp [norm]
  | p :: l, ps => by
    obtain ⟨h1, h2⟩ := norm_front l (join ps p)
    obtain ⟨j1, j2⟩ := join_front ps p
    rw [norm, h1, h2, show ps ++ p :: l = (ps ++ [p]) ++ l by simp]
    refine ⟨front_grow j1 j2 l, ?_⟩
    rw [List.all_append, j2, ← List.all_append]
/-- How the document writes a row of parts. -/
def rs : Bool → List P → List UInt8
  | star, [] => if star then [42] else []
  | _, .any :: l => rs true l
  | star, .one :: l => 63 :: rs star l
  | star, .fix r :: l => (if star then [42] else []) ++ ((if special r then [92] else []) ++ Lib.encodeRune r) ++ rs false l
theorem strOf_app' (a b : List P) : strOf (a ++ b) = strOf a ++ strOf b := by
  induction a with
  | nil => rfl
  | cons p a ih => cases p <;> simp [strOf, ih]
theorem norm_rs : ∀ (l ps : List P), (ps.getLast? ≠ some .any → strOf (norm ps l) = strOf ps ++ rs false l) ∧ (∀ q, ps = q ++ [.any] → strOf (norm ps l) = strOf q ++ rs true l)
  | [], ps => ⟨fun _ => by simp [norm, rs], fun q h => by rw [norm, h, strOf_app']; rfl⟩
  | p :: l, ps => by
    constructor
    · intro hl
      obtain ⟨h1, h2⟩ := norm_rs l (ps ++ [p])
      rw [norm, join_last (.inl hl)]
      cases p with
      | any => rw [h2 ps rfl, rs]
      | one => rw [h1 (by simp), strOf_app', rs]; simp [strOf]
      | fix r => rw [h1 (by simp), strOf_app', rs]; simp [strOf]
    · rintro q rfl
      cases p with
      | any =>
        have hj : join (q ++ [P.any]) .any = q ++ [.any] := by unfold join; rw [if_pos (by simp)]
        rw [norm, hj, (norm_rs l (q ++ [P.any])).2 q rfl, rs]
      | one =>
        have hj : join (q ++ [P.any]) .one = (q ++ [.one]) ++ [.any] := by unfold join; rw [if_pos (by simp)]; simp
        rw [norm, hj, (norm_rs l ((q ++ [P.one]) ++ [P.any])).2 (q ++ [P.one]) rfl, strOf_app', rs]
        simp [strOf]
      | fix r =>
        have hj : join (q ++ [P.any]) (.fix r) = (q ++ [.any]) ++ [.fix r] := join_last (.inr ⟨r, rfl⟩)
        rw [norm, hj, (norm_rs l _).1 (by simp), strOf_app', strOf_app', rs]
        simp [strOf]
theorem str_norm (l : List P) : strOf (norm [] l) = rs false l := by
  have := (norm_rs l []).1 (by simp)
  simpa [strOf] using this
end Go.Gl
