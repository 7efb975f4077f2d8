/-
  GLOB: the one way to write a pattern. Nothing of the program.
-/
import Derived.Test.YtjfhpgafglmhdabDoorGq
import Derived.Test.YtjfhpgafglmhdabDoorGn
namespace Go.Gl
open Go.Sg
/-- A sign that is small. -/
def Ok (r : Nat) : Prop := (∃ n, Cls (r : Int) n) ∧ small (r : Int) = r
theorem rl_right (s : ByteArray) : ∀ k p, s.size - p ≤ k → vl s p = true → ∀ r ∈ rl s p, ∃ q, wrongAt s q = false ∧ (Utf8.decode s q).1 = r := by
  intro k
  induction k with
  | zero => intro p h _ r hr; rw [rl_end s p (by omega)] at hr; simp at hr
  | succ k ih =>
    intro p h hv r hr
    by_cases hp : p < s.size
    · have hw := vl_wrong s p hp hv
      rw [rl_step s p hp] at hr
      rw [vl_step s p hp, Bool.and_eq_true] at hv
      have := wd_pos s p
      rcases List.mem_cons.1 hr with rfl | hr
      · exact ⟨p, hw, rfl⟩
      · exact ih _ (by omega) hv.2 r hr
    · rw [rl_end s p hp] at hr; simp at hr
theorem rns_ok {s : ByteArray} (hv : valid s = true) : ∀ r ∈ rns (fold s), Ok r := by
  intro r hr
  rw [rns_fold hv, List.mem_map] at hr
  obtain ⟨x, hx, rfl⟩ := hr
  obtain ⟨q, hq, rfl⟩ := rl_right s _ 0 (Nat.le_refl _) hv x hx
  have hc := small_cls (decode_cls s q hq)
  have hb := small_bd ((Utf8.decode s q).1 : Int) (by omega) (by have := Lib.rune_le s q; omega)
  have e : (((small ((Utf8.decode s q).1 : Int)).toNat : Nat) : Int) = small ((Utf8.decode s q).1 : Int) := Int.toNat_of_nonneg hb.1
  exact ⟨⟨_, by rw [e]; exact hc⟩, by rw [e]; exact (small_two _).1⟩
theorem enc_one {r : Nat} (h : ∃ n, Cls (r : Int) n) : valid (T (Lib.encodeRune (r : Int))) = true ∧ rns (T (Lib.encodeRune (r : Int))) = [r] := by
  obtain ⟨n, hc⟩ := h
  have hl := enc_len hc
  have hn : 0 < n := by unfold Cls at hc; omega
  have hsz : (T (Lib.encodeRune (r : Int))).size = n := by
    have : (T (Lib.encodeRune (r : Int))).size = (Lib.encodeRune (r : Int)).length := by simp [T, ByteArray.size]
    rw [this, hl]
  obtain ⟨hd, hw⟩ := enc_dec (T (Lib.encodeRune (r : Int))) 0 r n hc (by omega) (fun j hj => by
    rw [Nat.zero_add]
    have hj' : j < (T (Lib.encodeRune (r : Int))).size := by omega
    have e : (T (Lib.encodeRune (r : Int))).get! j = (T (Lib.encodeRune (r : Int))).data.toList.getD j 0 := (Lib.getD_get! _ _).symm
    rw [e]
    rfl)
  have hwd : wd (T (Lib.encodeRune (r : Int))) 0 = n := by unfold wd; rw [hd]
  rw [valid_eq, rns_eq, vl_step _ _ (by omega), rl_step _ _ (by omega), hw, hwd, vl_end _ _ (by omega), rl_end _ _ (by omega), hd]
  exact ⟨rfl, by simp⟩
theorem enc_text : ∀ (rs : List Nat), (∀ r ∈ rs, Ok r) → valid (T (rs.flatMap (fun r : Nat => Lib.encodeRune (r : Int)))) = true ∧ rns (T (rs.flatMap (fun r : Nat => Lib.encodeRune (r : Int)))) = rs
  | [], _ => ⟨rfl, rfl⟩
  | r :: rs, h => by
    obtain ⟨h1, h2⟩ := enc_one (h r (by simp)).1
    obtain ⟨h3, h4⟩ := enc_text rs fun x hx => h x (by simp [hx])
    rw [List.flatMap_cons, T_app, valid_app _ h1, rns_app _ h1, h2, h3, h4]
    exact ⟨rfl, rfl⟩
/-- The signs of a row of parts, as they are written. -/
def sr : List P → List Nat
  | [] => []
  | .any :: ps => 42 :: sr ps
  | .one :: ps => 63 :: sr ps
  | .fix r :: ps => (if special r then [92, r] else [r]) ++ sr ps
theorem enc42 : Lib.encodeRune ((42 : Nat) : Int) = [42] := by kernel_rfl
theorem enc63 : Lib.encodeRune ((63 : Nat) : Int) = [63] := by kernel_rfl
theorem enc92 : Lib.encodeRune ((92 : Nat) : Int) = [92] := by kernel_rfl
theorem str_sr : ∀ (ps : List P), strOf ps = (sr ps).flatMap (fun r : Nat => Lib.encodeRune (r : Int))
  | [] => rfl
  | .any :: ps => by rw [strOf, sr, List.flatMap_cons, enc42, str_sr ps]; rfl
  | .one :: ps => by rw [strOf, sr, List.flatMap_cons, enc63, str_sr ps]; rfl
  | .fix r :: ps => by
    rw [strOf, sr, List.flatMap_append, str_sr ps]
    cases special r with
    | true => simp only [if_true, List.flatMap_cons, List.flatMap_nil, enc92, List.append_nil]
    | false => simp
/-- A pattern is written in one way, but for rows of * and ?. -/
theorem raw_sr : ∀ (rs : List Nat) (e : Bool) (l : List P), raw e rs = some l → sr l = if e then 92 :: rs else rs
  | [], e, l, h => by
    cases e with
    | true => cases h
    | false => rw [← Option.some.inj h]; rfl
  | r :: rs, e, l, h => by
    have ih := raw_sr rs
    rw [raw] at h
    by_cases h1 : (e && !special r) = true
    · rw [if_pos h1] at h; cases h
    · rw [if_neg h1] at h
      by_cases h2 : (!e && r == 92) = true
      · rw [if_pos h2] at h
        have := ih true l h
        simp at h2
        rw [h2.1, h2.2, this]
        rfl
      · rw [if_neg h2] at h
        by_cases h3 : (!e && r == 42) = true
        · rw [if_pos h3] at h
          obtain ⟨l', hl', rfl⟩ := Option.map_eq_some_iff.1 h
          simp at h3
          rw [h3.1, h3.2, sr, ih false l' hl']
          rfl
        · rw [if_neg h3] at h
          by_cases h4 : (!e && r == 63) = true
          · rw [if_pos h4] at h
            obtain ⟨l', hl', rfl⟩ := Option.map_eq_some_iff.1 h
            simp at h4
            rw [h4.1, h4.2, sr, ih false l' hl']
            rfl
          · rw [if_neg h4] at h
            obtain ⟨l', hl', rfl⟩ := Option.map_eq_some_iff.1 h
            rw [sr, ih false l' hl']
            cases e with
            | true =>
              simp at h1
              rw [h1]; rfl
            | false =>
              have : special r = false := by unfold special; simp at h2 h3 h4 ⊢; omega
              rw [this]; rfl
theorem sr_raw : ∀ (ps : List P), raw false (sr ps) = some ps
  | [] => rfl
  | .any :: ps => by rw [sr, raw, sr_raw ps]; rfl
  | .one :: ps => by rw [sr, raw, sr_raw ps]; rfl
  | .fix r :: ps => by
    have ih := sr_raw ps
    rw [sr]
    cases hs : special r with
    | true =>
      show raw false (92 :: r :: sr ps) = _
      rw [raw]
      simp [raw, hs, ih]
    | false =>
      show raw false (r :: sr ps) = _
      have h3 : ¬ r = 92 ∧ ¬ r = 42 ∧ ¬ r = 63 := by unfold special at hs; simp at hs; omega
      rw [raw]
      simp [h3, ih]
/-- In the one way. -/
def Nm (ps : List P) : Prop := ∀ qs p rs, ps = qs ++ p :: rs → join qs p = qs ++ [p]
theorem Nm.norm : ∀ (l qs : List P), Nm (qs ++ l) → Gl.norm qs l = qs ++ l
  | [], qs, _ => by simp [Gl.norm]
  | p :: l, qs, h => by
    rw [Gl.norm, h qs p l rfl, Nm.norm l (qs ++ [p]) (by rw [List.append_assoc]; exact h)]
    simp
theorem snoc_cases {α : Type} {qs : List α} {p : α} {qs' : List α} {p' : α} {rs' : List α} (h : qs ++ [p] = qs' ++ p' :: rs') : (rs' = [] ∧ qs' = qs ∧ p' = p) ∨ ∃ rs, qs = qs' ++ p' :: rs := by
  rcases List.eq_nil_or_concat rs' with rfl | ⟨rs, x, rfl⟩
  · left
    have := List.append_inj' h rfl
    exact ⟨rfl, this.1.symm, by simpa using this.2.symm⟩
  · right
    have h' : qs ++ [p] = (qs' ++ p' :: rs) ++ [x] := by simpa using h
    exact ⟨rs, (List.append_inj' h' rfl).1⟩
theorem Nm.snoc {qs : List P} {p : P} (h : Nm qs) (hj : join qs p = qs ++ [p]) : Nm (qs ++ [p]) := by
  intro qs' p' rs' e
  rcases snoc_cases e with ⟨_, rfl, rfl⟩ | ⟨rs, e'⟩
  · exact hj
  · exact h qs' p' rs e'
theorem join_app_of {qs : List P} {p : P} (h : qs.getLast? ≠ some .any) : join qs p = qs ++ [p] := join_last (.inl h)
theorem Nm.joined {qs : List P} (h : Nm qs) (p : P) : Nm (Gl.join qs p) := by
  by_cases hl : qs.getLast? = some .any
  · cases p with
    | fix r =>
      have hj : Gl.join qs (.fix r) = qs ++ [.fix r] := join_last (.inr ⟨r, rfl⟩)
      rw [hj]
      exact h.snoc hj
    | any =>
      have hj : Gl.join qs .any = qs := by unfold Gl.join; rw [if_pos hl]
      rw [hj]; exact h
    | one =>
      obtain ⟨q0, rfl⟩ := List.getLast?_eq_some_iff.1 hl
      have hj : Gl.join (q0 ++ [.any]) .one = q0 ++ [.one, .any] := by unfold Gl.join; rw [if_pos hl, List.dropLast_concat]
      rw [hj]
      have h0 : q0.getLast? ≠ some .any := by
        intro hc
        have := h q0 .any [] rfl
        unfold Gl.join at this
        rw [if_pos hc] at this
        have := congrArg List.length this
        simp at this
      have hq0 : Nm q0 := fun qs' p' rs' e => h qs' p' (rs' ++ [.any]) (by rw [e]; simp)
      have h1 := hq0.snoc (p := .one) (join_app_of h0)
      have h2 := h1.snoc (p := .any) (join_app_of (by simp))
      rw [show q0 ++ [P.one, P.any] = q0 ++ [P.one] ++ [P.any] by simp]
      exact h2
  · rw [join_app_of hl]
    exact h.snoc (join_app_of hl)
theorem Nm.normed : ∀ (l qs : List P), Nm qs → Nm (Gl.norm qs l)
  | [], _, h => h
  | p :: l, _, h => Nm.normed l _ (h.joined p)
theorem Nm.nil : Nm [] := fun qs p rs e => by simp at e
theorem sr_app (a b : List P) : sr (a ++ b) = sr a ++ sr b := by
  induction a with
  | nil => rfl
  | cons p a ih => cases p <;> simp [sr, ih]
theorem strOf_app (a b : List P) : strOf (a ++ b) = strOf a ++ strOf b := by rw [str_sr, str_sr, str_sr, sr_app, List.flatMap_append]
theorem join_short (ps : List P) (p : P) : (strOf (join ps p)).length ≤ (strOf (ps ++ [p])).length := by
  unfold join
  split
  · rename_i hl
    cases p with
    | fix r => exact Nat.le_refl _
    | any => rw [strOf_app]; simp
    | one =>
      obtain ⟨q0, rfl⟩ := List.getLast?_eq_some_iff.1 hl
      simp only [List.dropLast_concat]
      rw [strOf_app, strOf_app, strOf_app]
      simp [strOf]
  · exact Nat.le_refl _
theorem norm_short : ∀ (l ps : List P), (strOf (norm ps l)).length ≤ (strOf (ps ++ l)).length
  | [], ps => by simp [norm]
  | p :: l, ps => by
    rw [norm]
    refine Nat.le_trans (norm_short l (join ps p)) ?_
    have := join_short ps p
    rw [show ps ++ p :: l = (ps ++ [p]) ++ l by simp, strOf_app, strOf_app (ps ++ [p]), List.length_append, List.length_append]
    omega
/-- What is a fixed sign of the one way is one of the pattern. -/
theorem join_mem {ps : List P} {p q : P} (h : q ∈ join ps p) : q ∈ ps ∨ q = p ∨ q = .any := by
  unfold join at h
  split at h
  · rename_i hl
    cases p with
    | fix r =>
      rcases List.mem_append.1 h with h | h
      · exact .inl h
      · exact .inr (.inl (by simpa using h))
    | any => exact .inl h
    | one =>
      rcases List.mem_append.1 h with h | h
      · exact .inl (List.dropLast_subset _ h)
      · simp at h; rcases h with h | h
        · exact .inr (.inl h)
        · exact .inr (.inr h)
  · rcases List.mem_append.1 h with h | h
    · exact .inl h
    · exact .inr (.inl (by simpa using h))
theorem norm_mem : ∀ (l ps : List P) (q : P), q ∈ norm ps l → q ∈ ps ∨ q ∈ l ∨ q = .any
  | [], ps, q, h => .inl h
  | p :: l, ps, q, h => by
    rcases norm_mem l (join ps p) q h with h | h | h
    · rcases join_mem h with h | h | h
      · exact .inl h
      · exact .inr (.inl (by simp [h]))
      · exact .inr (.inr h)
    · exact .inr (.inl (by simp [h]))
    · exact .inr (.inr h)
theorem sr_mem : ∀ (ps : List P) (r : Nat), .fix r ∈ ps → r ∈ sr ps
  | [], r, h => by simp at h
  | .any :: ps, r, h => by
    have : P.fix r ∈ ps := by simpa using h
    exact List.mem_cons_of_mem _ (sr_mem ps r this)
  | .one :: ps, r, h => by
    have : P.fix r ∈ ps := by simpa using h
    exact List.mem_cons_of_mem _ (sr_mem ps r this)
  | .fix x :: ps, r, h => by
    rw [sr]
    rcases List.mem_cons.1 h with h | h
    · have : r = x := by simpa using h
      subst this
      cases special r <;> simp
    · exact List.mem_append_right _ (sr_mem ps r h)
theorem ok42 : Ok 42 := ⟨⟨1, .inl ⟨by omega, by omega, rfl⟩⟩, by kernel_rfl⟩
theorem ok63 : Ok 63 := ⟨⟨1, .inl ⟨by omega, by omega, rfl⟩⟩, by kernel_rfl⟩
theorem ok92 : Ok 92 := ⟨⟨1, .inl ⟨by omega, by omega, rfl⟩⟩, by kernel_rfl⟩
theorem sr_ok : ∀ (ps : List P), (∀ r, .fix r ∈ ps → Ok r) → ∀ r ∈ sr ps, Ok r
  | [], _, r, h => by simp [sr] at h
  | .any :: ps, hk, r, h => by
    rcases List.mem_cons.1 h with rfl | h
    · exact ok42
    · exact sr_ok ps (fun x hx => hk x (by simp [hx])) r h
  | .one :: ps, hk, r, h => by
    rcases List.mem_cons.1 h with rfl | h
    · exact ok63
    · exact sr_ok ps (fun x hx => hk x (by simp [hx])) r h
  | .fix x :: ps, hk, r, h => by
    rw [sr] at h
    rcases List.mem_append.1 h with h | h
    · cases hs : special x with
      | true =>
        rw [hs] at h
        simp at h
        rcases h with rfl | rfl
        · exact ok92
        · exact hk r (by simp)
      | false =>
        rw [hs] at h
        simp at h
        subst h
        exact hk r (by simp)
    · exact sr_ok ps (fun y hy => hk y (by simp [hy])) r h
/-- G5. -/
theorem one_way {s : ByteArray} {ps : List P} (h : comp s = some ps) : comp (T (strOf ps)) = some ps ∧ (T (strOf ps)).size ≤ s.size := by
  rw [comp_eq] at h
  by_cases hc : s.size ≤ 100 ∧ valid s = true
  · rw [if_pos hc] at h
    obtain ⟨l, hl, rfl⟩ := Option.map_eq_some_iff.1 h
    have hsr : sr l = rns (fold s) := raw_sr _ false l hl
    have hlen : (strOf (norm [] l)).length ≤ s.size := by
      have h1 := norm_short l []
      have h2 : strOf ([] ++ l) = (fold s).data.toList := by rw [List.nil_append, str_sr, hsr, ← fold_bytes hc.2]
      rw [h2, ← Lib.size_eq, fold_size] at h1
      exact h1
    have hsz : (T (strOf (norm [] l))).size = (strOf (norm [] l)).length := by simp [T, ByteArray.size]
    have hok : ∀ r, .fix r ∈ norm [] l → Ok r := fun r hr => by
      rcases norm_mem l [] _ hr with h | h | h
      · simp at h
      · have := sr_mem l r h
        rw [hsr] at this
        exact rns_ok hc.2 r this
      · cases h
    have hso := sr_ok _ hok
    obtain ⟨hv, hr⟩ := enc_text _ hso
    rw [← str_sr] at hv hr
    refine ⟨?_, by omega⟩
    have hfr : rns (fold (T (strOf (norm [] l)))) = sr (norm [] l) := by
      rw [rns_fold hv, hr]
      have : ∀ (x : List Nat), (∀ r ∈ x, Ok r) → x.map (fun r : Nat => (small (r : Int)).toNat) = x := fun x hx => by
        induction x with
        | nil => rfl
        | cons a x ih => rw [List.map_cons, ih fun r hr => hx r (by simp [hr]), (hx a (by simp)).2]; rfl
      exact this _ hso
    rw [comp_eq, if_pos ⟨by omega, hv⟩, hfr, sr_raw]
    show some (norm [] (norm [] l)) = _
    rw [Nm.norm _ [] (Nm.normed l [] Nm.nil)]
    rfl
  · rw [if_neg hc] at h; cases h
end Go.Gl
