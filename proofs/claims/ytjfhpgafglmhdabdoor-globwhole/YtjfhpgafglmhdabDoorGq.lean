/-
  GLOB: a text, quoted. Nothing of the program.
-/
import Derived.Test.YtjfhpgafglmhdabDoorGn
import Derived.Test.YtjfhpgafglmhdabDoorGs
namespace Go.Gl
open Go.Sg
def spB (b : UInt8) : Bool := b == 42 || b == 63 || b == 92
def qt : List UInt8 → List UInt8
  | [] => []
  | b :: r => (if spB b then [92, b] else [b]) ++ qt r
theorem qt_app (a b : List UInt8) : qt (a ++ b) = qt a ++ qt b := by
  induction a with
  | nil => rfl
  | cons c a ih => simp [qt, ih]
def T (l : List UInt8) : ByteArray := ⟨l.toArray⟩
theorem T_app (a b : List UInt8) : T (a ++ b) = T a ++ T b := by
  apply ba_ext
  rw [app_list]
  rfl
theorem T_self (s : ByteArray) : T s.data.toList = s := rfl
def qr : List Nat → List Nat
  | [] => []
  | r :: rs => (if special r then [92, r] else [r]) ++ qr rs
theorem qr_app (a b : List Nat) : qr (a ++ b) = qr a ++ qr b := by
  induction a with
  | nil => rfl
  | cons c a ih => simp [qr, ih]
theorem qt_none : ∀ (a : List UInt8), (∀ b ∈ a, spB b = false) → qt a = a
  | [], _ => rfl
  | b :: r, h => by
    rw [qt, h b (by simp), qt_none r fun c hc => h c (by simp [hc])]
    rfl
theorem qr_none : ∀ (a : List Nat), (∀ b ∈ a, special b = false) → qr a = a
  | [], _ => rfl
  | b :: r, h => by
    rw [qr, h b (by simp), qr_none r fun c hc => h c (by simp [hc])]
    rfl
/-- A text without such bytes, or the first of them. -/
theorem sp_split : ∀ (l : List UInt8), (∀ b ∈ l, spB b = false) ∨ ∃ a b r, l = a ++ b :: r ∧ spB b = true ∧ ∀ c ∈ a, spB c = false
  | [] => .inl fun b h => by simp at h
  | b :: r => by
    cases hb : spB b with
    | true => exact .inr ⟨[], b, r, rfl, hb, fun c hc => by simp at hc⟩
    | false =>
      rcases sp_split r with h | ⟨a, c, q, rfl, h1, h2⟩
      · left
        intro c hc
        rcases List.mem_cons.1 hc with rfl | hc
        · exact hb
        · exact h c hc
      · right
        refine ⟨b :: a, c, q, rfl, h1, fun d hd => ?_⟩
        rcases List.mem_cons.1 hd with rfl | hd
        · exact hb
        · exact h2 d hd
theorem high_rune (s : ByteArray) (p : Nat) (h : 128 ≤ bt s p 0) : 128 ≤ (Utf8.decode s p).1 := by
  rw [decode_bt]
  have := bt_lt s p 0
  generalize bt s p 0 = b0 at *
  unfold Lib.decodeN
  repeat' split
  all_goals first | omega | (simp only []; omega) | skip
theorem rl_mem (s : ByteArray) : ∀ k p, s.size - p ≤ k → ∀ r ∈ rl s p, ∃ q, q < s.size ∧ (Utf8.decode s q).1 = r := by
  intro k
  induction k with
  | zero => intro p h r hr; rw [rl_end s p (by omega)] at hr; simp at hr
  | succ k ih =>
    intro p h r hr
    by_cases hp : p < s.size
    · rw [rl_step s p hp] at hr
      have := wd_pos s p
      rcases List.mem_cons.1 hr with rfl | hr
      · exact ⟨p, hp, rfl⟩
      · exact ih _ (by omega) r hr
    · rw [rl_end s p hp] at hr; simp at hr
theorem get_mem {t : ByteArray} {j : Nat} (h : j < t.size) : t.get! j ∈ t.data.toList := by
  have : t.get! j = t.data[j]'h := by simp [ByteArray.get!, getElem!_pos, h]
  rw [this]
  exact Array.getElem_mem_toList h
theorem rns_plain (a : List UInt8) (h : ∀ b ∈ a, spB b = false) : ∀ r ∈ rns (T a), special r = false := by
  intro r hr
  obtain ⟨q, hq, hd⟩ := rl_mem (T a) _ 0 (Nat.le_refl _) r hr
  cases hs : special r with
  | false => rfl
  | true =>
    have hr3 : r = 42 ∨ r = 63 ∨ r = 92 := by
      unfold special at hs
      simp at hs
      omega
    have hb : bt (T a) q 0 = r := by
      by_cases h1 : bt (T a) q 0 < 128
      · rw [sign_low _ _ h1] at hd; exact hd
      · have := high_rune (T a) q (by omega)
        omega
    have hmem : (T a).get! q ∈ a := get_mem hq
    have hsp := h _ hmem
    have hbt : ((T a).get! q).toNat = r := by have := hb; unfold bt at this; simpa using this
    have : spB ((T a).get! q) = true := by
      unfold spB
      rcases hr3 with e | e | e
      · rw [show (T a).get! q = 42 from UInt8.toNat_inj.1 (by rw [hbt, e]; rfl)]; rfl
      · rw [show (T a).get! q = 63 from UInt8.toNat_inj.1 (by rw [hbt, e]; rfl)]; rfl
      · rw [show (T a).get! q = 92 from UInt8.toNat_inj.1 (by rw [hbt, e]; rfl)]; rfl
    rw [this] at hsp
    cases hsp
theorem sp_byte {b : UInt8} (h : spB b = true) : b.toNat < 128 ∧ special b.toNat = true := by
  unfold spB at h
  simp at h
  rcases h with (h | h) | h <;> subst h <;> exact ⟨by decide, by decide⟩
theorem low_first (b : UInt8) (hb : b.toNat < 128) (r : List UInt8) : ¬ Cont (bt (T (b :: r)) 0 0) := by
  have : bt (T (b :: r)) 0 0 = b.toNat := rfl
  rw [this]
  unfold Cont
  omega
theorem T_cons (b : UInt8) (r : List UInt8) : T (b :: r) = ⟨#[b]⟩ ++ T r := T_app [b] r
theorem qt_both : ∀ (k : Nat) (l : List UInt8), l.length ≤ k → rns (T (qt l)) = qr (rns (T l)) ∧ valid (T (qt l)) = valid (T l) := by
  intro k
  induction k with
  | zero =>
    intro l h
    obtain rfl : l = [] := List.length_eq_zero_iff.1 (by omega)
    exact ⟨rfl, rfl⟩
  | succ k ih =>
    intro l h
    rcases sp_split l with hn | ⟨a, b, r, rfl, hb, ha⟩
    · rw [qt_none l hn, qr_none _ (rns_plain l hn)]
      exact ⟨rfl, rfl⟩
    · obtain ⟨hlow, hsp⟩ := sp_byte hb
      have hlen : r.length ≤ k := by simp at h; omega
      obtain ⟨h1, h2⟩ := ih r hlen
      have hq : qt (a ++ b :: r) = a ++ 92 :: b :: qt r := by rw [qt_app, qt_none a ha, qt, hb]; rfl
      obtain ⟨u1, u2⟩ := both_app (T a) (T (b :: r)) (.inr (.inr (low_first b hlow r)))
      obtain ⟨v1, v2⟩ := both_app (T a) (T (92 :: b :: qt r)) (.inr (.inr (low_first 92 (by decide) _)))
      obtain ⟨c1, c2⟩ := cons_low b hlow (T r)
      obtain ⟨d1, d2⟩ := cons_low b hlow (T (qt r))
      obtain ⟨e1, e2⟩ := cons_low 92 (by decide) (T (b :: qt r))
      rw [hq, T_app, T_app, u1, u2, v1, v2]
      rw [T_cons 92, e1, e2, T_cons b, T_cons b, c1, c2, d1, d2, h1, h2, qr_app, qr_none _ (rns_plain a ha), qr, hsp]
      exact ⟨rfl, rfl⟩
theorem rows_far : ∀ j, j < 19 → 65 ≤ rowF j ∧ (rowL j ≤ 90 ∨ 192 ≤ rowF j) ∧ 97 ≤ rowF j + rowP j := by decide +kernel
theorem small_special (r : Nat) : special (small (r : Int)).toNat = special r := by
  rcases small_cases (r : Int) with e | ⟨j, hj, h1, h2, _, e⟩
  · rw [e]; rfl
  · obtain ⟨f1, f2, f3⟩ := rows_far j hj
    have a1 : special r = false := by unfold special; simp; omega
    have a2 : special (small (r : Int)).toNat = false := by rw [e]; unfold special; simp; omega
    rw [a1, a2]
theorem qr_small (rs : List Nat) : (qr rs).map (fun r : Nat => (small (r : Int)).toNat) = qr (rs.map (fun r : Nat => (small (r : Int)).toNat)) := by
  induction rs with
  | nil => rfl
  | cons r rs ih =>
    rw [qr, List.map_append, ih, List.map_cons, qr, small_special]
    have h92 : (small ((92 : Nat) : Int)).toNat = 92 := by kernel_rfl
    cases special r with
    | true => simp only [if_true, List.map_cons, List.map_nil, h92]
    | false => rfl
theorem raw_qr : ∀ (rs : List Nat), raw false (qr rs) = some (rs.map P.fix)
  | [] => rfl
  | r :: rs => by
    have ih := raw_qr rs
    rw [qr]
    cases hs : special r with
    | true =>
      show raw false (92 :: r :: qr rs) = _
      rw [raw]
      simp [raw, hs, ih]
    | false =>
      show raw false (r :: qr rs) = _
      have h3 : ¬ r = 92 ∧ ¬ r = 42 ∧ ¬ r = 63 := by unfold special at hs; simp at hs; omega
      rw [raw]
      simp [h3, ih]
theorem norm_fix : ∀ (rs : List Nat) (ps : List P), norm ps (rs.map P.fix) = ps ++ rs.map P.fix
  | [], ps => by simp [norm]
  | r :: rs, ps => by
    rw [List.map_cons, norm, join_last (.inr ⟨r, rfl⟩), norm_fix rs]
    simp
/-- The pattern of a quoted text. -/
theorem comp_qt (t : ByteArray) : comp (T (qt t.data.toList)) = if (T (qt t.data.toList)).size ≤ 100 ∧ valid t = true then some ((rns (fold t)).map P.fix) else none := by
  obtain ⟨h1, h2⟩ := qt_both _ t.data.toList (Nat.le_refl _)
  rw [T_self] at h1 h2
  rw [comp_eq, h2]
  by_cases hc : (T (qt t.data.toList)).size ≤ 100 ∧ valid t = true
  · rw [if_pos hc, if_pos hc, rns_fold (by rw [h2]; exact hc.2), h1, qr_small, ← rns_fold hc.2, raw_qr]
    show some (norm [] _) = _
    rw [norm_fix]
    rfl
  · rw [if_neg hc, if_neg hc]
theorem Mp_fix : ∀ (rs s : List Nat), Mp (rs.map P.fix) s ↔ s = rs
  | [], s => Iff.rfl
  | r :: rs, s => by
    constructor
    · rintro ⟨a, b, rfl, ha, hb⟩
      have ha' : a = [r] := ha
      rw [ha', (Mp_fix rs b).1 hb]
      rfl
    · rintro rfl
      exact ⟨[r], rs, rfl, rfl, (Mp_fix rs rs).2 rfl⟩
theorem front_fix (rs : List Nat) : front (rs.map P.fix) = rs.flatMap (fun r : Nat => Lib.encodeRune (r : Int)) := by
  induction rs with
  | nil => rfl
  | cons r rs ih => rw [List.map_cons, front, ih]; rfl
theorem all_fix (rs : List Nat) : (rs.map P.fix).all isFix = true := by
  induction rs with
  | nil => rfl
  | cons r rs ih => rw [List.map_cons, List.all_cons, ih]; rfl
theorem fold_inj {s t : ByteArray} (hs : valid s = true) (ht : valid t = true) (h : rns (fold s) = rns (fold t)) : fold s = fold t := by
  apply ba_ext
  rw [fold_bytes hs, fold_bytes ht, h]
end Go.Gl
