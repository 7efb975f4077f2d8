/-
  GLOB: within a text: parts between edges. Nothing of the program.
-/
import Derived.Test.YtjfhpgafglmhdabDoorGn
import Derived.Test.YtjfhpgafglmhdabDoorGi
namespace Go.Gl
open Go.Sg
theorem rl_posn (s : ByteArray) : ∀ n, rl s (posn s n) = (rns s).drop n := by
  intro n
  induction n with
  | zero => rfl
  | succ n ih =>
    by_cases h : posn s n < s.size
    · rw [posn_step s n h]
      rw [rl_step s _ h] at ih
      have := congrArg List.tail ih
      rw [List.tail_drop] at this
      exact this
    · rw [posn_stay s n h, ih]
      rw [rl_end s _ h] at ih
      have hl : (rns s).length ≤ n := by
        have := congrArg List.length ih
        simp at this
        omega
      rw [List.drop_eq_nil_of_le hl, List.drop_eq_nil_of_le (by omega)]
theorem rns_at (s : ByteArray) (n : Nat) (h : posn s n < s.size) : (rns s).drop n = (Utf8.decode s (posn s n)).1 :: (rns s).drop (n + 1) := by
  rw [← rl_posn s n, rl_step s _ h, ← rl_posn s (n + 1), posn_step s n h]
theorem rns_over (s : ByteArray) (n : Nat) (h : ¬ posn s n < s.size) : (rns s).length ≤ n := by
  have h1 := rl_posn s n
  rw [rl_end s _ h] at h1
  have := congrArg List.length h1
  simp at this
  omega
/-- One sign more. -/
theorem cut_snoc {R : List Nat} {i n : Nat} {c : Nat} {r : List Nat} (hin : i ≤ n) (h : R.drop n = c :: r) : (R.drop i).take (n + 1 - i) = (R.drop i).take (n - i) ++ [c] := by
  have hn : n < R.length := by
    rcases Nat.lt_or_ge n R.length with h1 | h1
    · exact h1
    · rw [List.drop_eq_nil_of_le h1] at h; cases h
  have hc : R[n]'hn = c := by
    rw [List.drop_eq_getElem_cons hn] at h
    exact (List.cons.inj h).1
  rw [show n + 1 - i = (n - i) + 1 by omega, List.take_add_one, List.getElem?_drop, show i + (n - i) = n by omega, List.getElem?_eq_getElem hn, hc]
  rfl
/-- What 'Within' finds. -/
def Found (ps : List P) (t : ByteArray) (n N : Nat) : Prop := ∃ i m, i ≤ m ∧ n ≤ m ∧ m ≤ N ∧ edgeN t (posn t i) = true ∧ edgeN t (posn t m) = true ∧ Mp ps (((rns (fold t)).drop i).take (m - i))
def Begun (t : ByteArray) (n : Nat) (s : List Nat) : Prop := ∃ i, i < n ∧ edgeN t (posn t i) = true ∧ s = ((rns (fold t)).drop i).take (n - i)
theorem wi_found (ps : List P) (t : ByteArray) (N : Nat) (hN : posn t N = t.size) (hlt : ∀ m, m < N → posn t m < t.size) : ∀ k n fuel f, N - n ≤ k → n ≤ N → t.size ≤ posn t n + fuel → Good ps f (Begun t n) →
    (wiFrom ps t (fold t) fuel (posn t n) f = true ↔ Found ps t n N) := by
  intro k
  induction k with
  | zero =>
    intro n fuel f hk hn hfu hG
    obtain rfl : n = N := by omega
    rw [wiFrom_end ps t (fold t) fuel _ f (by rw [fold_size, hN]; omega), hG.begin ps.length (Nat.le_refl _), List.take_length]
    constructor
    · rintro ⟨s, hs | hs, hm⟩
      · obtain ⟨i, h1, h2, rfl⟩ := hs
        exact ⟨i, n, by omega, Nat.le_refl _, Nat.le_refl _, h2, by rw [hN]; exact edge_end t, hm⟩
      · subst hs
        exact ⟨n, n, Nat.le_refl _, Nat.le_refl _, Nat.le_refl _, by rw [hN]; exact edge_end t, by rw [hN]; exact edge_end t, by rw [Nat.sub_self, List.take_zero]; exact hm⟩
    · rintro ⟨i, m, h1, h2, h3, h4, h5, h6⟩
      obtain rfl : m = n := by omega
      by_cases hi : i < m
      · exact ⟨_, .inl ⟨i, hi, h4, rfl⟩, h6⟩
      · obtain rfl : i = m := by omega
        rw [Nat.sub_self, List.take_zero] at h6
        exact ⟨[], .inr rfl, h6⟩
  | succ k ih =>
    intro n fuel f hk hn hfu hG
    by_cases hnN : n = N
    · subst hnN
      exact ih n fuel f (by omega) hn hfu hG
    · have hp := hlt n (by omega)
      have hp' : posn t n < (fold t).size := by rw [fold_size]; exact hp
      have hpf : posn (fold t) n = posn t n := posn_fold t n
      obtain ⟨fu, rfl⟩ : ∃ fu, fuel = fu + 1 := ⟨fuel - 1, by omega⟩
      have hw := wd_pos t (posn t n)
      have hs := posn_step t n hp
      have hwf : (Utf8.decode (fold t) (posn t n)).2 = wd t (posn t n) := wd_fold t n hp
      have hdr := rns_at (fold t) n (by rw [hpf]; exact hp')
      rw [hpf] at hdr
      rw [wiFrom_step ps t (fold t) fu _ f hp', hwf, ← hs]
      have hgo : ∀ g, Good ps g (Begun t (n + 1)) → (wiFrom ps t (fold t) fu (posn t (n + 1)) g = true ↔ Found ps t (n + 1) N) := fun g hg => ih (n + 1) fu g (by omega) (by omega) (by omega) hg
      cases he : edgeN t (posn t n) with
      | false =>
        rw [if_neg (by simp)]
        have hst : Good ps (pass ps f (Utf8.decode (fold t) (posn t n)).1) (Begun t (n + 1)) := (hG.step _).mono fun s => by
          constructor
          · rintro ⟨u, ⟨i, h1, h2, rfl⟩, rfl⟩
            exact ⟨i, by omega, h2, (cut_snoc (by omega) hdr).symm⟩
          · rintro ⟨i, h1, h2, rfl⟩
            have hi : i < n := by
              rcases Nat.lt_or_ge i n with h | h
              · exact h
              · obtain rfl : i = n := by omega
                rw [he] at h2; cases h2
            exact ⟨_, ⟨i, hi, h2, rfl⟩, cut_snoc (by omega) hdr⟩
        rw [hgo _ hst]
        constructor
        · rintro ⟨i, m, h1, h2, h3, h4, h5, h6⟩
          exact ⟨i, m, h1, by omega, h3, h4, h5, h6⟩
        · rintro ⟨i, m, h1, h2, h3, h4, h5, h6⟩
          refine ⟨i, m, h1, ?_, h3, h4, h5, h6⟩
          rcases Nat.lt_or_ge n m with h | h
          · exact h
          · obtain rfl : m = n := by omega
            rw [he] at h5; cases h5
      | true =>
        rw [if_pos rfl]
        have hb := hG.begin
        have hbn := hb ps.length (Nat.le_refl _)
        rw [List.take_length] at hbn
        have here : bg ps f ps.length = true ↔ ∃ i, i ≤ n ∧ edgeN t (posn t i) = true ∧ Mp ps (((rns (fold t)).drop i).take (n - i)) := by
          rw [hbn]
          constructor
          · rintro ⟨s, ⟨i, h1, h2, rfl⟩ | rfl, hm⟩
            · exact ⟨i, by omega, h2, hm⟩
            · exact ⟨n, Nat.le_refl _, he, by rw [Nat.sub_self, List.take_zero]; exact hm⟩
          · rintro ⟨i, h1, h2, h3⟩
            by_cases hi : i < n
            · exact ⟨_, .inl ⟨i, hi, h2, rfl⟩, h3⟩
            · obtain rfl : i = n := by omega
              rw [Nat.sub_self, List.take_zero] at h3
              exact ⟨[], .inr rfl, h3⟩
        cases hbg : bg ps f ps.length with
        | true =>
          rw [if_pos rfl]
          obtain ⟨i, h1, h2, h3⟩ := here.1 hbg
          exact ⟨fun _ => ⟨i, n, h1, Nat.le_refl _, hn, h2, he, h3⟩, fun _ => rfl⟩
        | false =>
          rw [if_neg (by simp)]
          have hst : Good ps (pass ps (bg ps f) (Utf8.decode (fold t) (posn t n)).1) (Begun t (n + 1)) := (hb.step _).mono fun s => by
            constructor
            · rintro ⟨u, ⟨i, h1, h2, rfl⟩ | rfl, rfl⟩
              · exact ⟨i, by omega, h2, (cut_snoc (by omega) hdr).symm⟩
              · refine ⟨n, by omega, he, ?_⟩
                rw [cut_snoc (Nat.le_refl n) hdr, Nat.sub_self, List.take_zero]
            · rintro ⟨i, h1, h2, rfl⟩
              by_cases hi : i < n
              · exact ⟨_, .inl ⟨i, hi, h2, rfl⟩, cut_snoc (by omega) hdr⟩
              · obtain rfl : i = n := by omega
                exact ⟨[], .inr rfl, by rw [cut_snoc (Nat.le_refl i) hdr, Nat.sub_self, List.take_zero]⟩
          rw [hgo _ hst]
          constructor
          · rintro ⟨i, m, h1, h2, h3, h4, h5, h6⟩
            exact ⟨i, m, h1, by omega, h3, h4, h5, h6⟩
          · rintro ⟨i, m, h1, h2, h3, h4, h5, h6⟩
            refine ⟨i, m, h1, ?_, h3, h4, h5, h6⟩
            rcases Nat.lt_or_ge n m with h | h
            · exact h
            · obtain rfl : m = n := by omega
              have := here.2 ⟨i, h1, h4, h6⟩
              rw [hbg] at this; cases this
theorem getb {t : ByteArray} {j : Nat} (h : j < t.size) : t.get! j = t.data[j]'h := by simp [ByteArray.get!, getElem!_pos, h]
/-- The bytes of a part. -/
theorem part_get (t : ByteArray) (a b i : Nat) (hb : b ≤ t.size) (hi : a + i < b) : (t.extract a b).get! i = t.get! (a + i) := by
  have h1 : i < (t.extract a b).size := by rw [ByteArray.size_extract]; omega
  have h2 : a + i < t.size := by omega
  rw [getb h1, getb h2]
  simp [ByteArray.data_extract]
theorem part_dec (t : ByteArray) (a b p : Nat) (ha : a ≤ p) (hb : b ≤ t.size) (hp : p + wd t p ≤ b) (hw : wrongAt t p = false) : Utf8.decode (t.extract a b) (p - a) = Utf8.decode t p := by
  have hpos := wd_pos t p
  have hbt : ∀ j, p + j < b → bt (t.extract a b) (p - a) j = bt t p j := fun j hj => by
    unfold bt
    rw [part_get t a b _ hb (by omega), show a + (p - a + j) = p + j by omega]
  by_cases h2 : 2 ≤ wd t p
  · exact stable t (t.extract a b) p (p - a) h2 (by rw [ByteArray.size_extract]; omega) (fun j hj => hbt j (by omega))
  · have hlow : bt t p 0 < 128 := by
      rcases Nat.lt_or_ge (bt t p 0) 128 with h | h
      · exact h
      · have := high_wrong t p h (by omega)
        unfold wrongAt at hw
        rw [this] at hw
        simp at hw
    have e := hbt 0 (by omega)
    rw [sign_low t p hlow, sign_low _ _ (by rw [e]; exact hlow), e]
theorem part_rl (t : ByteArray) (hv : valid t = true) (i m : Nat) (him : i ≤ m) : ∀ k n, m - n ≤ k → i ≤ n → n ≤ m → posn t n ≤ posn t m →
    rl (t.extract (posn t i) (posn t m)) (posn t n - posn t i) = ((rns t).drop n).take (m - n) ∧ vl (t.extract (posn t i) (posn t m)) (posn t n - posn t i) = true := by
  intro k
  have hle := posn_le t m
  have him' := posn_mono t i m him
  have hsz : (t.extract (posn t i) (posn t m)).size = posn t m - posn t i := by rw [ByteArray.size_extract]; omega
  induction k with
  | zero =>
    intro n h1 h2 h3 _
    obtain rfl : n = m := by omega
    rw [rl_end _ _ (by omega), vl_end _ _ (by omega), Nat.sub_self, List.take_zero]
    exact ⟨rfl, rfl⟩
  | succ k ih =>
    intro n h1 h2 h3 h4
    have hin := posn_mono t i n h2
    by_cases hlt : posn t n < posn t m
    · have hp : posn t n < t.size := by omega
      have hnm : n < m := by
        rcases Nat.lt_or_ge n m with h | h
        · exact h
        · have := posn_mono t m n h; omega
      have hs := posn_step t n hp
      have hmo := posn_mono t (n + 1) m (by omega)
      have hw := valid_no_wrong t hv n hp
      have hd := part_dec t (posn t i) (posn t m) (posn t n) hin hle (by omega) hw
      have hwd : wd (t.extract (posn t i) (posn t m)) (posn t n - posn t i) = wd t (posn t n) := by unfold wd; rw [hd]
      obtain ⟨r1, r2⟩ := ih (n + 1) (by omega) (by omega) (by omega) hmo
      have hpos := wd_pos t (posn t n)
      rw [rl_step _ _ (by omega), vl_step _ _ (by omega), hd, hwd, wrong_of hd, hw, show posn t n - posn t i + wd t (posn t n) = posn t (n + 1) - posn t i by omega, r1, r2, rns_at t n hp, show m - n = (m - (n + 1)) + 1 by omega]
      exact ⟨rfl, rfl⟩
    · have hnp : ¬ posn t n < t.size ∨ n = m := by
        rcases Nat.lt_or_ge n m with h | h
        · left
          intro h5
          have := posn_step t n h5
          have := wd_pos t (posn t n)
          have := posn_mono t (n + 1) m h
          omega
        · right; omega
      rw [rl_end _ _ (by omega), vl_end _ _ (by omega)]
      refine ⟨?_, rfl⟩
      rcases hnp with h | rfl
      · rw [List.drop_eq_nil_of_le (rns_over t n h), List.take_nil]
      · rw [Nat.sub_self, List.take_zero]
theorem part_rns {t : ByteArray} (hv : valid t = true) {i m : Nat} (him : i ≤ m) : valid (t.extract (posn t i) (posn t m)) = true ∧ rns (fold (t.extract (posn t i) (posn t m))) = ((rns (fold t)).drop i).take (m - i) := by
  obtain ⟨h1, h2⟩ := part_rl t hv i m him _ i (Nat.le_refl _) (Nat.le_refl _) him (posn_mono t i m him)
  rw [Nat.sub_self] at h1 h2
  refine ⟨h2, ?_⟩
  rw [rns_fold h2, rns_fold hv, rns_eq, h1, List.map_take, List.map_drop]
theorem edge_posn {t : ByteArray} {a : Nat} (ha : a ≤ t.size) (h : edgeN t a = true) : ∃ n, posn t n = a := by
  have hw : Sg.withinB t a = false := by
    cases hw : Sg.withinB t a with
    | false => rfl
    | true => unfold edgeN at h; rw [hw] at h; cases h
  apply Classical.byContradiction
  intro hn
  have := (Sg.within_iff t a ha).2 (fun n hc => hn ⟨n, hc⟩)
  rw [hw] at this
  cases this
/-- G3. -/
theorem within_edges (ps : List P) (t : ByteArray) (hv : valid t = true) : Gl.withinB ps t = true ↔ ∃ a b, a ≤ b ∧ b ≤ t.size ∧ edgeN t a = true ∧ edgeN t b = true ∧ wholeB ps (t.extract a b) = true := by
  obtain ⟨N, hN, hlt⟩ := last_place t
  have h0 := wi_found ps t N hN hlt N 0 (fold t).size (fun _ => false) (by omega) (by omega) (by rw [fold_size]; omega) ((Good.none ps).mono fun s => ⟨False.elim, fun ⟨i, h, _⟩ => by omega⟩)
  unfold Gl.withinB
  rw [hv, Bool.true_and]
  refine h0.trans ?_
  constructor
  · rintro ⟨i, m, h1, _, h3, h4, h5, h6⟩
    obtain ⟨p1, p2⟩ := part_rns hv h1
    exact ⟨posn t i, posn t m, posn_mono t i m h1, posn_le t m, h4, h5, (whole_iff _ _).2 ⟨p1, by rw [p2]; exact h6⟩⟩
  · rintro ⟨a, b, h1, h2, h3, h4, h5⟩
    have hcap : ∀ c, c ≤ t.size → edgeN t c = true → ∃ n, n ≤ N ∧ posn t n = c := fun c hc he => by
      obtain ⟨n, hn⟩ := edge_posn hc he
      rcases Nat.lt_or_ge N n with h | h
      · exact ⟨N, Nat.le_refl _, by have := posn_mono t N n (by omega); have := posn_le t n; omega⟩
      · exact ⟨n, h, hn⟩
    obtain ⟨i, hi, rfl⟩ := hcap a (by omega) h3
    obtain ⟨m, hm, rfl⟩ := hcap b h2 h4
    have him : i ≤ m := by
      rcases Nat.lt_or_ge m i with h | h
      · have := posn_inj t m i (hlt m (by omega)) h
        omega
      · exact h
    obtain ⟨p1, p2⟩ := part_rns hv him
    obtain ⟨_, hm2⟩ := (whole_iff _ _).1 h5
    rw [p2] at hm2
    exact ⟨i, m, him, by omega, hm, h3, h4, hm2⟩
end Go.Gl
