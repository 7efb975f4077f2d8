/-
  Laid together by packg.py of WuA WuB WuC.
-/
import Derived.Test.YtjiidkkmnlcpcaaGreatDoorPaO
import Derived.Test.YtjiidkkmnlcpcaaGreatDoorPaK
namespace Go.Wb
open Go.RowKit Go.Wi Go.Proofs
/-- In the midst of a target. -/
structure TRun (s : List UInt8) (i0 i : Nat) (b : Int) (S T : Re (List UInt8)) : Prop where
  le : i0 ≤ i
  ac : ∀ a r j, S = .ok a r j → j = i ∧ a = (s.drop i0).take (i - i0)
  all : (S.bind fun a r j => tgtD b i0 a r j) = T
theorem tgt_pk (b : Int) (f : Nat) : Pk b (fun a r j => tgtD b f a r j) := ⟨fun _ _ => rfl, fun _ d q i h => by rw [tgtD_cons, if_pos h]⟩
theorem TRun.start {α : Type} {R : Re α} {s : List UInt8} {i0 i1 : Nat} {b : Int} (h : ∀ a r j, R = .ok a r j → j = i0 ∧ r = s.drop i0) (hle : i0 ≤ i1) (h1 : ∀ u r j, (R.bind fun _ r i => mustD b 47 r i) = .ok u r j → j = i1) :
    TRun s i0 i1 b ((R.bind fun _ r i => mustD b 47 r i).bind fun _ r j => .ok [47] r j) (R.bind fun _ r i => targetD b r i) := by
  refine ⟨hle, fun a r j e => ?_, ?_⟩
  · obtain ⟨u, r1, j1, e1, e⟩ := bind_ok e
    injection e with e2 e3 e4
    subst e2 e3 e4
    have hj := h1 _ _ _ e1
    obtain ⟨v, r0, j0, e5, e6⟩ := bind_ok e1
    obtain ⟨rfl, hr⟩ := h _ _ _ e5
    cases r0 with
    | nil => cases e6
    | cons d q =>
      rw [mustD_cons] at e6
      by_cases hb : (j0 : Int) = b
      · rw [if_pos hb] at e6; cases e6
      · rw [if_neg hb] at e6
        by_cases hd : d = 47
        · rw [if_pos hd] at e6
          injection e6 with _ _ e7
          refine ⟨hj, ?_⟩
          rw [← hr, show i1 - j0 = 1 by omega, hd]
          rfl
        · rw [if_neg hd] at e6; cases e6
  · cases R with
    | bad a e => rfl
    | more => rfl
    | ok a r i =>
      obtain ⟨rfl, _⟩ := h _ _ _ rfl
      rw [bind_ok_eq, bind_ok_eq, bind_bind]
      rfl
theorem TRun.move {s : List UInt8} {i0 j : Nat} {b : Int} {a q : List UInt8} {d : UInt8} {T : Re (List UInt8)} (h : TRun s i0 j b (.ok a (d :: q) j) T) (hi : ¬ (j : Int) = b) (hd : tgt d = true) (h5 : ¬ j = i0 + 512) (hds : d :: q = s.drop j) : TRun s i0 (j + 1) b (.ok (a ++ [d]) q (j + 1)) T := by
  refine ⟨by have := h.le; omega, fun a2 r2 j2 e => ?_, ?_⟩
  · injection e with e1 e2 e3
    subst e1 e2 e3
    obtain ⟨_, ha⟩ := h.ac _ _ _ rfl
    have hle := h.le
    refine ⟨rfl, ?_⟩
    rw [ha, show j + 1 - i0 = (j - i0) + 1 by omega, List.take_add_one, List.getElem?_drop, show i0 + (j - i0) = j by omega]
    have : s[j]? = some d := by
      have e : (s.drop j)[0]? = some d := by rw [← hds]; rfl
      rw [List.getElem?_drop] at e
      exact e
    rw [this]
    rfl
  · rw [← h.all, bind_ok_eq, bind_ok_eq, tgtD_cons, if_neg hi, if_neg (by rw [hd]; decide), if_neg h5]
end Go.Wb
namespace Go.Proofs
open Go.RowKit Go.Wi Go.Wb
set_option maxRecDepth 20000 in
set_option maxHeartbeats 2000000 in
theorem Tryz.ssTarget {α : Type} {w : World} {p : Nat} {s : List UInt8} {st li : Nat} {R : Re α} (h : Tryz.SS w p s st li R) :
    Calls Tryz.prog 70 #[.pointer (some ⟨p, 0, none⟩)] w fun e w' => ∃ v : List UInt8, e = .returned (.string ⟨v.toArray⟩) ∧ TxtOk s v (R.bind fun _ r i => targetD (bnd st li) r i) ∧ Tryz.SS w' p s st li (R.bind fun _ r i => targetD (bnd st li) r i) ∧ Wo (fun k => k = p) w w' := by
  obtain ⟨i0, c0, c1, fz, hil, hsl, hj⟩ := Tryz.SS.place h
  obtain ⟨T, hT⟩ : ∃ T, (R.bind fun _ r i => targetD (bnd st li) r i) = T := ⟨_, rfl⟩
  have HT : Hid ((R.bind fun _ r i => targetD (bnd st li) r i) = T) := hT
  have hRr : ∀ a r j, R = .ok a r j → j = i0 ∧ r = s.drop i0 := fun a r j e => by
    subst e
    have h6 := (Tryz.SS.c h).2.2.2.2.2
    rw [hj _ _ _ rfl] at h6
    exact ⟨hj _ _ _ rfl, h6⟩
  have HST : Hid (∀ i1, i0 ≤ i1 → (∀ u r j, (R.bind fun _ r i => mustD (bnd st li) 47 r i) = .ok u r j → j = i1) → TRun s i0 i1 (bnd st li) ((R.bind fun _ r i => mustD (bnd st li) 47 r i).bind fun _ r j => .ok [47] r j) T) := fun i1 h1 h2 => (by rw [← hT]; exact TRun.start hRr h1 h2)
  have k1 := Tryz.ssMust h 47
  have HC1 : Hid (w.cell? ⟨p, 1, none⟩ = some (.int .i64 i0)) := c1
  generalize (R.bind fun _ r i => mustD (bnd st li) 47 r i) = M at *
  clear h hT hj fz c0 hRr
  go_enter Tryz.func70, Tryz.ntmps70
  go_upto_region 3 with (first | (go_at_call 65; refine k1.mono ?_; clear k1 c1; rintro e w1 ⟨⟨v1, rfl⟩, g1, hw1, hm1⟩) | fail)
  obtain ⟨i1, c0, c1, fz, hi1, _, hj1⟩ := Tryz.SS.place g1
  have hi01 : i0 ≤ i1 := by
    obtain ⟨j, h1, h2⟩ := hm1 i0 HC1.out
    rw [c1] at h2
    injection h2 with h2
    injection h2 with _ h2
    omega
  have HR : Hid (TRun s i0 i1 (bnd st li) (M.bind fun _ r j => .ok [47] r j) T) := HST.out i1 hi01 hj1
  have HS : Hid (Tryz.SS w1 p s st li (M.bind fun _ r j => (.ok [47] r j : Re (List UInt8)))) := Tryz.SS.val g1 _
  have HC : Hid (w1.cell? ⟨p, 1, none⟩ = some (.int .i64 i1)) := c1
  have HW1 : Hid (Wo (fun k => k = p) w w1) := hw1
  clear g1 hm1 hw1 c0 c1 fz hj1 HST HC1
  go_loopw [4] (fun _ wr => ∃ (S : Re (List UInt8)) (i : Nat), Tryz.SS wr p s st li S ∧ wr.cell? ⟨p, 1, none⟩ = some (.int .i64 i) ∧ TRun s i0 i (bnd st li) S T ∧ i ≤ s.length ∧ Wo (fun k => k = p) w wr) (fun _ wr => s.length - placeN wr p)
  case atStart => exact ⟨_, i1, HS.out, HC.out, HR.out, hi1, HW1.out⟩
  case round =>
    clear HC HR HS HW1 hi01 hi1
    obtain ⟨S, i, h1, h2, h3, h4, h5⟩ := hrel
    have HW : Hid (Wo (fun k => k = p) w wr) := h5
    have k1 := Tryz.ssNext h1
    rcases peek_cases (bnd st li) S with hb | ⟨a, d, q, j, rfl, hi, hb, hp⟩
    · rw [hb] at k1
      have HE : Hid (RunEnd s i0 i T) := ⟨h3.le, fun a r j e => by
        exfalso
        rw [← h3.all] at e
        cases S with
        | bad a e2 => cases e
        | more => cases e
        | ok a2 r2 j2 =>
          cases r2 with
          | nil => cases e
          | cons d q =>
            by_cases hi : (j2 : Int) = bnd st li
            · rw [bind_ok_eq, tgtD_cons, if_pos hi] at e; cases e
            · have : byteR (bnd st li) (.ok a2 (d :: q) j2) = ((d.toNat : Nat) : Int) := if_neg hi
              rw [this] at hb; omega⟩
      have HF : Hid (∀ w', Tryz.SS w' p s st li (peekR (bnd st li) S) → Tryz.SS w' p s st li T) := fun w' h => (by rw [← h3.all]; exact Tryz.SS.dead h hb (tgt_pk _ _))
      have hle := h3.le
      clear hb h1 h3 h5
      have q1 : (i0 : Int) ≤ (i : Int) := by omega
      have hz : (⟨s.toArray⟩ : ByteArray).size = s.length := text_size s
      go_upto_region 5 with (first | (go_at_call 62; refine k1.mono ?_; clear k1; rintro e w1 ⟨rfl, g1, hw1, hc1⟩; have c1 : w1.cell? ⟨p, 1, none⟩ = some (.int .i64 i) := hc1.trans h2; have HG : Hid (Tryz.SS w1 p s st li T) := HF.out w1 g1; clear HF hc1 h2; obtain ⟨i2, c0, _, _⟩ := Tryz.SS.place g1; clear g1) | fail)
      go_quiet (fail)
      go_wp2
      go_ret
      exact ⟨_, by rw [ext_two]; rfl, by rw [HT.out]; exact txt_ok HE.out, by rw [HT.out]; exact Tryz.SS.drewN HG.out _, (HW.out.trans hw1).drewN _⟩
    · obtain ⟨rfl, ha⟩ := h3.ac _ _ _ rfl
      rw [hb, hp] at k1
      have hle := h3.le
      have hds := (Tryz.SS.c h1).2.2.2.2.2
      have hlt := d.toNat_lt
      cases hd : tgt d with
      | true =>
        have q3 : ¬ ((d.toNat : Nat) : Int) < 33 := by simp [tgt] at hd; omega
        have q4 : ¬ (126 : Int) < ((d.toNat : Nat) : Int) := by simp [tgt] at hd; omega
        have q3d : decide (((d.toNat : Nat) : Int) < 33) = false := decide_eq_false q3
        have q4d : decide ((126 : Int) < ((d.toNat : Nat) : Int)) = false := decide_eq_false q4
        by_cases h512 : j = i0 + 512
        · have q5 : ((j : Int) - (i0 : Int) == 512) = true := by rw [h512]; simp; omega
          have HTT : Hid (T = .bad j 181) := (by show _ = _; rw [← h3.all, bind_ok_eq, tgtD_cons, if_neg hi, if_neg (by rw [hd]; decide), if_pos h512])
          clear hb hp h3 h5 hi hds hd h2 ha h512 h1
          go_wp2_with (first | (go_at_call 62; refine k1.mono ?_; clear k1; rintro e w1 ⟨rfl, g1, hw1, hc1⟩; clear hc1; have k2 := Tryz.ssFail (List UInt8) g1 j 181 (by decide); obtain ⟨c0, c1, fz, _, _, hdd⟩ := Tryz.SS.c g1; clear g1 fz hdd c0) | (go_at_call 67; refine k2.mono ?_; clear k2; rintro e w2 ⟨⟨v2, rfl⟩, g2, hw2, hc2⟩; clear hc2) | fail)
          go_ret
          exact ⟨[], rfl, ⟨Nat.zero_le _, fun a r k e => by rw [HT.out, HTT.out] at e; cases e⟩, by rw [HT.out, HTT.out]; exact g2, (HW.out.trans hw1).trans hw2⟩
        · have q5 : ((j : Int) - (i0 : Int) == 512) = false := by simp; omega
          have HN : Hid (TRun s i0 (j + 1) (bnd st li) (.ok (a ++ [d]) q (j + 1)) T) := h3.move hi hd h512 hds
          have HM : Hid (∀ w', Tryz.SS w' p s st li (.ok a (d :: q) j : Re (List UInt8)) → ∀ z : Int, z = (j : Int) + 1 → Tryz.SS (w'.setCell ⟨p, 1, none⟩ (.int .i64 z)) p s st li (.ok (a ++ [d]) q (j + 1) : Re (List UInt8))) := fun w' h z hz => Tryz.SS.move h hi (a ++ [d]) z hz
          have hjl : j + 1 ≤ s.length := by
            rcases Nat.lt_or_ge j s.length with e | e
            · exact e
            · rw [List.drop_eq_nil_iff.2 e] at hds; cases hds
          have HP : Hid (placeN wr p = j) := placeN_of h2
          clear hb hp h1 h3 h5 hi hds hd h2 h4 ha h512
          go_wp2_with (first | (go_at_call 62; refine k1.mono ?_; clear k1; rintro e w1 ⟨rfl, g1, hw1, hc1⟩; clear hc1; have HS : Hid (∀ z : Int, z = (j : Int) + 1 → Tryz.SS (w1.setCell ⟨p, 1, none⟩ (.int .i64 z)) p s st li (.ok (a ++ [d]) q (j + 1) : Re (List UInt8))) := HM.out w1 g1; clear HM; have H1 := Tryz.SS.c g1; obtain ⟨c0, c1, fz, _, _, hdd⟩ := H1; have f1 := fz 1; clear g1 fz c0 hdd) | fail)
          go_roundw
          case rel => exact ⟨_, j + 1, HS.out _ rfl, (Tryz.SS.c (HS.out _ rfl)).2.1, HN.out, hjl, (HW.out.trans hw1).setCell p 1 _ (.inl rfl)⟩
          case measure =>
            rw [placeN_of (Tryz.SS.c (HS.out _ rfl)).2.1, HP.out]
            omega
      | false =>
        have hTT : T = .ok a (d :: q) j := by rw [← h3.all, bind_ok_eq, tgtD_cons, if_neg hi, if_pos hd]
        have HE : Hid (RunEnd s i0 j T) := ⟨hle, fun a2 r2 j2 e => by rw [hTT] at e; injection e with e1 e2 e3; exact ⟨e3.symm, by rw [← e1]; exact ha, h4⟩⟩
        have HF : Hid (∀ w', Tryz.SS w' p s st li (.ok a (d :: q) j : Re (List UInt8)) → Tryz.SS w' p s st li T) := fun w' h => (by rw [hTT]; exact h)
        have hcs : ((d.toNat : Nat) : Int) < 33 ∨ (126 : Int) < ((d.toNat : Nat) : Int) := by
          simp [tgt] at hd
          omega
        clear hb hp h1 h3 h5 hi hds hd h2 hTT ha
        have q1 : (i0 : Int) ≤ (j : Int) := by omega
        have hz : (⟨s.toArray⟩ : ByteArray).size = s.length := text_size s
        by_cases h33 : ((d.toNat : Nat) : Int) < 33
        · have q3d : decide (((d.toNat : Nat) : Int) < 33) = true := decide_eq_true h33
          clear hcs
          go_upto_region 5 with (first | (go_at_call 62; refine k1.mono ?_; clear k1; rintro e w1 ⟨rfl, g1, hw1, hc1⟩; clear hc1; have HG : Hid (Tryz.SS w1 p s st li T) := HF.out w1 g1; clear HF; obtain ⟨c0, c1, fz, _, _, hdd⟩ := Tryz.SS.c g1; clear g1 fz hdd) | fail)
          go_quiet (fail)
          go_wp2
          go_ret
          exact ⟨_, by rw [ext_two]; rfl, by rw [HT.out]; exact txt_ok HE.out, by rw [HT.out]; exact Tryz.SS.drewN HG.out _, (HW.out.trans hw1).drewN _⟩
        · have h126 : (126 : Int) < ((d.toNat : Nat) : Int) := by omega
          have q3d : decide (((d.toNat : Nat) : Int) < 33) = false := decide_eq_false h33
          have q4d : decide ((126 : Int) < ((d.toNat : Nat) : Int)) = true := decide_eq_true h126
          clear hcs
          go_upto_region 5 with (first | (go_at_call 62; refine k1.mono ?_; clear k1; rintro e w1 ⟨rfl, g1, hw1, hc1⟩; clear hc1; have HG : Hid (Tryz.SS w1 p s st li T) := HF.out w1 g1; clear HF; obtain ⟨c0, c1, fz, _, _, hdd⟩ := Tryz.SS.c g1; clear g1 fz hdd) | fail)
          go_quiet (fail)
          go_wp2
          go_ret
          exact ⟨_, by rw [ext_two]; rfl, by rw [HT.out]; exact txt_ok HE.out, by rw [HT.out]; exact Tryz.SS.drewN HG.out _, (HW.out.trans hw1).drewN _⟩
end Go.Proofs
namespace Go.Wb
open Go.RowKit Go.Wi Go.Proofs
/-- What was read is what is gone. -/
def Con {α : Type} (X : Re α) (l : List UInt8) (i : Nat) : Prop := ∀ a r j, X = .ok a r j → j + r.length = i + l.length ∧ r.length ≤ l.length
theorem Con.bind {α β : Type} {X : Re α} {l : List UInt8} {i : Nat} {g : α → List UInt8 → Nat → Re β} (h : Con X l i) (hg : ∀ a r j, Con (g a r j) r j) : Con (X.bind g) l i := fun a r j e => by
  obtain ⟨b, r1, j1, e1, e2⟩ := bind_ok e
  have h1 := h _ _ _ e1
  have h2 := hg _ _ _ _ _ _ e2
  omega
theorem Con.ok {α : Type} (a : α) (l : List UInt8) (i : Nat) : Con (.ok a l i) l i := fun _ _ _ e => by injection e with _ e2 e3; subst e2 e3; exact ⟨rfl, Nat.le_refl _⟩
theorem Con.bad {α : Type} (a e : Nat) (l : List UInt8) (i : Nat) : Con (.bad a e : Re α) l i := fun _ _ _ e => by cases e
theorem con_must (b : Int) (c : UInt8) (l : List UInt8) (i : Nat) : Con (mustD b c l i) l i := fun a r j e => by
  cases l with
  | nil => cases e
  | cons d q =>
    rw [mustD_cons] at e
    by_cases h1 : (i : Int) = b
    · rw [if_pos h1] at e; cases e
    · rw [if_neg h1] at e
      by_cases h2 : d = c
      · rw [if_pos h2] at e
        injection e with _ e2 e3
        subst e2 e3
        rw [List.length_cons]
        omega
      · rw [if_neg h2] at e; cases e
theorem con_end (b : Int) (l : List UInt8) (i : Nat) : Con (endD b l i) l i := (con_must b 13 l i).bind fun _ r j => con_must b 10 r j
theorem con_run (b : Int) (p : UInt8 → Bool) : ∀ (l acc : List UInt8) (i : Nat), Con (runD b p acc l i) l i
  | [], _, _ => fun _ _ _ e => by cases e
  | d :: q, acc, i => fun a r j e => by
    rw [runD_cons] at e
    by_cases h1 : (i : Int) = b
    · rw [if_pos h1] at e; cases e
    · rw [if_neg h1] at e
      cases hp : p d with
      | true =>
        rw [hp, if_pos rfl] at e
        have := con_run b p q _ _ _ _ _ e
        rw [List.length_cons]
        omega
      | false =>
        rw [hp, if_neg (by decide)] at e
        injection e with _ e2 e3
        subst e2 e3
        exact ⟨rfl, Nat.le_refl _⟩
theorem con_tgt (b : Int) (f : Nat) : ∀ (l acc : List UInt8) (i : Nat), Con (tgtD b f acc l i) l i
  | [], _, _ => fun _ _ _ e => by cases e
  | d :: q, acc, i => fun a r j e => by
    rw [tgtD_cons] at e
    by_cases h1 : (i : Int) = b
    · rw [if_pos h1] at e; cases e
    · rw [if_neg h1] at e
      by_cases h2 : tgt d = false
      · rw [if_pos h2] at e
        injection e with _ e2 e3
        subst e2 e3
        exact ⟨rfl, Nat.le_refl _⟩
      · rw [if_neg h2] at e
        by_cases h3 : i = f + 512
        · rw [if_pos h3] at e; cases e
        · rw [if_neg h3] at e
          have := con_tgt b f q _ _ _ _ _ e
          rw [List.length_cons]
          omega
theorem con_token (b : Int) (l : List UInt8) (i : Nat) : Con (tokenD b l i) l i := (con_run b tok l [] i).bind fun a r j => by
  by_cases h : a = []
  · rw [if_pos h]; exact Con.bad _ _ _ _
  · rw [if_neg h]; exact Con.ok _ _ _
theorem con_target (b : Int) (l : List UInt8) (i : Nat) : Con (targetD b l i) l i := (con_must b 47 l i).bind fun _ r j => con_tgt b i r _ j
theorem con_digit (b : Int) (l : List UInt8) (i : Nat) : Con (digitD b l i) l i := fun a r j e => by
  cases l with
  | nil => cases e
  | cons d q =>
    have e : (if (i : Int) = b then .bad i 181 else if dig d then .ok (d.toNat - 48) q (i + 1) else .bad i 180 : Re Nat) = .ok a r j := e
    by_cases h1 : (i : Int) = b
    · rw [if_pos h1] at e; cases e
    · rw [if_neg h1] at e
      cases h2 : dig d with
      | true =>
        rw [h2, if_pos rfl] at e
        injection e with _ e2 e3
        subst e2 e3
        rw [List.length_cons]
        omega
      | false => rw [h2, if_neg (by decide)] at e; cases e
theorem con_version (b : Int) (l : List UInt8) (i : Nat) : Con (versionD b l i) l i :=
  (con_must b 72 l i).bind fun _ r j => (con_must b 84 r j).bind fun _ r j => (con_must b 84 r j).bind fun _ r j => (con_must b 80 r j).bind fun _ r j => (con_must b 47 r j).bind fun _ r j =>
  (con_digit b r j).bind fun x r j => (con_must b 46 r j).bind fun _ r j => (con_digit b r j).bind fun y r j => by
    by_cases h : x ≠ 1 ∨ 1 < y
    · rw [if_pos h]; exact Con.bad _ _ _ _
    · rw [if_neg h]; exact Con.ok _ _ _
theorem con_ahead (n : Nat) : ∀ (l : List UInt8) (i : Nat), Con (aheadD n l i) l i := by
  induction n with
  | zero => intro l i a r j e; cases e
  | succ n ih =>
    intro l i
    cases l with
    | nil => intro a r j e; cases e
    | cons c q =>
      rw [aheadD_cons]
      by_cases h : c = 13
      · rw [if_pos h]; exact (con_end (-1) (c :: q) i).bind fun _ r j => ih r j
      · rw [if_neg h]; exact Con.ok _ _ _
/-- A request's first line, behind what was read ahead of it. -/
def lineQ (b : Int) (A : Re Unit) : Re (List UInt8 × List UInt8 × Nat) :=
  A.bind fun _ r i => (tokenD b r i).bind fun a r j => (mustD b 32 r j).bind fun _ r j => (targetD b r j).bind fun t r j => (mustD b 32 r j).bind fun _ r j => (versionD b r j).bind fun v r j => (endD b r j).bind fun _ r j => .ok (a, t, v) r j
theorem con_line (b : Int) {A : Re Unit} {l : List UInt8} {i : Nat} (h : Con A l i) : Con (lineQ b A) l i :=
  h.bind fun _ r j => (con_token b r j).bind fun _ r j => (con_must b 32 r j).bind fun _ r j => (con_target b r j).bind fun _ r j => (con_must b 32 r j).bind fun _ r j => (con_version b r j).bind fun _ r j => (con_end b r j).bind fun _ _r _j => Con.ok _ _ _
/-- The first line as it is read piece by piece. -/
def Q1 (b : Int) (A : Re Unit) : Re (List UInt8) := A.bind fun _ r j => tokenD b r j
def Q2 (b : Int) (A : Re Unit) : Re Unit := (Q1 b A).bind fun _ r j => mustD b 32 r j
def Q3 (b : Int) (A : Re Unit) : Re (List UInt8) := (Q2 b A).bind fun _ r j => targetD b r j
def Q4 (b : Int) (A : Re Unit) : Re Unit := (Q3 b A).bind fun _ r j => mustD b 32 r j
def Q5 (b : Int) (A : Re Unit) : Re Nat := (Q4 b A).bind fun _ r j => versionD b r j
theorem lineQ_pieces (b : Int) (A : Re Unit) (x : Sn) : Fitt x ((Q5 b A).bind fun _ r j => endD b r j) → Fitt x (lineQ b A) := by
  unfold lineQ Q5 Q4 Q3 Q2 Q1
  cases A with
  | bad a e => exact id
  | more => exact id
  | ok u r0 i0 =>
    simp only [bind_ok_eq]
    cases tokenD b r0 i0 with
    | bad a e => exact id
    | more => exact id
    | ok a r1 j1 =>
      simp only [bind_ok_eq]
      cases mustD b 32 r1 j1 with
      | bad a e => exact id
      | more => exact id
      | ok u r2 j2 =>
        simp only [bind_ok_eq]
        cases targetD b r2 j2 with
        | bad a e => exact id
        | more => exact id
        | ok t r3 j3 =>
          simp only [bind_ok_eq]
          cases mustD b 32 r3 j3 with
          | bad a e => exact id
          | more => exact id
          | ok u2 r4 j4 =>
            simp only [bind_ok_eq]
            cases versionD b r4 j4 with
            | bad a e => exact id
            | more => exact id
            | ok v r5 j5 =>
              simp only [bind_ok_eq]
              cases endD b r5 j5 <;> exact id
theorem lineQ_vals {b : Int} {A : Re Unit} {r : List UInt8} {j : Nat} {x : List UInt8 × List UInt8 × Nat} (h : lineQ b A = .ok x r j) : (∃ r1 j1, Q1 b A = .ok x.1 r1 j1) ∧ (∃ r1 j1, Q3 b A = .ok x.2.1 r1 j1) ∧ ∃ r1 j1, Q5 b A = .ok x.2.2 r1 j1 := by
  unfold lineQ at h
  obtain ⟨u0, r0, j0, h0, h⟩ := bind_ok h
  obtain ⟨a, r1, j1, h1, h⟩ := bind_ok h
  obtain ⟨u, r2, j2, h2, h⟩ := bind_ok h
  obtain ⟨t, r3, j3, h3, h⟩ := bind_ok h
  obtain ⟨u2, r4, j4, h4, h⟩ := bind_ok h
  obtain ⟨v, r5, j5, h5, h⟩ := bind_ok h
  obtain ⟨u3, r6, j6, h6, h⟩ := bind_ok h
  injection h with h
  subst h
  have q1 : Q1 b A = .ok a r1 j1 := by unfold Q1; rw [h0, bind_ok_eq, h1]
  have q2 : Q2 b A = .ok u r2 j2 := by unfold Q2; rw [q1, bind_ok_eq, h2]
  have q3 : Q3 b A = .ok t r3 j3 := by unfold Q3; rw [q2, bind_ok_eq, h3]
  have q4 : Q4 b A = .ok u2 r4 j4 := by unfold Q4; rw [q3, bind_ok_eq, h4]
  exact ⟨⟨_, _, q1⟩, ⟨_, _, q3⟩, ⟨_, _, by unfold Q5; rw [q4, bind_ok_eq, h5]⟩⟩
theorem Q5_ver {b : Int} {A : Re Unit} {r : List UInt8} {j v : Nat} (h : Q5 b A = .ok v r j) : v = 10 ∨ v = 11 := by
  obtain ⟨u, r1, j1, _, h2⟩ := bind_ok h
  exact versionD_ok h2
theorem requD_line {l : List UInt8} {f st : Nat} (h : ∀ u r j, aheadD (l.length + 1) l f = .ok u r j → j = st) : requD l f = (lineQ (bnd st 2048) (aheadD (l.length + 1) l f)).bind fun x r j => (headersD (bnd st 2048) (l.length + 1) [] r j).bind fun o r j => (bodyD (o.map hdOf) false (decide (x.2.2 = 11)) 6000 0 r j).bind fun y r k => .ok (st, (x.1, x.2.1, x.2.2, o), j, y) r k := by
  unfold requD lineQ
  cases hA : aheadD (l.length + 1) l f with
  | bad a e => rfl
  | more => rfl
  | ok u r i =>
    obtain rfl := h _ _ _ hA
    simp only [bind_ok_eq]
    unfold reqD
    have hb : bnd i 2048 = (i : Int) + 2048 := by unfold bnd; rw [if_neg (by decide)]; rfl
    rw [hb]
    simp only [bind_bind]
    rfl
/-- Empty lines ahead of a request, one by one. -/
structure AIn (T R : Re Unit) (n : Nat) : Prop where
  all : (R.bind fun _ r i => aheadD (n + 1) r i) = T
  len : ∀ u r i, R = .ok u r i → r.length ≤ n
theorem ahead_pk (n : Nat) : Pk (-1) (fun (_ : Unit) r i => aheadD (n + 1) r i) := ⟨fun _ _ => rfl, fun _ d q i h => by omega⟩
end Go.Wb
namespace Go.Proofs
open Go.RowKit Go.Wi Go.Wb
/-- What Read answers of a request that begins at a place. -/
structure Tryz.ReqOk (w w' : World) (g : Nat) (s : List UInt8) (f : Nat) (C : Array Value) (en at_ er : Nat) (wh : Bool) : Prop where
  bel : Below g w w'
  dead : deadR (requD (s.drop f) f) = true → wh = false ∧ en = 0 ∧ at_ = (codes (requD (s.drop f) f)).1 ∧ er = (codes (requD (s.drop f) f)).2 ∧ C = mCells [] [] 0 0 (.slice none 0 0) [] false ∧ ∀ a e, requD (s.drop f) f = .bad a e → e ≠ 0
  live : ∀ z r k, requD (s.drop f) f = .ok z r k → wh = true ∧ en = k ∧ at_ = 0 ∧ er = 0 ∧ (∃ ad cap, C = mCells z.2.1.1 z.2.1.2.1 0 z.2.1.2.2.1 (.slice ad (z.2.1.2.2.2.map hdOf).length cap) z.2.2.2.1 (endsD (z.2.1.2.2.2.map hdOf) (decide (z.2.1.2.2.1 = 11))) ∧ w'.ownsRow g 57 2 (.slice ad (z.2.1.2.2.2.map hdOf).length cap) (z.2.1.2.2.2.map hdOf).length (hdCells (z.2.1.2.2.2.map hdOf))) ∧ k ≤ s.length ∧ r = s.drop k
theorem Tryz.RD.zeroQ {w W : World} {g : Nat} {s : List UInt8} {f st li : Nat} {α : Type} {R : Re α} {C : Array Value} (h : Tryz.RD w W g s st li R C) (hd : deadR R = true) (ff : α → List UInt8 → Nat → Re _) (hT : requD (s.drop f) f = R.bind ff) {x : Sn} (hx : Fitt x R) :
    (((((((W.setCell ⟨g, 0, none⟩ (.string ⟨#[]⟩)).setCell ⟨g, 1, none⟩ (.string ⟨#[]⟩)).setCell ⟨g, 2, none⟩ (.int .i64 0)).setCell ⟨g, 3, none⟩ (.int .i64 0)).setCell ⟨g, 4, none⟩ (.slice none 0 0)).setCell ⟨g, 5, none⟩ (.string ⟨#[]⟩)).setCell ⟨g, 6, none⟩ (.bool false)).drew.heap[g]? = some (.cells (mCells [] [] 0 0 (.slice none 0 0) [] false) 99 (0, 0)) ∧
    Tryz.ReqOk w (((((((W.setCell ⟨g, 0, none⟩ (.string ⟨#[]⟩)).setCell ⟨g, 1, none⟩ (.string ⟨#[]⟩)).setCell ⟨g, 2, none⟩ (.int .i64 0)).setCell ⟨g, 3, none⟩ (.int .i64 0)).setCell ⟨g, 4, none⟩ (.slice none 0 0)).setCell ⟨g, 5, none⟩ (.string ⟨#[]⟩)).setCell ⟨g, 6, none⟩ (.bool false)).drew g s f (mCells [] [] 0 0 (.slice none 0 0) [] false) 0 x.at_ x.e false := by
  obtain ⟨e1, e2⟩ := set7 h.res (.string ⟨#[]⟩) (.string ⟨#[]⟩) (.int .i64 0) (.int .i64 0) (.slice none 0 0) (.string ⟨#[]⟩) (.bool false)
  have hdT : deadR (requD (s.drop f) f) = true := by rw [hT]; exact dead_bind hd ff
  have hfT : Fitt x (requD (s.drop f) f) := by
    rw [hT]
    cases R with
    | bad a e => exact hx
    | more => exact hx
    | ok a r i => cases hd
  exact ⟨e1, Wo.toBelow h.bel e2 (fun k e => by omega) (by have := block_lt h.res; omega), fun _ => ⟨rfl, rfl, (codes_fit hfT).1, (codes_fit hfT).2, rfl, fun a e he => by rw [he] at hfT; exact hfT.2.1⟩, fun z r k e => absurd e (dead_nok hdT z r k)⟩
/-- Behind the headers: the message has its headers. -/
structure Tryz.RHq (w wx : World) (g : Nat) (s : List UInt8) (st : Nat) {β : Type} (R : Re β) (me ta : List UInt8) (v1 : Nat) (ad : Option Addr) (cap : Nat) (H : Hdl) (bo : List UInt8) (la : Bool) : Prop where
  rd : Tryz.RD w wx g s st 0 R (mCells me ta 0 v1 (.slice ad H.length cap) bo la)
  row : wx.ownsRow (g + 1 + 1 + 1) 57 2 (.slice ad H.length cap) H.length (hdCells H)
  h32 : H.length ≤ 32
  lens : ∀ x ∈ H, x.1.length ≤ s.length ∧ x.2.length ≤ s.length
theorem Tryz.RHq.call {w wx w' : World} {g : Nat} {s : List UInt8} {st st2 : Nat} {β γ : Type} {R : Re β} {S : Re γ} {me ta : List UInt8} {v1 : Nat} {ad : Option Addr} {cap : Nat} {H : Hdl} {bo : List UInt8} {la : Bool} (h : Tryz.RHq w wx g s st R me ta v1 ad cap H bo la) (hw : Wo (fun k => k = g + 1) wx w') (hs : Tryz.SS w' (g + 1) s st2 0 S) : Tryz.RHq w w' g s st2 S me ta v1 ad cap H bo la :=
  ⟨Tryz.RD.call h.rd hw hs, row_wo h.row (by omega) hw, h.h32, h.lens⟩
theorem Tryz.RHq.setm {w wx : World} {g : Nat} {s : List UInt8} {st : Nat} {β : Type} {R : Re β} {me ta : List UInt8} {v1 : Nat} {ad : Option Addr} {cap : Nat} {H : Hdl} {bo bo2 : List UInt8} {la la2 : Bool} (h : Tryz.RHq w wx g s st R me ta v1 ad cap H bo la) (j : Nat) (v : Value) (hC : (wx.setCell ⟨g + 1 + 1, j, none⟩ v).heap[g + 1 + 1]? = some (.cells (mCells me ta 0 v1 (.slice ad H.length cap) bo2 la2) 99 (0, 0))) : Tryz.RHq w (wx.setCell ⟨g + 1 + 1, j, none⟩ v) g s st R me ta v1 ad cap H bo2 la2 :=
  ⟨Tryz.RD.setm h.rd j v hC, row_wo (p := g + 1 + 1) h.row (by omega) ((Wo.refl _ _).setCell (g + 1 + 1) j v (.inl rfl)), h.h32, h.lens⟩
theorem Tryz.RHq.keep {w wx w' : World} {g : Nat} {s : List UInt8} {st : Nat} {β : Type} {R : Re β} {me ta : List UInt8} {v1 : Nat} {ad : Option Addr} {cap : Nat} {H : Hdl} {bo : List UInt8} {la : Bool} (h : Tryz.RHq w wx g s st R me ta v1 ad cap H bo la) (hb : Below wx.heap.size wx w') : Tryz.RHq w w' g s st R me ta v1 ad cap H bo la :=
  ⟨⟨by rw [hb.block _ (block_lt h.rd.res), h.rd.res], Tryz.SS.keep h.rd.ss (hb.block _ (Tryz.SS.lt h.rd.ss)), by rw [hb.block _ (block_lt h.rd.m), h.rd.m], h.rd.bel.trans (hb.mono (by have := block_lt h.rd.res; omega))⟩, row_past2 h.row hb, h.h32, h.lens⟩
/-- The message as it stands behind the first line, for the walk. -/
structure Tryz.LnQ (w wx : World) (g : Nat) (s : List UInt8) (st : Nat) (A : Re Unit) (me ta : List UInt8) (ver : Nat) : Prop where
  rd : Tryz.RD w wx g s st 2048 (Q5 (bnd st 2048) A) (mCells me ta 0 ver (.slice none 0 0) [] false)
  me : TxtOk s me (Q1 (bnd st 2048) A)
  ta : TxtOk s ta (Q3 (bnd st 2048) A)
  ver : NumOk ver 99 (Q5 (bnd st 2048) A)
/-- A head begins, wherever one stands. -/
theorem Tryz.SS.headAny {α : Type} {w : World} {p : Nat} {s : List UInt8} {st : Nat} {R : Re α} {i : Nat} (h : Tryz.SS w p s st 0 R) (hi : w.cell? ⟨p, 1, none⟩ = some (.int .i64 i)) : Tryz.SS ((w.setCell ⟨p, 2, none⟩ (.int .i64 i)).setCell ⟨p, 3, none⟩ (.int .i64 2048)) p s i 2048 R := by
  obtain ⟨x, h1, h2, h3⟩ := h.ex
  have g1 : Tryz.Sc (w.setCell ⟨p, 2, none⟩ (.int .i64 i)) p { x with start := i } := heap_setCell_same w p 2 _ _ (.int .i64 i) h1
  have g2 : Tryz.Sc ((w.setCell ⟨p, 2, none⟩ (.int .i64 i)).setCell ⟨p, 3, none⟩ (.int .i64 2048)) p { x with start := i, limit := 2048 } := heap_setCell_same _ p 3 _ _ (.int .i64 2048) g1
  have hx : x.i = i := by
    have e := (Tryz.Sc.c h1).2.1
    rw [hi] at e
    injection e with e
    injection e with _ e
    omega
  refine ⟨_, g2, ⟨h2.tx, rfl, rfl, h2.len, h2.i, Nat.le_of_eq hx.symm, Nat.le_refl _, fun _ => by show x.i ≤ i + 2048; omega⟩, ?_⟩
  cases R <;> exact h3
end Go.Proofs
