/-
  Laid together by packg.py of WsD WsE WsF WsG WsH.
-/
import Derived.Test.YtjiidkkmnlcpcaaGreatDoorPaS
import Derived.Test.YtjiidkkmnlcpcaaGreatDoorPWwA
import Derived.Test.YtjiidkkmnlcpcaaGreatDoorPaR
import Derived.Test.YtjiidkkmnlcpcaaGreatDoorPaY
namespace Go.Wb
open Go.RowKit Go.Wi Go.Proofs
/-- A number that was read, or another one. -/
def valR {α : Type} (d : α) : Re α → α
  | .ok a _ _ => a
  | _ => d
theorem digitD_cons' (b : Int) (d : UInt8) (r : List UInt8) (i : Nat) : digitD b (d :: r) i = if (i : Int) = b then .bad i 181 else if dig d then .ok (d.toNat - 48) r (i + 1) else .bad i 180 := rfl
theorem digit_pk {α : Type} (b : Int) : Pk b (fun (_ : α) r i => digitD b r i) := ⟨fun _ _ => rfl, fun _ d q i h => by rw [digitD_cons', if_pos h]⟩
theorem run_pk (b : Int) (p : UInt8 → Bool) : Pk b (fun acc r i => runD b p acc r i) := ⟨fun _ _ => rfl, fun _ d q i h => by rw [runD_cons, if_pos h]⟩
theorem val_dead {α β : Type} {R : Re α} {b : Int} {g : α → List UInt8 → Nat → Re β} (hb : byteR b R = -1) (hg : Pk b g) (d : β) : valR d (R.bind g) = d := by
  cases R with
  | bad a e => rfl
  | more => rfl
  | ok a r i =>
    cases r with
    | nil => show valR d (g a [] i) = d; rw [hg.nil]; rfl
    | cons c q =>
      by_cases hi : (i : Int) = b
      · show valR d (g a (c :: q) i) = d; rw [hg.bd _ _ _ _ hi]; rfl
      · have : byteR b (.ok a (c :: q) i) = ((c.toNat : Nat) : Int) := if_neg hi
        rw [this] at hb; omega
/-- Bytes of a kind, as they are read one by one. -/
structure Run (s : List UInt8) (i0 i : Nat) (b : Int) (p : UInt8 → Bool) (S T : Re (List UInt8)) : Prop where
  le : i0 ≤ i
  ac : ∀ a r j, S = .ok a r j → j = i ∧ a = (s.drop i0).take (i - i0)
  all : (S.bind fun acc r i => runD b p acc r i) = T
def placeN (w : World) (p : Nat) : Nat := match w.cell? ⟨p, 1, none⟩ with | some (.int _ z) => z.toNat | _ => 0
theorem placeN_of {w : World} {p i : Nat} (h : w.cell? ⟨p, 1, none⟩ = some (.int .i64 i)) : placeN w p = i := by unfold placeN; rw [h]; simp
theorem Run.move {s : List UInt8} {i0 i : Nat} {b : Int} {p : UInt8 → Bool} {a : List UInt8} {d : UInt8} {q : List UInt8} {T : Re (List UInt8)} (h : Run s i0 i b p (.ok a (d :: q) i) T) (hi : ¬ (i : Int) = b) (hp : p d = true) (hs : d :: q = s.drop i) : Run s i0 (i + 1) b p (.ok (a ++ [d]) q (i + 1)) T := by
  refine ⟨by have := h.le; omega, ?_, ?_⟩
  · rintro a2 r2 j2 ⟨⟩
    refine ⟨rfl, ?_⟩
    have h1 := (h.ac _ _ _ rfl).2
    have hl := h.le
    rw [h1, show i + 1 - i0 = (i - i0) + 1 by omega, List.take_add_one, List.getElem?_drop, show i0 + (i - i0) = i by omega]
    have : s[i]? = some d := by
      have e : (s.drop i)[0]? = some d := by rw [← hs]; rfl
      rwa [List.getElem?_drop, Nat.add_zero] at e
    rw [this]; rfl
  · rw [← h.all]
    show runD b p (a ++ [d]) q (i + 1) = runD b p a (d :: q) i
    rw [runD_cons, if_neg hi, if_pos hp]
theorem Run.stop {s : List UInt8} {i0 i : Nat} {b : Int} {p : UInt8 → Bool} {a : List UInt8} {d : UInt8} {q : List UInt8} {T : Re (List UInt8)} (h : Run s i0 i b p (.ok a (d :: q) i) T) (hi : ¬ (i : Int) = b) (hp : p d = false) : T = .ok a (d :: q) i := by
  rw [← h.all]
  show runD b p a (d :: q) i = _
  rw [runD_cons, if_neg hi, hp, if_neg (by decide)]
/-- A text of so many bytes; it is what was read, where reading goes on. -/
structure TxtOk (s v : List UInt8) (R : Re (List UInt8)) : Prop where
  le : v.length ≤ s.length
  is : ∀ a r j, R = .ok a r j → v = a
theorem ext_two (s : List UInt8) (i j : Nat) : (⟨s.toArray⟩ : ByteArray).extract i j = ⟨((s.drop i).take (j - i)).toArray⟩ := by
  apply ByteArray.ext
  simp [ByteArray.data_extract, List.extract_eq_take_drop]
end Go.Wb
namespace Go.Proofs
open Go.RowKit Go.Wi Go.Wb
set_option maxHeartbeats 1000000 in
set_option maxRecDepth 20000 in
theorem Tryz.rTok_neg (w : World) : Calls Tryz.prog 91 #[.int .i64 (-1)] w fun e w' => e = .returned (.bool false) ∧ w' = w := by
  go_enter Tryz.func91, Tryz.ntmps91
  go_wp2
  go_loopw [4] (fun iv wr => ∃ i : Nat, iv = .int .i64 i ∧ i ≤ 15 ∧ wr = w) (fun iv _ => 15 - (intOf iv).toNat)
  case atStart => exact ⟨0, rfl, Nat.zero_le _, rfl⟩
  case round =>
    obtain ⟨i, rfl, hi, rfl⟩ := hrel
    have HL : Hid (marks.length = 15) := (by show marks.length = 15; rfl)
    by_cases hlt : i < 15
    · have q : (i : Int) < (15 : Int) := by omega
      have hil : i < marks.length := by rw [HL.out]; exact hlt
      obtain ⟨d, hde⟩ : ∃ d, marks[i]'hil = d := ⟨_, rfl⟩
      have hix : ∀ h : i < (⟨#[33, 35, 36, 37, 38, 39, 42, 43, 45, 46, 94, 95, 96, 124, 126]⟩ : ByteArray).size, (⟨#[33, 35, 36, 37, 38, 39, 42, 43, 45, 46, 94, 95, 96, 124, 126]⟩ : ByteArray)[i]'h = d := fun h => (at_text hil h).trans hde
      have hwd : wrap64 ((d.toNat : Nat) : Int) = ((d.toNat : Nat) : Int) := wrap_u8 d
      have qd : (((d.toNat : Nat) : Int) == (-1 : Int)) = false := by simp only [beq_eq_false_iff_ne, ne_eq]; omega
      clear hde hil
      go_wp2
      go_roundw
      case rel => exact ⟨i + 1, by simp, by omega, trivial⟩
      case measure => simp [intOf]; omega
    · have q : ¬ (i : Int) < (15 : Int) := by omega
      go_wp2
      go_ret
      exact ⟨rfl, rfl⟩
set_option maxHeartbeats 1000000 in
theorem Tryz.rVal_neg (w : World) : Calls Tryz.prog 90 #[.int .i64 (-1)] w fun e w' => e = .returned (.bool false) ∧ w' = w := by
  go_enter Tryz.func90, Tryz.ntmps90
  go_wp2
  go_ret
  exact ⟨rfl, rfl⟩
set_option maxHeartbeats 1000000 in
theorem Tryz.rDig_any (c : UInt8) (w : World) : Calls Tryz.prog 89 #[.int .i64 c.toNat] w fun e w' => e = .returned (.bool (dig c)) ∧ w' = w := by
  have hd : dig c = (decide (48 ≤ c.toNat) && decide (c.toNat ≤ 57)) := rfl
  rw [hd]
  generalize c.toNat = n at *
  clear hd
  by_cases h2 : 48 ≤ n
  · have q2 : (48 : Int) ≤ (n : Int) := by omega
    rw [decide_eq_true h2, Bool.true_and]
    go_enter Tryz.func89, Tryz.ntmps89
    go_wp2
    go_ret
    exact ⟨by simp; omega, rfl⟩
  · have q2 : ¬ (48 : Int) ≤ (n : Int) := by omega
    rw [decide_eq_false h2, Bool.false_and]
    go_enter Tryz.func89, Tryz.ntmps89
    go_wp2
    go_ret
    exact ⟨rfl, rfl⟩
set_option maxRecDepth 20000 in
set_option maxHeartbeats 1000000 in
theorem Tryz.ssDigit {α : Type} {w : World} {p : Nat} {s : List UInt8} {st li : Nat} {R : Re α} (h : Tryz.SS w p s st li R) :
    Calls Tryz.prog 66 #[.pointer (some ⟨p, 0, none⟩)] w fun e w' => e = .returned (.int .i64 (valR 0 (R.bind fun _ r i => digitD (bnd st li) r i) : Nat)) ∧ Tryz.SS w' p s st li (R.bind fun _ r i => digitD (bnd st li) r i) ∧ Wo (fun k => k = p) w w' := by
  have k1 := Tryz.ssNext h
  rcases peek_cases (bnd st li) R with hb | ⟨a, d, q, i, rfl, hi, hb, hp⟩
  · rw [hb] at k1
    have HF : Hid (∀ w', Tryz.SS w' p s st li (peekR (bnd st li) R) → Tryz.SS w' p s st li (R.bind fun _ r i => digitD (bnd st li) r i)) := fun w' h => Tryz.SS.dead h hb (digit_pk _)
    have HV : Hid (valR 0 (R.bind fun _ r i => digitD (bnd st li) r i) = 0) := val_dead hb (digit_pk _) 0
    clear hb h
    go_enter Tryz.func66, Tryz.ntmps66
    go_wp2_with (first | (go_at_call 62; refine k1.mono ?_; clear k1; rintro e w1 ⟨rfl, h1, hw1, hc1⟩; clear hc1) | fail)
    go_ret
    exact ⟨by rw [HV.out]; rfl, HF.out _ h1, hw1⟩
  · rw [hb, hp] at k1
    have hlt := d.toNat_lt
    have q0 : ¬ ((d.toNat : Nat) : Int) < 0 := by omega
    have k3 := fun W => Tryz.rDig_any d W
    cases hd : dig d with
    | true =>
      rw [hd] at k3
      have HM : Hid (∀ w', Tryz.SS w' p s st li (.ok a (d :: q) i : Re α) → ∀ z : Int, z = (i : Int) + 1 → Tryz.SS (w'.setCell ⟨p, 1, none⟩ (.int .i64 z)) p s st li ((Re.ok a (d :: q) i : Re α).bind fun _ r i => digitD (bnd st li) r i)) := fun w' h z hz => (by
        rw [bind_ok_eq, digitD_cons', if_neg hi, hd, if_pos rfl]
        exact Tryz.SS.move h hi (d.toNat - 48) z hz)
      have HV : Hid (((valR 0 ((Re.ok a (d :: q) i : Re α).bind fun _ r i => digitD (bnd st li) r i) : Nat) : Int) = ((d.toNat : Nat) : Int) - 48) := (by
        show _ = _
        rw [bind_ok_eq, digitD_cons', if_neg hi, hd, if_pos rfl]
        show ((d.toNat - 48 : Nat) : Int) = _
        have : 48 ≤ d.toNat ∧ d.toNat ≤ 57 := by unfold dig at hd; simpa using hd
        omega)
      clear hb hp h hi hd
      go_enter Tryz.func66, Tryz.ntmps66
      go_wp2_with (first | (go_at_call 62; refine k1.mono ?_; clear k1; rintro e w1 ⟨rfl, h1, hw1, hc1⟩; clear hc1; have HS : Hid (∀ z : Int, z = (i : Int) + 1 → Tryz.SS (w1.setCell ⟨p, 1, none⟩ (.int .i64 z)) p s st li ((Re.ok a (d :: q) i : Re α).bind fun _ r i => digitD (bnd st li) r i)) := HM.out w1 h1; clear HM; have H1 := Tryz.SS.c h1; obtain ⟨c0, c1, fz, hil, hsl, _⟩ := H1; have f1 := fz 1; clear h1 fz c0) | (go_at_call 89; refine (k3 _).mono ?_; clear k3; rintro e w2 ⟨rfl, rfl⟩) | fail)
      go_ret
      exact ⟨by rw [HV.out]; rfl, HS.out _ rfl, hw1.setCell p 1 _ (.inl rfl)⟩
    | false =>
      rw [hd] at k3
      have HF : Hid (∀ w', Tryz.SS w' p s st li ((Re.ok a (d :: q) i : Re α).bind fun _ _ _ => (.bad i 180 : Re Nat)) → Tryz.SS w' p s st li ((Re.ok a (d :: q) i : Re α).bind fun _ r i => digitD (bnd st li) r i)) := fun w' h => (by
        rw [bind_ok_eq, digitD_cons', if_neg hi, hd, if_neg (by decide)]
        exact h)
      have HV : Hid (valR 0 ((Re.ok a (d :: q) i : Re α).bind fun _ r i => digitD (bnd st li) r i) = 0) := (by
        show _ = _
        rw [bind_ok_eq, digitD_cons', if_neg hi, hd, if_neg (by decide)]; rfl)
      clear hb hp h hi hd
      go_enter Tryz.func66, Tryz.ntmps66
      go_wp2_with (first | (go_at_call 62; refine k1.mono ?_; clear k1; rintro e w1 ⟨rfl, h1, hw1, hc1⟩; clear hc1; have k2 := Tryz.ssFail Nat h1 i 180 (by decide); have H1 := Tryz.SS.c h1; obtain ⟨c0, c1, fz, hil, hsl, _⟩ := H1; clear h1 fz c0) | (go_at_call 89; refine (k3 _).mono ?_; clear k3; rintro e w2 ⟨rfl, rfl⟩) | (go_at_call 67; refine k2.mono ?_; clear k2; rintro e w2 ⟨⟨v, rfl⟩, h2, hw2, hc2⟩; clear hc2) | fail)
      go_ret
      exact ⟨by rw [HV.out]; rfl, HF.out _ h2, hw1.trans hw2⟩
end Go.Proofs
namespace Go.Wb
open Go.RowKit Go.Wi Go.Proofs
theorem Run.start {α : Type} {R : Re α} {s : List UInt8} {i0 : Nat} {b : Int} {p : UInt8 → Bool} (h : ∀ a r j, R = .ok a r j → j = i0) : Run s i0 i0 b p (R.bind fun _ r i => .ok [] r i) (R.bind fun _ r i => runD b p [] r i) := by
  refine ⟨Nat.le_refl _, fun a r j e => ?_, by rw [bind_bind]; rfl⟩
  cases R with
  | bad a e2 => cases e
  | more => cases e
  | ok a2 r2 j2 =>
    injection e with e1 e2 e3
    exact ⟨by rw [← e3]; exact h _ _ _ rfl, by rw [← e1, Nat.sub_self]; rfl⟩
/-- Behind the bytes of a kind: what was read, and where one stands. -/
structure RunEnd (s : List UInt8) (i0 i : Nat) (T : Re (List UInt8)) : Prop where
  le : i0 ≤ i
  is : ∀ a r j, T = .ok a r j → j = i ∧ a = (s.drop i0).take (i - i0) ∧ i ≤ s.length
theorem run_dead {s : List UInt8} {i0 i : Nat} {b : Int} {p : UInt8 → Bool} {S T : Re (List UInt8)} (h : Run s i0 i b p S T) (hb : byteR b S = -1) : RunEnd s i0 i T := by
  refine ⟨h.le, fun a r j e => ?_⟩
  exfalso
  rw [← h.all] at e
  cases S with
  | bad a e2 => cases e
  | more => cases e
  | ok a2 r2 j2 =>
    cases r2 with
    | nil => cases e
    | cons d q =>
      by_cases hi : (j2 : Int) = b
      · have e2 : runD b p a2 (d :: q) j2 = .ok a r j := e
        rw [runD_cons, if_pos hi] at e2; cases e2
      · have : byteR b (.ok a2 (d :: q) j2) = ((d.toNat : Nat) : Int) := if_neg hi
        rw [this] at hb; omega
theorem tokenD_bind {α : Type} (R : Re α) (b : Int) : (R.bind fun _ r i => tokenD b r i) = (R.bind fun _ r i => runD b tok [] r i).bind fun a r j => if a = [] then .bad j 180 else .ok a r j := by cases R <;> rfl
/-- Nothing was read. -/
theorem token_none {s : List UInt8} {i0 : Nat} {T : Re (List UInt8)} (h : RunEnd s i0 i0 T) : (T.bind fun a r j => if a = [] then (.bad j 180 : Re (List UInt8)) else .ok a r j) = T.bind fun _ _ _ => .bad i0 180 := by
  cases T with
  | bad a e => rfl
  | more => rfl
  | ok a r j =>
    obtain ⟨h1, h2, _⟩ := h.is _ _ _ rfl
    show (if a = [] then _ else _) = _
    rw [if_pos (by rw [h2, Nat.sub_self]; rfl), h1]; rfl
theorem token_some {s : List UInt8} {i0 i : Nat} {T : Re (List UInt8)} (h : RunEnd s i0 i T) (hi : ¬ i = i0) : (T.bind fun a r j => if a = [] then (.bad j 180 : Re (List UInt8)) else .ok a r j) = T := by
  cases T with
  | bad a e => rfl
  | more => rfl
  | ok a r j =>
    obtain ⟨h1, h2, h3⟩ := h.is _ _ _ rfl
    have hl := h.le
    show (if a = [] then _ else _) = _
    rw [if_neg]
    intro e
    have : a.length = i - i0 := by rw [h2, List.length_take, List.length_drop]; omega
    rw [e] at this
    simp at this
    omega
theorem txt_ok {s : List UInt8} {i0 i : Nat} {T : Re (List UInt8)} (h : RunEnd s i0 i T) : TxtOk s ((s.drop i0).take (i - i0)) T :=
  ⟨by rw [List.length_take, List.length_drop]; omega, fun a r j e => (h.is _ _ _ e).2.1.symm⟩
end Go.Wb
namespace Go.Proofs
open Go.RowKit Go.Wi Go.Wb
set_option maxRecDepth 20000 in
set_option maxHeartbeats 2000000 in
theorem Tryz.ssBytes {α : Type} {w : World} {p : Nat} {s : List UInt8} {st li : Nat} {R : Re α} (h : Tryz.SS w p s st li R) :
    Calls Tryz.prog 68 #[.pointer (some ⟨p, 0, none⟩)] w fun e w' => ∃ v : List UInt8, e = .returned (.string ⟨v.toArray⟩) ∧ TxtOk s v (R.bind fun _ r i => bytesD (bnd st li) r i) ∧ Tryz.SS w' p s st li (R.bind fun _ r i => bytesD (bnd st li) r i) ∧ Wo (fun k => k = p) w w' := by
  obtain ⟨i0, c0, c1, fz, hil, hsl, hj⟩ := Tryz.SS.place h
  obtain ⟨T, hT⟩ : ∃ T, (R.bind fun _ r i => runD (bnd st li) txt [] r i) = T := ⟨_, rfl⟩
  have HT : Hid ((R.bind fun _ r i => bytesD (bnd st li) r i) = T) := (by show _ = _; rw [← hT]; rfl)
  have hr := Run.start (s := s) (b := bnd st li) (p := txt) hj
  rw [hT] at hr
  have HR : Hid (Run s i0 i0 (bnd st li) txt (R.bind fun _ r i => .ok [] r i) T) := hr
  have HS : Hid (Tryz.SS w p s st li (R.bind fun _ r i => (.ok [] r i : Re (List UInt8)))) := (by
    obtain ⟨x, h1, h2, h3⟩ := h.ex
    refine ⟨x, h1, h2, ?_⟩
    cases R <;> exact h3)
  have HC : Hid (w.cell? ⟨p, 1, none⟩ = some (.int .i64 i0)) := c1
  clear h hr hT hj c0 fz
  go_enter Tryz.func68, Tryz.ntmps68
  go_wp2
  clear c1
  go_loopw [4, 5] (fun _ _ wr => ∃ (S : Re (List UInt8)) (i : Nat), Tryz.SS wr p s st li S ∧ wr.cell? ⟨p, 1, none⟩ = some (.int .i64 i) ∧ Run s i0 i (bnd st li) txt S T ∧ i ≤ s.length ∧ Wo (fun k => k = p) w wr) (fun _ _ wr => s.length - placeN wr p)
  case atStart => exact ⟨_, i0, HS.out, HC.out, HR.out, hil, Wo.refl _ _⟩
  case round =>
    obtain ⟨S, i, h1, h2, h3, h4, h5⟩ := hrel
    clear HC HR HS
    have HW : Hid (Wo (fun k => k = p) w wr) := h5
    have k1 := Tryz.ssNext h1
    rcases peek_cases (bnd st li) S with hb | ⟨a, d, q, j, rfl, hi, hb, hp⟩
    · rw [hb] at k1
      have HE : Hid (RunEnd s i0 i T) := run_dead h3 hb
      have HF : Hid (∀ w', Tryz.SS w' p s st li (peekR (bnd st li) S) → Tryz.SS w' p s st li T) := fun w' h => (by rw [← h3.all]; exact Tryz.SS.dead h hb (run_pk _ _))
      have k3 := fun W => Tryz.rVal_neg W
      have hle := h3.le
      clear hb h1 h3 h5
      go_wp2_with (first | (go_at_call 62; refine k1.mono ?_; clear k1; rintro e w1 ⟨rfl, g1, hw1, hc1⟩; have c1 : w1.cell? ⟨p, 1, none⟩ = some (.int .i64 i) := hc1.trans h2; have HG : Hid (Tryz.SS w1 p s st li T) := HF.out w1 g1; clear HF hc1 h2; obtain ⟨i2, c0, _, _⟩ := Tryz.SS.place g1; clear g1) | (go_at_call 90; refine (k3 _).mono ?_; clear k3; rintro e w2 ⟨rfl, rfl⟩) | fail)
      have q1 : (i0 : Int) ≤ (i : Int) := by omega
      have hz : (⟨s.toArray⟩ : ByteArray).size = s.length := text_size s
      go_quiet (fail)
      go_wp2
      go_ret
      exact ⟨_, by rw [ext_two]; rfl, by rw [HT.out]; exact txt_ok HE.out, by rw [HT.out]; exact Tryz.SS.drewN HG.out _, (HW.out.trans hw1).drewN _⟩
    · obtain ⟨rfl, ha⟩ := h3.ac _ _ _ rfl
      rw [hb, hp] at k1
      have k3 := fun W => Tryz.rVal_any d W
      have hle := h3.le
      have hds := (Tryz.SS.c h1).2.2.2.2.2
      cases hd : txt d with
      | true =>
        rw [hd] at k3
        have HN : Hid (Run s i0 (j + 1) (bnd st li) txt (.ok (a ++ [d]) q (j + 1)) T) := h3.move hi hd hds
        have HM : Hid (∀ w', Tryz.SS w' p s st li (.ok a (d :: q) j : Re (List UInt8)) → ∀ z : Int, z = (j : Int) + 1 → Tryz.SS (w'.setCell ⟨p, 1, none⟩ (.int .i64 z)) p s st li (.ok (a ++ [d]) q (j + 1) : Re (List UInt8))) := fun w' h z hz => Tryz.SS.move h hi (a ++ [d]) z hz
        have hjl : j + 1 ≤ s.length := by
          rcases Nat.lt_or_ge j s.length with e | e
          · exact e
          · rw [List.drop_eq_nil_iff.2 e] at hds; cases hds
        have HP : Hid (placeN wr p = j) := placeN_of h2
        clear hb hp h1 h3 h5 hi hds hd h2 h4 ha
        go_wp2_with (first | (go_at_call 62; refine k1.mono ?_; clear k1; rintro e w1 ⟨rfl, g1, hw1, hc1⟩; clear hc1; have HS : Hid (∀ z : Int, z = (j : Int) + 1 → Tryz.SS (w1.setCell ⟨p, 1, none⟩ (.int .i64 z)) p s st li (.ok (a ++ [d]) q (j + 1) : Re (List UInt8))) := HM.out w1 g1; clear HM; have H1 := Tryz.SS.c g1; obtain ⟨c0, c1, fz, _, _, hdd⟩ := H1; have f1 := fz 1; clear g1 fz c0 hdd) | (go_at_call 90; refine (k3 _).mono ?_; clear k3; rintro e w2 ⟨rfl, rfl⟩) | fail)
        go_roundw
        case rel => exact ⟨_, j + 1, HS.out _ rfl, (Tryz.SS.c (HS.out _ rfl)).2.1, HN.out, hjl, (HW.out.trans hw1).setCell p 1 _ (.inl rfl)⟩
        case measure =>
          rw [placeN_of (Tryz.SS.c (HS.out _ rfl)).2.1, HP.out]
          omega
      | false =>
        rw [hd] at k3
        have hTT := h3.stop hi hd
        have HE : Hid (RunEnd s i0 j T) := ⟨hle, fun a2 r2 j2 e => by rw [hTT] at e; injection e with e1 e2 e3; exact ⟨e3.symm, by rw [← e1]; exact ha, h4⟩⟩
        have HF : Hid (∀ w', Tryz.SS w' p s st li (.ok a (d :: q) j : Re (List UInt8)) → Tryz.SS w' p s st li T) := fun w' h => (by rw [hTT]; exact h)
        clear hb hp h1 h3 h5 hi hds hd h2 hTT ha
        have q1 : (i0 : Int) ≤ (j : Int) := by omega
        have hz : (⟨s.toArray⟩ : ByteArray).size = s.length := text_size s
        go_upto_region 5 with (first | (go_at_call 62; refine k1.mono ?_; clear k1; rintro e w1 ⟨rfl, g1, hw1, hc1⟩; clear hc1; have HG : Hid (Tryz.SS w1 p s st li T) := HF.out w1 g1; clear HF; obtain ⟨c0, c1, fz, _, _, hdd⟩ := Tryz.SS.c g1; clear g1 fz hdd) | (go_at_call 90; refine (k3 _).mono ?_; clear k3; rintro e w2 ⟨rfl, rfl⟩) | fail)
        go_quiet (fail)
        go_wp2
        go_ret
        exact ⟨_, by rw [ext_two]; rfl, by rw [HT.out]; exact txt_ok HE.out, by rw [HT.out]; exact Tryz.SS.drewN HG.out _, (HW.out.trans hw1).drewN _⟩
set_option maxRecDepth 20000 in
set_option maxHeartbeats 2000000 in
theorem Tryz.ssToken {α : Type} {w : World} {p : Nat} {s : List UInt8} {st li : Nat} {R : Re α} (h : Tryz.SS w p s st li R) :
    Calls Tryz.prog 69 #[.pointer (some ⟨p, 0, none⟩)] w fun e w' => ∃ v : List UInt8, e = .returned (.string ⟨v.toArray⟩) ∧ TxtOk s v (R.bind fun _ r i => tokenD (bnd st li) r i) ∧ Tryz.SS w' p s st li (R.bind fun _ r i => tokenD (bnd st li) r i) ∧ Wo (fun k => k = p) w w' := by
  obtain ⟨i0, c0, c1, fz, hil, hsl, hj⟩ := Tryz.SS.place h
  obtain ⟨T, hT⟩ : ∃ T, (R.bind fun _ r i => runD (bnd st li) tok [] r i) = T := ⟨_, rfl⟩
  have HT : Hid ((R.bind fun _ r i => tokenD (bnd st li) r i) = T.bind fun a r j => if a = [] then (.bad j 180 : Re (List UInt8)) else .ok a r j) := (by show _ = _; rw [← hT]; exact tokenD_bind R _)
  have hr := Run.start (s := s) (b := bnd st li) (p := tok) hj
  rw [hT] at hr
  have HR : Hid (Run s i0 i0 (bnd st li) tok (R.bind fun _ r i => .ok [] r i) T) := hr
  have HS : Hid (Tryz.SS w p s st li (R.bind fun _ r i => (.ok [] r i : Re (List UInt8)))) := (by
    obtain ⟨x, h1, h2, h3⟩ := h.ex
    refine ⟨x, h1, h2, ?_⟩
    cases R <;> exact h3)
  have HC : Hid (w.cell? ⟨p, 1, none⟩ = some (.int .i64 i0)) := c1
  clear h hr hT hj c0 fz
  go_enter Tryz.func69, Tryz.ntmps69
  go_wp2
  clear c1
  go_loopw [4, 5] (fun _ _ wr => ∃ (S : Re (List UInt8)) (i : Nat), Tryz.SS wr p s st li S ∧ wr.cell? ⟨p, 1, none⟩ = some (.int .i64 i) ∧ Run s i0 i (bnd st li) tok S T ∧ i ≤ s.length ∧ Wo (fun k => k = p) w wr) (fun _ _ wr => s.length - placeN wr p)
  case atStart => exact ⟨_, i0, HS.out, HC.out, HR.out, hil, Wo.refl _ _⟩
  case round =>
    obtain ⟨S, i, h1, h2, h3, h4, h5⟩ := hrel
    clear HC HR HS
    have HW : Hid (Wo (fun k => k = p) w wr) := h5
    have k1 := Tryz.ssNext h1
    rcases peek_cases (bnd st li) S with hb | ⟨a, d, q, j, rfl, hi, hb, hp⟩
    · rw [hb] at k1
      have HE : Hid (RunEnd s i0 i T) := run_dead h3 hb
      have HF : Hid (∀ w', Tryz.SS w' p s st li (peekR (bnd st li) S) → Tryz.SS w' p s st li T) := fun w' h => (by rw [← h3.all]; exact Tryz.SS.dead h hb (run_pk _ _))
      have k3 := fun W => Tryz.rTok_neg W
      have hle := h3.le
      clear hb h1 h3 h5
      have hz : (⟨s.toArray⟩ : ByteArray).size = s.length := text_size s
      by_cases hii : i = i0
      · subst hii
        have HY : Hid ((R.bind fun _ r i => tokenD (bnd st li) r i) = T.bind fun _ _ _ => .bad i 180) := HT.out.trans (token_none HE.out)
        have q5 : (((i : Nat) : Int) == (i : Int)) = true := by simp
        have q1 : (i : Int) ≤ (i : Int) := Int.le_refl _
        go_upto_region 8 with (first | (go_at_call 62; refine k1.mono ?_; clear k1; rintro e w1 ⟨rfl, g1, hw1, hc1⟩; have c1 : w1.cell? ⟨p, 1, none⟩ = some (.int .i64 i) := hc1.trans h2; have HG : Hid (Tryz.SS w1 p s st li T) := HF.out w1 g1; clear HF hc1 h2; obtain ⟨i2, c0, hx, hy⟩ := Tryz.SS.place g1; clear g1 hx hy; have k2 := Tryz.ssFail (List UInt8) HG.out i 180 (by decide)) | (go_at_call 91; refine (k3 _).mono ?_; clear k3; rintro e w2 ⟨rfl, rfl⟩) | (go_at_call 67; refine k2.mono ?_; clear k2 c0; rintro e w3 ⟨⟨v3, rfl⟩, g3, hw3, hc3⟩; have c3 : w3.cell? ⟨p, 1, none⟩ = some (.int .i64 i) := hc3.trans c1; clear hc3 c1; obtain ⟨i3, c0, hx3, hy3⟩ := Tryz.SS.place g3; clear hx3 hy3) | fail)
        go_quiet (fail)
        go_wp2
        go_ret
        exact ⟨[], rfl, ⟨Nat.zero_le _, fun a r j e => by rw [HY.out] at e; cases T <;> cases e⟩, by rw [HY.out]; exact Tryz.SS.drewN g3 _, ((HW.out.trans hw1).trans hw3).drewN _⟩
      · have HY : Hid ((R.bind fun _ r i => tokenD (bnd st li) r i) = T) := HT.out.trans (token_some HE.out hii)
        have q5 : (((i : Nat) : Int) == (i0 : Int)) = false := by simp; omega
        have q1 : (i0 : Int) ≤ (i : Int) := by omega
        go_upto_region 8 with (first | (go_at_call 62; refine k1.mono ?_; clear k1; rintro e w1 ⟨rfl, g1, hw1, hc1⟩; have c1 : w1.cell? ⟨p, 1, none⟩ = some (.int .i64 i) := hc1.trans h2; have HG : Hid (Tryz.SS w1 p s st li T) := HF.out w1 g1; clear HF hc1 h2; obtain ⟨i2, c0, hx, hy⟩ := Tryz.SS.place g1; clear g1 hx hy; have k2 := Tryz.ssFail (List UInt8) HG.out i 180 (by decide)) | (go_at_call 91; refine (k3 _).mono ?_; clear k3; rintro e w2 ⟨rfl, rfl⟩) | fail)
        clear k2
        go_quiet (fail)
        go_wp2
        go_ret
        exact ⟨_, by rw [ext_two]; rfl, by rw [HY.out]; exact txt_ok HE.out, by rw [HY.out]; exact Tryz.SS.drewN HG.out _, (HW.out.trans hw1).drewN _⟩
    · obtain ⟨rfl, ha⟩ := h3.ac _ _ _ rfl
      rw [hb, hp] at k1
      have k3 := fun W => Tryz.rTok_any d W
      have hle := h3.le
      have hds := (Tryz.SS.c h1).2.2.2.2.2
      cases hd : tok d with
      | true =>
        rw [hd] at k3
        have HN : Hid (Run s i0 (j + 1) (bnd st li) tok (.ok (a ++ [d]) q (j + 1)) T) := h3.move hi hd hds
        have HM : Hid (∀ w', Tryz.SS w' p s st li (.ok a (d :: q) j : Re (List UInt8)) → ∀ z : Int, z = (j : Int) + 1 → Tryz.SS (w'.setCell ⟨p, 1, none⟩ (.int .i64 z)) p s st li (.ok (a ++ [d]) q (j + 1) : Re (List UInt8))) := fun w' h z hz => Tryz.SS.move h hi (a ++ [d]) z hz
        have hjl : j + 1 ≤ s.length := by
          rcases Nat.lt_or_ge j s.length with e | e
          · exact e
          · rw [List.drop_eq_nil_iff.2 e] at hds; cases hds
        have HP : Hid (placeN wr p = j) := placeN_of h2
        clear hb hp h1 h3 h5 hi hds hd h2 h4 ha
        go_wp2_with (first | (go_at_call 62; refine k1.mono ?_; clear k1; rintro e w1 ⟨rfl, g1, hw1, hc1⟩; clear hc1; have HS : Hid (∀ z : Int, z = (j : Int) + 1 → Tryz.SS (w1.setCell ⟨p, 1, none⟩ (.int .i64 z)) p s st li (.ok (a ++ [d]) q (j + 1) : Re (List UInt8))) := HM.out w1 g1; clear HM; have H1 := Tryz.SS.c g1; obtain ⟨c0, c1, fz, _, _, hdd⟩ := H1; have f1 := fz 1; clear g1 fz c0 hdd) | (go_at_call 91; refine (k3 _).mono ?_; clear k3; rintro e w2 ⟨rfl, rfl⟩) | fail)
        go_roundw
        case rel => exact ⟨_, j + 1, HS.out _ rfl, (Tryz.SS.c (HS.out _ rfl)).2.1, HN.out, hjl, (HW.out.trans hw1).setCell p 1 _ (.inl rfl)⟩
        case measure =>
          rw [placeN_of (Tryz.SS.c (HS.out _ rfl)).2.1, HP.out]
          omega
      | false =>
        rw [hd] at k3
        have hTT := h3.stop hi hd
        have HE : Hid (RunEnd s i0 j T) := ⟨hle, fun a2 r2 j2 e => by rw [hTT] at e; injection e with e1 e2 e3; exact ⟨e3.symm, by rw [← e1]; exact ha, h4⟩⟩
        have HF : Hid (∀ w', Tryz.SS w' p s st li (.ok a (d :: q) j : Re (List UInt8)) → Tryz.SS w' p s st li T) := fun w' h => (by rw [hTT]; exact h)
        clear hb hp h1 h3 h5 hi hds hd h2 hTT ha
        have hz : (⟨s.toArray⟩ : ByteArray).size = s.length := text_size s
        by_cases hii : j = i0
        · subst hii
          have HY : Hid ((R.bind fun _ r i => tokenD (bnd st li) r i) = T.bind fun _ _ _ => .bad j 180) := HT.out.trans (token_none HE.out)
          have q5 : (((j : Nat) : Int) == (j : Int)) = true := by simp
          have q1 : (j : Int) ≤ (j : Int) := Int.le_refl _
          go_upto_region 8 with (first | (go_at_call 62; refine k1.mono ?_; clear k1; rintro e w1 ⟨rfl, g1, hw1, hc1⟩; clear hc1; have HG : Hid (Tryz.SS w1 p s st li T) := HF.out w1 g1; clear HF; obtain ⟨c0, c1, fz, _, _, hdd⟩ := Tryz.SS.c g1; clear g1 fz hdd; have k2 := Tryz.ssFail (List UInt8) HG.out j 180 (by decide)) | (go_at_call 91; refine (k3 _).mono ?_; clear k3; rintro e w2 ⟨rfl, rfl⟩) | (go_at_call 67; refine k2.mono ?_; clear k2 c0; rintro e w3 ⟨⟨v3, rfl⟩, g3, hw3, hc3⟩; have c3 : w3.cell? ⟨p, 1, none⟩ = some (.int .i64 j) := hc3.trans c1; clear hc3 c1; obtain ⟨i3, c0, hx3, hy3⟩ := Tryz.SS.place g3; clear hx3 hy3) | fail)
          go_quiet (fail)
          go_wp2
          go_ret
          exact ⟨[], rfl, ⟨Nat.zero_le _, fun a r j e => by rw [HY.out] at e; cases T <;> cases e⟩, by rw [HY.out]; exact Tryz.SS.drewN g3 _, ((HW.out.trans hw1).trans hw3).drewN _⟩
        · have HY : Hid ((R.bind fun _ r i => tokenD (bnd st li) r i) = T) := HT.out.trans (token_some HE.out hii)
          have q5 : (((j : Nat) : Int) == (i0 : Int)) = false := by simp; omega
          have q1 : (i0 : Int) ≤ (j : Int) := by omega
          go_upto_region 8 with (first | (go_at_call 62; refine k1.mono ?_; clear k1; rintro e w1 ⟨rfl, g1, hw1, hc1⟩; clear hc1; have HG : Hid (Tryz.SS w1 p s st li T) := HF.out w1 g1; clear HF; obtain ⟨c0, c1, fz, _, _, hdd⟩ := Tryz.SS.c g1; clear g1 fz hdd; have k2 := Tryz.ssFail (List UInt8) HG.out j 180 (by decide)) | (go_at_call 91; refine (k3 _).mono ?_; clear k3; rintro e w2 ⟨rfl, rfl⟩) | fail)
          clear k2
          go_quiet (fail)
          go_wp2
          go_ret
          exact ⟨_, by rw [ext_two]; rfl, by rw [HY.out]; exact txt_ok HE.out, by rw [HY.out]; exact Tryz.SS.drewN HG.out _, (HW.out.trans hw1).drewN _⟩
end Go.Proofs
namespace Go.Wb
open Go.RowKit Go.Wi Go.Proofs
def http : List UInt8 := [72, 84, 84, 80, 47]
/-- Some bytes that must stand there, one behind the other. -/
def mus (b : Int) (l : List UInt8) (S : Re Unit) : Re Unit := l.foldl (fun S c => S.bind fun _ r i => mustD b c r i) S
theorem mus_next (b : Int) (k : Nat) (S : Re Unit) (h : k < http.length) : mus b (http.take (k + 1)) S = (mus b (http.take k) S).bind fun _ r i => mustD b http[k] r i := by
  unfold mus
  rw [List.take_add_one, List.getElem?_eq_getElem h, List.foldl_append]
  rfl
/-- A version, behind its first digit. -/
def versR (b : Int) (i0 : Nat) (A : Re Nat) : Re Nat := A.bind fun x r j => (mustD b 46 r j).bind fun _ r j => (digitD b r j).bind fun y r j => if x ≠ 1 ∨ 1 < y then .bad i0 184 else .ok (10 * x + y) r j
theorem version_is {α : Type} {R : Re α} {b : Int} {i0 : Nat} (h : ∀ a r j, R = .ok a r j → j = i0) : (R.bind fun _ r i => versionD b r i) = versR b i0 ((mus b http (R.bind fun _ r i => .ok () r i)).bind fun _ r i => digitD b r i) := by
  cases R with
  | bad a e => rfl
  | more => rfl
  | ok a r i =>
    obtain rfl := h _ _ _ rfl
    show versionD b r i = _
    unfold versionD versR mus http
    simp only [List.foldl_cons, List.foldl_nil, bind_bind]
    rfl
theorem vers_fail {b : Int} {i0 : Nat} {A : Re Nat} (h : valR 0 A ≠ 1 ∨ 1 < valR 0 ((A.bind fun _ r j => mustD b 46 r j).bind fun _ r j => digitD b r j)) : versR b i0 A = ((A.bind fun _ r j => mustD b 46 r j).bind fun _ r j => digitD b r j).bind fun _ _ _ => .bad i0 184 := by
  cases A with
  | bad a e => rfl
  | more => rfl
  | ok x r j =>
    show (mustD b 46 r j).bind _ = _
    rw [bind_ok_eq] at h ⊢
    cases hm : mustD b 46 r j with
    | bad a e => rfl
    | more => rfl
    | ok u r2 j2 =>
      rw [hm, bind_ok_eq] at h
      rw [bind_ok_eq, bind_ok_eq]
      cases hd : digitD b r2 j2 with
      | bad a e => rfl
      | more => rfl
      | ok y r3 j3 =>
        rw [hd] at h
        rw [bind_ok_eq, bind_ok_eq]
        exact if_pos h
theorem vers_ok {b : Int} {i0 : Nat} {A : Re Nat} (h : ¬ (valR 0 A ≠ 1 ∨ 1 < valR 0 ((A.bind fun _ r j => mustD b 46 r j).bind fun _ r j => digitD b r j))) : versR b i0 A = ((A.bind fun _ r j => mustD b 46 r j).bind fun _ r j => digitD b r j).bind fun _ r j => .ok (10 * valR 0 A + valR 0 ((A.bind fun _ r j => mustD b 46 r j).bind fun _ r j => digitD b r j)) r j := by
  cases A with
  | bad a e => rfl
  | more => rfl
  | ok x r j =>
    show (mustD b 46 r j).bind _ = _
    rw [bind_ok_eq] at h ⊢
    cases hm : mustD b 46 r j with
    | bad a e => rfl
    | more => rfl
    | ok u r2 j2 =>
      rw [hm, bind_ok_eq] at h
      rw [bind_ok_eq, bind_ok_eq]
      cases hd : digitD b r2 j2 with
      | bad a e => rfl
      | more => rfl
      | ok y r3 j3 =>
        rw [hd] at h
        rw [bind_ok_eq, bind_ok_eq]
        exact if_neg h
theorem digit_val {α : Type} (b : Int) (R : Re α) : valR 0 (R.bind fun _ r i => digitD b r i) ≤ 9 := by
  cases R with
  | bad a e => exact Nat.zero_le _
  | more => exact Nat.zero_le _
  | ok a r i =>
    rw [bind_ok_eq]
    cases r with
    | nil => exact Nat.zero_le _
    | cons d q =>
      rw [digitD_cons']
      by_cases h1 : (i : Int) = b
      · rw [if_pos h1]; exact Nat.zero_le _
      · rw [if_neg h1]
        cases hd : dig d with
        | false => rw [if_neg (by decide)]; exact Nat.zero_le _
        | true =>
          rw [if_pos rfl]
          have : 48 ≤ d.toNat ∧ d.toNat ≤ 57 := by unfold dig at hd; simpa using hd
          show d.toNat - 48 ≤ 9
          omega
/-- A number that was read, where reading goes on; a small one at all events. -/
structure NumOk (v most : Nat) (R : Re Nat) : Prop where
  le : v ≤ most
  is : ∀ a r j, R = .ok a r j → v = a
end Go.Wb
namespace Go.Proofs
open Go.RowKit Go.Wi Go.Wb
theorem Tryz.SS.val {α β : Type} {w : World} {p : Nat} {s : List UInt8} {st li : Nat} {R : Re α} (h : Tryz.SS w p s st li R) (v : β) : Tryz.SS w p s st li (R.bind fun _ r i => (.ok v r i : Re β)) := by
  obtain ⟨x, h1, h2, h3⟩ := h.ex
  refine ⟨x, h1, h2, ?_⟩
  cases R <;> exact h3
set_option maxRecDepth 20000 in
set_option maxHeartbeats 2000000 in
theorem Tryz.ssVersion {α : Type} {w : World} {p : Nat} {s : List UInt8} {st li : Nat} {R : Re α} (h : Tryz.SS w p s st li R) :
    Calls Tryz.prog 64 #[.pointer (some ⟨p, 0, none⟩)] w fun e w' => ∃ v : Nat, e = .returned (.int .i64 v) ∧ NumOk v 99 (R.bind fun _ r i => versionD (bnd st li) r i) ∧ Tryz.SS w' p s st li (R.bind fun _ r i => versionD (bnd st li) r i) ∧ Wo (fun k => k = p) w w' := by
  obtain ⟨i0, c0, c1, fz, hil, hsl, hj⟩ := Tryz.SS.place h
  obtain ⟨A, hA⟩ : ∃ A, ((mus (bnd st li) http (R.bind fun _ r i => .ok () r i)).bind fun _ r i => digitD (bnd st li) r i) = A := ⟨_, rfl⟩
  have HT : Hid ((R.bind fun _ r i => versionD (bnd st li) r i) = versR (bnd st li) i0 A) := (by show _ = _; rw [← hA]; exact version_is hj)
  have HA : Hid (((mus (bnd st li) http (R.bind fun _ r i => .ok () r i)).bind fun _ r i => digitD (bnd st li) r i) = A) := hA
  have HS : Hid (Tryz.SS w p s st li (mus (bnd st li) (http.take 0) (R.bind fun _ r i => (.ok () r i : Re Unit)))) := Tryz.SS.val h ()
  generalize (R.bind fun _ r i => (.ok () r i : Re Unit)) = S0 at *
  clear h hj c0 fz hA
  go_enter Tryz.func64, Tryz.ntmps64
  go_wp2
  clear c1
  go_loopw [5] (fun kv wr => ∃ k : Nat, kv = .int .i64 k ∧ k ≤ 5 ∧ Tryz.SS wr p s st li (mus (bnd st li) (http.take k) S0) ∧ Wo (fun k => k = p) w wr) (fun kv _ => 5 - (intOf kv).toNat)
  case atStart => exact ⟨0, rfl, by decide, HS.out, Wo.refl _ _⟩
  case round =>
    obtain ⟨k, rfl, hk, h1, h2⟩ := hrel
    have HW : Hid (Wo (fun k => k = p) w wr) := h2
    clear HS h2
    by_cases hlt : k < 5
    · have q : (k : Int) < 5 := by omega
      have hkl : k < http.length := hlt
      obtain ⟨d, hd⟩ : ∃ d, http[k]'hkl = d := ⟨_, rfl⟩
      have hix : ∀ h : k < (⟨#[72, 84, 84, 80, 47]⟩ : ByteArray).size, (⟨#[72, 84, 84, 80, 47]⟩ : ByteArray)[k]'h = d := fun h => (at_txt hkl h).trans hd
      have hwd : wrap64 ((d.toNat : Nat) : Int) = ((d.toNat : Nat) : Int) := wrap_u8 d
      have k1 := Tryz.ssMust h1 d
      have HN : Hid (mus (bnd st li) (http.take (k + 1)) S0 = (mus (bnd st li) (http.take k) S0).bind fun _ r i => mustD (bnd st li) d r i) := (by show _ = _; rw [mus_next _ _ _ hkl, hd])
      clear hd hkl h1 hlt
      go_wp2_with (first | (go_at_call 65; refine k1.mono ?_; clear k1; rintro e w1 ⟨⟨v, rfl⟩, g1, hw1, hc1⟩; clear hc1) | fail)
      go_roundw
      case rel => exact ⟨k + 1, by simp, by omega, by rw [HN.out]; exact g1, HW.out.trans hw1⟩
      case measure => simp [intOf]; omega
    · have q : ¬ (k : Int) < 5 := by omega
      obtain rfl : k = 5 := by omega
      have h1' : Tryz.SS wr p s st li (mus (bnd st li) http S0) := h1
      have k1 := Tryz.ssDigit h1'
      rw [HA.out] at k1
      have hx9 : valR 0 A ≤ 9 := by rw [← HA.out]; exact digit_val _ _
      clear h1 h1' HA hlt hk
      obtain ⟨x, hx⟩ : ∃ x, valR 0 A = x := ⟨_, rfl⟩
      obtain ⟨y, hy⟩ : ∃ y, valR 0 ((A.bind fun _ r j => mustD (bnd st li) 46 r j).bind fun _ r j => digitD (bnd st li) r j) = y := ⟨_, rfl⟩
      have hy9 : y ≤ 9 := by rw [← hy]; exact digit_val _ _
      have HX : Hid (valR 0 A = x) := hx
      have HY : Hid (valR 0 ((A.bind fun _ r j => mustD (bnd st li) 46 r j).bind fun _ r j => digitD (bnd st li) r j) = y) := hy
      rw [hx] at hx9 k1
      clear hx hy
      by_cases hf : x ≠ 1 ∨ 1 < y
      · have HF : Hid (versR (bnd st li) i0 A = ((A.bind fun _ r j => mustD (bnd st li) 46 r j).bind fun _ r j => digitD (bnd st li) r j).bind fun _ _ _ => .bad i0 184) := vers_fail (by rw [HX.out, HY.out]; exact hf)
        by_cases hx1 : x = 1
        · have q1 : ((x : Int) != 1) = false := by rw [hx1]; rfl
          have q2 : (1 : Int) < (y : Int) := by omega
          clear hf hx1
          go_wp2_with (first | (go_at_call 66; refine k1.mono ?_; clear k1; rintro e w1 ⟨rfl, g1, hw1⟩; have k2 := Tryz.ssMust g1 46; clear g1) | (go_at_call 65; refine k2.mono ?_; clear k2; rintro e w2 ⟨⟨v2, rfl⟩, g2, hw2, hc2⟩; clear hc2; have k3 := Tryz.ssDigit g2; rw [HY.out] at k3; clear g2) | (go_at_call 66; refine k3.mono ?_; clear k3; rintro e w3 ⟨rfl, g3, hw3⟩; have k4 := Tryz.ssFail Nat g3 i0 184 (by decide); clear g3) | (go_at_call 67; refine k4.mono ?_; clear k4; rintro e w4 ⟨⟨v4, rfl⟩, g4, hw4, hc4⟩; clear hc4) | fail)
          go_ret
          exact ⟨10 * x + y, rfl, ⟨by omega, fun a r j e => by rw [HT.out, HF.out] at e; revert e; generalize ((A.bind fun _ r j => mustD (bnd st li) 46 r j).bind fun _ r j => digitD (bnd st li) r j) = Z; intro e; cases Z <;> cases e⟩, by rw [HT.out, HF.out]; exact g4, (((HW.out.trans hw1).trans hw2).trans hw3).trans hw4⟩
        · have q1 : ((x : Int) != 1) = true := by simp; omega
          clear hf hx1
          go_wp2_with (first | (go_at_call 66; refine k1.mono ?_; clear k1; rintro e w1 ⟨rfl, g1, hw1⟩; have k2 := Tryz.ssMust g1 46; clear g1) | (go_at_call 65; refine k2.mono ?_; clear k2; rintro e w2 ⟨⟨v2, rfl⟩, g2, hw2, hc2⟩; clear hc2; have k3 := Tryz.ssDigit g2; rw [HY.out] at k3; clear g2) | (go_at_call 66; refine k3.mono ?_; clear k3; rintro e w3 ⟨rfl, g3, hw3⟩; have k4 := Tryz.ssFail Nat g3 i0 184 (by decide); clear g3) | (go_at_call 67; refine k4.mono ?_; clear k4; rintro e w4 ⟨⟨v4, rfl⟩, g4, hw4, hc4⟩; clear hc4) | fail)
          go_ret
          exact ⟨10 * x + y, rfl, ⟨by omega, fun a r j e => by rw [HT.out, HF.out] at e; revert e; generalize ((A.bind fun _ r j => mustD (bnd st li) 46 r j).bind fun _ r j => digitD (bnd st li) r j) = Z; intro e; cases Z <;> cases e⟩, by rw [HT.out, HF.out]; exact g4, (((HW.out.trans hw1).trans hw2).trans hw3).trans hw4⟩
      · have HF : Hid (versR (bnd st li) i0 A = ((A.bind fun _ r j => mustD (bnd st li) 46 r j).bind fun _ r j => digitD (bnd st li) r j).bind fun _ r j => .ok (10 * x + y) r j) := (by
          show _ = _
          have := vers_ok (b := bnd st li) (i0 := i0) (A := A) (by rw [HX.out, HY.out]; exact hf)
          rw [HX.out, HY.out] at this
          exact this)
        have q1 : ((x : Int) != 1) = false := by simp; omega
        have q2 : ¬ (1 : Int) < (y : Int) := by omega
        clear hf
        go_wp2_with (first | (go_at_call 66; refine k1.mono ?_; clear k1; rintro e w1 ⟨rfl, g1, hw1⟩; have k2 := Tryz.ssMust g1 46; clear g1) | (go_at_call 65; refine k2.mono ?_; clear k2; rintro e w2 ⟨⟨v2, rfl⟩, g2, hw2, hc2⟩; clear hc2; have k3 := Tryz.ssDigit g2; rw [HY.out] at k3; clear g2) | (go_at_call 66; refine k3.mono ?_; clear k3; rintro e w3 ⟨rfl, g3, hw3⟩) | fail)
        go_ret
        exact ⟨10 * x + y, rfl, ⟨by omega, fun a r j e => by rw [HT.out, HF.out] at e; revert e; generalize ((A.bind fun _ r j => mustD (bnd st li) 46 r j).bind fun _ r j => digitD (bnd st li) r j) = Z; intro e; cases Z <;> cases e; rfl⟩, by rw [HT.out, HF.out]; exact Tryz.SS.val g3 _, ((HW.out.trans hw1).trans hw2).trans hw3⟩
end Go.Proofs
namespace Go.Wb
theorem tr1_step {r : List UInt8} (h0 : 0 < r.length) (hb : blank r[0] = true) : (r.drop 1).dropWhile blank = r.dropWhile blank := by
  cases r with
  | nil => cases h0
  | cons a t => rw [List.dropWhile_cons, show blank a = true from hb, if_pos rfl]; rfl
theorem tr1_out {r : List UInt8} (h : r = [] ∨ ∃ h0 : 0 < r.length, blank r[0] = false) : r.dropWhile blank = r := by
  rcases h with rfl | ⟨h0, hb⟩
  · rfl
  · cases r with
    | nil => cases h0
    | cons a t => rw [List.dropWhile_cons, show blank a = false from hb, if_neg (by decide)]
theorem last_split {r : List UInt8} (h : r.length - 1 < r.length) : r.reverse = r[r.length - 1] :: (r.take (r.length - 1)).reverse := by
  have e : r = r.take (r.length - 1) ++ [r[r.length - 1]] := by
    have e2 := List.take_add_one (l := r) (i := r.length - 1)
    rw [List.getElem?_eq_getElem h, show r.length - 1 + 1 = r.length by omega, List.take_length] at e2
    exact e2
  have e3 : (r.take (r.length - 1) ++ [r[r.length - 1]]).reverse = r[r.length - 1] :: (r.take (r.length - 1)).reverse := by rw [List.reverse_append]; rfl
  rw [← e3, ← e]
theorem tr2_step {r : List UInt8} (h0 : r.length - 1 < r.length) (hb : blank r[r.length - 1] = true) : trimR (r.take (r.length - 1)) = trimR r := by
  rw [trimR_is, trimR_is, last_split h0, List.dropWhile_cons, hb, if_pos rfl]
theorem tr2_out {r : List UInt8} (h : r = [] ∨ ∃ h0 : r.length - 1 < r.length, blank r[r.length - 1] = false) : trimR r = r := by
  rcases h with rfl | ⟨h0, hb⟩
  · rfl
  · rw [trimR_is, last_split h0, List.dropWhile_cons, hb, if_neg (by decide), ← last_split h0, List.reverse_reverse]
theorem sm_is (c : UInt8) : sm c = if 65 ≤ c.toNat ∧ c.toNat ≤ 90 then UInt8.ofNat (c.toNat + 32) else c := by
  have h : great c = decide (65 ≤ c.toNat ∧ c.toNat ≤ 90) := by
    show (decide _ && decide _) = _
    simp
  unfold sm
  rw [h]
  simp
end Go.Wb
namespace Go.Proofs
open Go.RowKit Go.Wi Go.Wb
set_option maxRecDepth 20000 in
set_option maxHeartbeats 1000000 in
/-- The document's trimmed. -/
theorem Tryz.rTrim_is (l : List UInt8) (hl : l.length ≤ 9223372036854775807) (w : World) :
    Calls Tryz.prog 93 #[.string ⟨l.toArray⟩] w fun e w' => e = .returned (.string ⟨(trim l).toArray⟩) ∧ w' = w := by
  have HT : Hid (trimR (l.dropWhile Wb.blank) = trim l) := trim_two l
  go_enter Tryz.func93, Tryz.ntmps93
  go_wp2
  go_loopw [0] (fun sv wr => ∃ r : List UInt8, sv = .string ⟨r.toArray⟩ ∧ r.dropWhile Wb.blank = l.dropWhile Wb.blank ∧ r.length ≤ l.length ∧ wr = w) (fun sv _ => strN sv)
  case atStart => exact ⟨l, rfl, rfl, Nat.le_refl _, rfl⟩
  case round =>
    obtain ⟨r, rfl, hr, hrl, rfl⟩ := hrel
    have HR : Hid (r.dropWhile Wb.blank = l.dropWhile Wb.blank) := hr
    have hr63 : r.length ≤ 9223372036854775807 := by omega
    clear hr
    have hz : (⟨r.toArray⟩ : ByteArray).size = r.length := text_size r
    by_cases h0 : r.length = 0
    · have q0 : ¬ (r.length : Int) > 0 := by omega
      have HO : Hid (trimR r = trim l) := (by show _ = _; rw [← HT.out, ← HR.out, tr1_out (.inl (List.eq_nil_of_length_eq_zero h0))])
      have hix : True := trivial
      clear HR h0
      go_wp2
      go_loopw [0] (fun sv wz => ∃ r : List UInt8, sv = .string ⟨r.toArray⟩ ∧ trimR r = trim l ∧ r.length ≤ l.length ∧ wz = wr) (fun sv _ => strN sv)
      case atStart => exact ⟨r, rfl, HO.out, hrl, rfl⟩
      case round =>
        clear HO hix hz hrl
        obtain ⟨s, rfl, hs, hrl, rfl⟩ := hrel
        have HS : Hid (trimR s = trim l) := hs
        have hs63 : s.length ≤ 9223372036854775807 := by omega
        clear hs
        have hz : (⟨s.toArray⟩ : ByteArray).size = s.length := text_size s
        by_cases h0 : s.length = 0
        · have q0 : ¬ (s.length : Int) > 0 := by omega
          have HF : Hid (s = trim l) := (tr2_out (.inl (List.eq_nil_of_length_eq_zero h0))).symm.trans HS.out
          clear h0
          go_wp2
          go_ret
          exact ⟨by rw [← HF.out]; rfl, rfl⟩
        · have q0 : (s.length : Int) > 0 := by omega
          have hlt : s.length - 1 < s.length := by omega
          have hw : IntKind.i64.wrap ((s.length : Int) - 1) = ((s.length - 1 : Nat) : Int) := by rw [IntKind.wrap_i64]; omega
          obtain ⟨c, hde⟩ : ∃ c, s[s.length - 1]'hlt = c := ⟨_, rfl⟩
          have hix : ∀ h : s.length - 1 < (⟨s.toArray⟩ : ByteArray).size, (⟨s.toArray⟩ : ByteArray)[s.length - 1]'h = c := fun h => (at_text hlt h).trans hde
          have HB : Hid (Wb.blank c = true → trimR (s.take (s.length - 1)) = trim l) := fun e => (tr2_step hlt (by rw [hde]; exact e)).trans HS.out
          have HN : Hid (Wb.blank c = false → s = trim l) := fun e => (tr2_out (.inr ⟨hlt, by rw [hde]; exact e⟩)).symm.trans HS.out
          clear hde
          by_cases h32 : c.toNat = 32
          · have q1 : (((c.toNat : Nat) : Int) == 32) = true := by rw [h32]; rfl
            have HR : Hid (trimR (s.take (s.length - 1)) = trim l) := HB.out (by simp [Wb.blank, h32])
            clear HB HN h32
            go_wp2
            go_roundw
            case rel => exact ⟨s.take (s.length - 1), by rw [extT], HR.out, by rw [List.length_take]; omega, trivial⟩
            case measure => simp [strN]; omega
          · have q1 : (((c.toNat : Nat) : Int) == 32) = false := by simp; omega
            by_cases h9 : c.toNat = 9
            · have q2 : (((c.toNat : Nat) : Int) == 9) = true := by rw [h9]; rfl
              have HR : Hid (trimR (s.take (s.length - 1)) = trim l) := HB.out (by simp [Wb.blank, h9])
              clear HB HN h32 h9
              go_wp2
              go_roundw
              case rel => exact ⟨s.take (s.length - 1), by rw [extT], HR.out, by rw [List.length_take]; omega, trivial⟩
              case measure => simp [strN]; omega
            · have q2 : (((c.toNat : Nat) : Int) == 9) = false := by simp; omega
              have HF : Hid (s = trim l) := HN.out (by simp [Wb.blank, h32, h9])
              clear HB HN h32 h9
              go_wp2
              go_ret
              exact ⟨by rw [← HF.out]; rfl, rfl⟩
    · have q0 : (r.length : Int) > 0 := by omega
      have hlt : 0 < r.length := by omega
      obtain ⟨c, hde⟩ : ∃ c, r[0]'hlt = c := ⟨_, rfl⟩
      have hix : ∀ h : 0 < (⟨r.toArray⟩ : ByteArray).size, (⟨r.toArray⟩ : ByteArray)[0]'h = c := fun h => (at_text hlt h).trans hde
      have HB : Hid (Wb.blank c = true → (r.drop 1).dropWhile Wb.blank = l.dropWhile Wb.blank) := fun e => (tr1_step hlt (by rw [hde]; exact e)).trans HR.out
      have HN : Hid (Wb.blank c = false → trimR r = trim l) := fun e => (by rw [← HT.out, ← HR.out, tr1_out (.inr ⟨hlt, by rw [hde]; exact e⟩)])
      clear hde
      by_cases h32 : c.toNat = 32
      · have q1 : (((c.toNat : Nat) : Int) == 32) = true := by rw [h32]; rfl
        have HX : Hid ((r.drop 1).dropWhile Wb.blank = l.dropWhile Wb.blank) := HB.out (by simp [Wb.blank, h32])
        clear HB HN h32 HR
        go_wp2
        go_roundw
        case rel => exact ⟨r.drop 1, by rw [← Wb.extD], HX.out, by rw [List.length_drop]; omega, trivial⟩
        case measure => simp [strN]; omega
      · have q1 : (((c.toNat : Nat) : Int) == 32) = false := by simp; omega
        by_cases h9 : c.toNat = 9
        · have q2 : (((c.toNat : Nat) : Int) == 9) = true := by rw [h9]; rfl
          have HX : Hid ((r.drop 1).dropWhile Wb.blank = l.dropWhile Wb.blank) := HB.out (by simp [Wb.blank, h9])
          clear HB HN h32 h9 HR
          go_wp2
          go_roundw
          case rel => exact ⟨r.drop 1, by rw [← Wb.extD], HX.out, by rw [List.length_drop]; omega, trivial⟩
          case measure => simp [strN]; omega
        · have q2 : (((c.toNat : Nat) : Int) == 9) = false := by simp; omega
          have HO : Hid (trimR r = trim l) := HN.out (by simp [Wb.blank, h32, h9])
          clear HB HN h32 h9 HR
          go_wp2
          go_loopw [0] (fun sv wz => ∃ r : List UInt8, sv = .string ⟨r.toArray⟩ ∧ trimR r = trim l ∧ r.length ≤ l.length ∧ wz = wr) (fun sv _ => strN sv)
          case atStart => exact ⟨r, rfl, HO.out, hrl, rfl⟩
          case round =>
            clear HO hix hz hrl
            obtain ⟨s, rfl, hs, hrl, rfl⟩ := hrel
            have HS : Hid (trimR s = trim l) := hs
            have hs63 : s.length ≤ 9223372036854775807 := by omega
            clear hs
            have hz : (⟨s.toArray⟩ : ByteArray).size = s.length := text_size s
            by_cases h0 : s.length = 0
            · have q0 : ¬ (s.length : Int) > 0 := by omega
              have HF : Hid (s = trim l) := (tr2_out (.inl (List.eq_nil_of_length_eq_zero h0))).symm.trans HS.out
              clear h0
              go_wp2
              go_ret
              exact ⟨by rw [← HF.out]; rfl, rfl⟩
            · have q0 : (s.length : Int) > 0 := by omega
              have hlt : s.length - 1 < s.length := by omega
              have hw : IntKind.i64.wrap ((s.length : Int) - 1) = ((s.length - 1 : Nat) : Int) := by rw [IntKind.wrap_i64]; omega
              obtain ⟨c, hde⟩ : ∃ c, s[s.length - 1]'hlt = c := ⟨_, rfl⟩
              have hix : ∀ h : s.length - 1 < (⟨s.toArray⟩ : ByteArray).size, (⟨s.toArray⟩ : ByteArray)[s.length - 1]'h = c := fun h => (at_text hlt h).trans hde
              have HB : Hid (Wb.blank c = true → trimR (s.take (s.length - 1)) = trim l) := fun e => (tr2_step hlt (by rw [hde]; exact e)).trans HS.out
              have HN : Hid (Wb.blank c = false → s = trim l) := fun e => (tr2_out (.inr ⟨hlt, by rw [hde]; exact e⟩)).symm.trans HS.out
              clear hde
              by_cases h32 : c.toNat = 32
              · have q1 : (((c.toNat : Nat) : Int) == 32) = true := by rw [h32]; rfl
                have HR : Hid (trimR (s.take (s.length - 1)) = trim l) := HB.out (by simp [Wb.blank, h32])
                clear HB HN h32
                go_wp2
                go_roundw
                case rel => exact ⟨s.take (s.length - 1), by rw [extT], HR.out, by rw [List.length_take]; omega, trivial⟩
                case measure => simp [strN]; omega
              · have q1 : (((c.toNat : Nat) : Int) == 32) = false := by simp; omega
                by_cases h9 : c.toNat = 9
                · have q2 : (((c.toNat : Nat) : Int) == 9) = true := by rw [h9]; rfl
                  have HR : Hid (trimR (s.take (s.length - 1)) = trim l) := HB.out (by simp [Wb.blank, h9])
                  clear HB HN h32 h9
                  go_wp2
                  go_roundw
                  case rel => exact ⟨s.take (s.length - 1), by rw [extT], HR.out, by rw [List.length_take]; omega, trivial⟩
                  case measure => simp [strN]; omega
                · have q2 : (((c.toNat : Nat) : Int) == 9) = false := by simp; omega
                  have HF : Hid (s = trim l) := HN.out (by simp [Wb.blank, h32, h9])
                  clear HB HN h32 h9
                  go_wp2
                  go_ret
                  exact ⟨by rw [← HF.out]; rfl, rfl⟩
set_option maxRecDepth 20000 in
set_option maxHeartbeats 1000000 in
/-- The document's Small. -/
theorem Tryz.rSmall_any (l : List UInt8) (hl : l.length ≤ 140737488355328) (w : World) :
    Calls Tryz.prog 92 #[.string ⟨l.toArray⟩] w fun e w' => e = .returned (.string ⟨(l.map sm).toArray⟩) ∧ Below w.heap.size w w' := by
  have hsz := text_size l
  have hcv := Tryz.conv_sb ⟨l.toArray⟩ w
  have hT := Tx.start w 5 l
  have hcap := grownCap_ge w (⟨l.toArray⟩ : ByteArray).size 0 5
  rw [hsz] at hcv hcap
  generalize grownCap w l.length 0 5 = C at *
  generalize Lib.bytesWorld w 5 ⟨l.toArray⟩ = W1 at *
  have HT : Hid (Tx w W1 w.heap.size l) := hT
  clear hT
  have hl63 : l.length ≤ 9223372036854775807 := by omega
  go_enter Tryz.func92, Tryz.ntmps92
  go_wp2
  go_loopw [4] (fun iv wr => ∃ i : Nat, iv = .int .i64 i ∧ i ≤ l.length ∧ Tx w wr w.heap.size (smUpto l i)) (fun iv _ => l.length - (intOf iv).toNat)
  case atStart => exact ⟨0, rfl, Nat.zero_le _, by have := HT.out; simpa [smUpto] using this⟩
  case round =>
    obtain ⟨i, rfl, hi, ht⟩ := hrel
    have HX : Hid (Tx w wr w.heap.size (smUpto l i)) := ht
    clear ht
    by_cases hlt : i < l.length
    · have q : (i : Int) < (l.length : Int) := by omega
      have c0 := HX.out.cell i (by rw [smUpto_len]; exact hlt)
      rw [smUpto_at hlt] at c0
      have f0 := HX.out.frz i (by rw [smUpto_len]; exact hlt)
      have hsm : sm l[i] = if 65 ≤ l[i].toNat ∧ l[i].toNat ≤ 90 then UInt8.ofNat (l[i].toNat + 32) else l[i] := sm_is _
      have HN : Hid (Tx w (wr.setCell ⟨w.heap.size, i, none⟩ (.int .u8 ((sm l[i]).toNat : Nat))) w.heap.size (smUpto l (i + 1))) := (by
        have := HX.out.set i (by rw [smUpto_len]; exact hlt) (sm l[i])
        rw [smUpto_next hlt] at this
        exact this)
      have HK : Hid (sm l[i] = l[i] → Tx w wr w.heap.size (smUpto l (i + 1))) := fun e => (by
        have e2 : smUpto l (i + 1) = smUpto l i := by rw [← smUpto_next hlt, e, ← smUpto_at hlt]; exact List.set_getElem_self _
        rw [e2]; exact HX.out)
      obtain ⟨d, hd⟩ : ∃ d, l[i]'hlt = d := ⟨_, rfl⟩
      rw [hd] at c0 hsm HN HK
      clear hd HX
      have hd8 := d.toNat_lt
      by_cases h1 : 65 ≤ d.toNat
      · have q1 : (65 : Int) ≤ ((d.toNat : Nat) : Int) := by omega
        by_cases h2 : d.toNat ≤ 90
        · have q2 : ((d.toNat : Nat) : Int) ≤ 90 := by omega
          rw [if_pos ⟨h1, h2⟩] at hsm
          have HZ : Hid (Tx w (wr.setCell ⟨w.heap.size, i, none⟩ (.int .u8 (((d.toNat : Nat) : Int) + 32))) w.heap.size (smUpto l (i + 1))) := (by
            have := HN.out
            rw [hsm, UInt8.toNat_ofNat', show (d.toNat + 32) % 2 ^ 8 = d.toNat + 32 by omega] at this
            exact this)
          clear hsm HN HK
          go_wp2
          go_roundw
          case rel => exact ⟨i + 1, by simp, by omega, HZ.out⟩
          case measure => simp [intOf]; omega
        · have q2 : ¬ ((d.toNat : Nat) : Int) ≤ 90 := by omega
          rw [if_neg (fun e => h2 e.2)] at hsm
          have HZ : Hid (Tx w wr w.heap.size (smUpto l (i + 1))) := HK.out hsm
          clear hsm HN HK
          go_wp2
          go_roundw
          case rel => exact ⟨i + 1, by simp, by omega, HZ.out⟩
          case measure => simp [intOf]; omega
      · have q1 : ¬ (65 : Int) ≤ ((d.toNat : Nat) : Int) := by omega
        rw [if_neg (fun e => h1 e.1)] at hsm
        have HZ : Hid (Tx w wr w.heap.size (smUpto l (i + 1))) := HK.out hsm
        clear hsm HN HK
        go_wp2
        go_roundw
        case rel => exact ⟨i + 1, by simp, by omega, HZ.out⟩
        case measure => simp [intOf]; omega
    · have q : ¬ (i : Int) < (l.length : Int) := by omega
      have hX := HX.out
      rw [smUpto_all (by omega)] at hX
      have hcb := Tryz.conv_bs (Tx.bs hX (cap := C) (by simpa using hcap))
      rw [List.length_map] at hcb
      have HB : Hid _ := hX.bel
      clear hX
      go_wp2
      go_ret
      exact ⟨rfl, HB.out⟩
end Go.Proofs
namespace Go.Wb
open Go.RowKit Go.Wi Go.Proofs
abbrev Hdl := List (List UInt8 × List UInt8)
theorem Hs.one2 (w : World) (T : TypeId) (a b : List UInt8) : Hs (w.alloc (.cells #[.string ⟨a.toArray⟩, .string ⟨b.toArray⟩] T)) (.slice (some ⟨w.heap.size, 0, none⟩) 1 1) [(a, b)] := by
  have hn := heap_alloc_new w (.cells #[.string ⟨a.toArray⟩, .string ⟨b.toArray⟩] T)
  refine ⟨⟨_, _, rfl, .inr ⟨_, 0, rfl, block_lt hn, fun j hj => ?_⟩⟩, .inr ⟨_, _, _, rfl⟩⟩
  obtain rfl : j = 0 := by simp at hj; omega
  exact ⟨by rw [cell_of_row _ _ _ _ _ _ hn]; rfl, by rw [cell_of_row _ _ _ _ _ _ hn]; rfl⟩
theorem row_past2 {w w' : World} {B : Nat} {e : TypeId} {size : Nat} {v : Value} {n : Nat} {xs : List Value} (h : w.ownsRow B e size v n xs) (g : Below w.heap.size w w') : w'.ownsRow B e size v n xs := row_keep h fun k e => g.block k (h.lt k e).2
theorem row_wo {w w' : World} {B p : Nat} {e : TypeId} {size : Nat} {v : Value} {n : Nat} {xs : List Value} (h : w.ownsRow B e size v n xs) (hp : p < B) (g : Wo (fun k => k = p) w w') : w'.ownsRow B e size v n xs := row_keep h fun k e => g.block k (h.lt k e).2 (fun e2 => by have := (h.lt k e).1; omega)
theorem headers_pk {α : Type} (b : Int) (n : Nat) (out : Hdl) : Pk b (fun (_ : α) r i => headersD b (n + 1) out r i) := ⟨fun _ _ => rfl, fun _ d q i h => by rw [headersD_cons, if_pos h]⟩
theorem dead_no {α β : Type} {R : Re α} {b : Int} {g : α → List UInt8 → Nat → Re β} (hb : byteR b R = -1) (hg : Pk b g) : ∀ a r j, R.bind g ≠ .ok a r j := by
  intro a r j e
  cases R with
  | bad a e2 => cases e
  | more => cases e
  | ok a2 r2 i =>
    rw [bind_ok_eq] at e
    cases r2 with
    | nil => rw [hg.nil] at e; cases e
    | cons c q =>
      by_cases hi : (i : Int) = b
      · rw [hg.bd _ _ _ _ hi] at e; cases e
      · have : byteR b (.ok a2 (c :: q) i) = ((c.toNat : Nat) : Int) := if_neg hi
        rw [this] at hb; omega
/-- How much is left to be read; nought, where reading is over. -/
def liveN (s : List UInt8) (w : World) (p : Nat) : Nat := match w.cell? ⟨p, 5, none⟩, w.cell? ⟨p, 6, none⟩ with
  | some (.int _ z), some (.bool m) => if z = 0 ∧ m = false then s.length - placeN w p + 1 else 0
  | _, _ => 0
/-- The four pieces of a line. -/
def lineC {α : Type} (b : Int) (S : Re α) : Re Unit := (((S.bind fun _ r i => tokenD b r i).bind fun _ r i => mustD b 58 r i).bind fun _ r i => bytesD b r i).bind fun _ r i => endD b r i
theorem line_next {α : Type} {s v1 v2 : List UInt8} {b : Int} {n i : Nat} {out : Hdl} {a : α} {d : UInt8} {q : List UInt8} (hi : ¬ (i : Int) = b) (hd : ¬ d = 13) (ho : ¬ out.length = 32)
    (h1 : TxtOk s v1 ((Re.ok a (d :: q) i).bind fun _ r i => tokenD b r i)) (h2 : TxtOk s v2 ((((Re.ok a (d :: q) i).bind fun _ r i => tokenD b r i).bind fun _ r i => mustD b 58 r i).bind fun _ r i => bytesD b r i)) :
    ((lineC b (Re.ok a (d :: q) i)).bind fun _ r j => headersD b n (out ++ [(v1, v2)]) r j) = headersD b (n + 1) out (d :: q) i ∧ ∀ u r j, lineC b (Re.ok a (d :: q) i) = .ok u r j → r.length < (d :: q).length := by
  have hT : headersD b (n + 1) out (d :: q) i = (lineD b (d :: q) i).bind fun x r j => headersD b n (out ++ [x]) r j := by rw [headersD_cons, if_neg hi, if_neg hd, if_neg ho]
  rw [hT]
  have hsh := fun x r j => @lineD_short b (d :: q) r i j x
  unfold lineC
  unfold lineD at hsh ⊢
  rw [bind_ok_eq] at h1 h2 ⊢
  cases ht : tokenD b (d :: q) i with
  | bad a e => exact ⟨rfl, fun u r j e => by cases e⟩
  | more => exact ⟨rfl, fun u r j e => by cases e⟩
  | ok nm r1 j1 =>
    rw [ht] at h1 h2 hsh
    obtain rfl := h1.is _ _ _ rfl
    rw [bind_ok_eq, bind_ok_eq] at *
    cases hm : mustD b 58 r1 j1 with
    | bad a e => exact ⟨rfl, fun u r j e => by cases e⟩
    | more => exact ⟨rfl, fun u r j e => by cases e⟩
    | ok u r2 j2 =>
      rw [hm] at h2 hsh
      rw [bind_ok_eq] at *
      rw [bind_ok_eq]
      cases hb : bytesD b r2 j2 with
      | bad a e => exact ⟨rfl, fun u r j e => by cases e⟩
      | more => exact ⟨rfl, fun u r j e => by cases e⟩
      | ok vv r3 j3 =>
        rw [hb] at h2 hsh
        obtain rfl := h2.is _ _ _ rfl
        rw [bind_ok_eq] at *
        rw [bind_ok_eq]
        cases he : endD b r3 j3 with
        | bad a e => exact ⟨rfl, fun u r j e => by cases e⟩
        | more => exact ⟨rfl, fun u r j e => by cases e⟩
        | ok u2 r4 j4 =>
          rw [he] at hsh
          exact ⟨rfl, fun u r j e => by injection e with _ e2 e3; subst e2 e3; exact hsh _ _ _ rfl⟩
end Go.Wb
namespace Go.Proofs
open Go.RowKit Go.Wi Go.Wb
theorem Tryz.SS.lt {α : Type} {w : World} {p : Nat} {s : List UInt8} {st li : Nat} {R : Re α} (h : Tryz.SS w p s st li R) : p < w.heap.size := by
  obtain ⟨x, h1, _⟩ := h.ex
  exact block_lt h1
theorem Tryz.SS.live {α : Type} {w : World} {p : Nat} {s : List UInt8} {st li : Nat} {a : α} {r : List UInt8} {i : Nat} (h : Tryz.SS w p s st li (.ok a r i : Re α)) : liveN s w p = s.length - i + 1 := by
  obtain ⟨x, h1, h2, h3⟩ := h.ex
  obtain ⟨c0, c1, c2, c3, c4, c5, c6⟩ := Tryz.Sc.c h1
  rw [h3.1] at c5
  rw [h3.2.2.1] at c6
  rw [h3.2.2.2.1] at c1
  unfold liveN
  rw [c5, c6, placeN_of c1]
  exact if_pos ⟨rfl, rfl⟩
theorem Tryz.SS.over {α : Type} {w : World} {p : Nat} {s : List UInt8} {st li : Nat} {R : Re α} (h : Tryz.SS w p s st li R) (hR : ∀ a r j, R ≠ .ok a r j) : liveN s w p = 0 := by
  obtain ⟨x, h1, h2, h3⟩ := h.ex
  obtain ⟨c0, c1, c2, c3, c4, c5, c6⟩ := Tryz.Sc.c h1
  unfold liveN
  rw [c5, c6]
  cases R with
  | ok a r j => exact absurd rfl (hR a r j)
  | bad a e => exact if_neg fun e2 => h3.2.1 (by have := e2.1; rw [h3.1] at this; omega)
  | more => exact if_neg fun e2 => by rw [h3.2.2] at e2; cases e2.2
theorem Tryz.SS.len {α : Type} {w : World} {p : Nat} {s : List UInt8} {st li : Nat} {a : α} {r : List UInt8} {i : Nat} (h : Tryz.SS w p s st li (.ok a r i : Re α)) : r.length = s.length - i ∧ i ≤ s.length := by
  obtain ⟨_, _, _, h1, _, h2⟩ := Tryz.SS.c h
  exact ⟨by rw [h2, List.length_drop], h1⟩
/-- Headers that were read. -/
structure Tryz.HdsOk (w w' : World) (p : Nat) (s : List UInt8) (st li : Nat) (V : Value) (T : Re Hdl) : Prop where
  ex : ∃ H : Hdl, w'.ownsRow w.heap.size 57 2 V H.length (hdCells H) ∧ H.length ≤ 32 ∧ (∀ x ∈ H, x.1.length ≤ s.length ∧ x.2.length ≤ s.length) ∧ ∀ o r j, T = .ok o r j → H = o.map hdOf
  ss : Tryz.SS w' p s st li T
  wo : Wo (fun k => k = p) w w'
/-- In the midst of headers. -/
structure Tryz.HdsIn (w wr : World) (p : Nat) (s : List UInt8) (st li : Nat) (V : Value) (T : Re Hdl) (S : Re Unit) (out : Hdl) (n : Nat) : Prop where
  row : wr.ownsRow w.heap.size 57 2 V out.length (hdCells (out.map hdOf))
  ss : Tryz.SS wr p s st li S
  fuel : ∀ u r i, S = .ok u r i → r.length ≤ n
  all : (S.bind fun _ r i => headersD (bnd st li) (n + 1) out r i) = T
  len : out.length ≤ 32
  lens : ∀ x ∈ out.map hdOf, x.1.length ≤ s.length ∧ x.2.length ≤ s.length
  wo : Wo (fun k => k = p) w wr
theorem Tryz.HdsIn.done {w wr w' : World} {p : Nat} {s : List UInt8} {st li : Nat} {V : Value} {T : Re Hdl} {S : Re Unit} {out : Hdl} {n : Nat} (h : Tryz.HdsIn w wr p s st li V T S out n) (hp : p < w.heap.size) (hw : Wo (fun k => k = p) wr w') (hs : Tryz.SS w' p s st li T) (hT : ∀ o r j, T = .ok o r j → o = out) : Tryz.HdsOk w w' p s st li V T :=
  ⟨⟨out.map hdOf, by rw [List.length_map]; exact row_wo h.row hp hw, by rw [List.length_map]; exact h.len, h.lens, fun o r j e => by rw [hT o r j e]⟩, hs, h.wo.trans hw⟩
theorem Tryz.HdsIn.more {w wr w5 w6 w8 : World} {p : Nat} {s v1 v2 : List UInt8} {st li : Nat} {V V' : Value} {T : Re Hdl} {S C : Re Unit} {out : Hdl} {n : Nat} {o : Obj} (h : Tryz.HdsIn w wr p s st li V T S out (n + 1)) (hp : p < w.heap.size) (hw : Wo (fun k => k = p) wr w5) (h5 : Tryz.SS w5 p s st li C) (hb : Below w5.heap.size w5 w6) (hb8 : Below w.heap.size (w6.alloc o) w8)
    (hrow : w8.ownsRow w.heap.size 57 2 V' (out.length + 1) (hdCells (out.map hdOf ++ [(v1.map sm, trim v2)]))) (h32 : ¬ out.length = 32) (hC : (C.bind fun _ r i => headersD (bnd st li) (n + 1) (out ++ [(v1, v2)]) r i) = T) (hf : ∀ u r i, C = .ok u r i → r.length ≤ n) (l1 : v1.length ≤ s.length) (l2 : v2.length ≤ s.length) : Tryz.HdsIn w w8 p s st li V' T C (out ++ [(v1, v2)]) n := by
  have e : (out ++ [(v1, v2)]).map hdOf = out.map hdOf ++ [(v1.map sm, trim v2)] := by rw [List.map_append, List.map_singleton, hdOf_is]
  have hz : w.heap.size ≤ w5.heap.size := Nat.le_trans h.wo.size hw.size
  refine ⟨by rw [e, List.length_append]; exact hrow, ?_, hf, hC, by rw [List.length_append]; have := h.len; simp; omega, ?_, ?_⟩
  · refine Tryz.SS.keep h5 ?_
    rw [hb8.block p hp]
    have e2 : (w6.alloc o).heap[p]? = w6.heap[p]? := (Below.refl w6.heap.size w6).alloc (Nat.le_refl _) o |>.block p (Nat.lt_of_lt_of_le (Tryz.SS.lt h5) hb.size)
    rw [e2, hb.block p (Tryz.SS.lt h5)]
  · rw [e]
    intro x hx
    rcases List.mem_append.1 hx with hx | hx
    · exact h.lens x hx
    · rw [List.mem_singleton] at hx
      subst hx
      exact ⟨by rw [List.length_map]; exact l1, Nat.le_trans (trim_len v2) l2⟩
  · exact (((h.wo.trans hw).below hb hz).alloc o).below hb8 (Nat.le_refl _)
set_option maxRecDepth 20000 in
set_option maxHeartbeats 4000000 in
theorem Tryz.ssHeaders {α : Type} {w : World} {p : Nat} {s : List UInt8} {st li : Nat} {R : Re α} (h : Tryz.SS w p s st li R) (hs47 : s.length ≤ 140737488355328) (N : Nat) (hN : s.length ≤ N) :
    Calls Tryz.prog 72 #[.pointer (some ⟨p, 0, none⟩)] w fun e w' => ∃ V, e = .returned V ∧ Tryz.HdsOk w w' p s st li V (R.bind fun _ r i => headersD (bnd st li) (N + 1) [] r i) := by
  have hp := Tryz.SS.lt h
  have hin : Tryz.HdsIn w w p s st li (.slice none 0 0) (R.bind fun _ r i => headersD (bnd st li) (N + 1) [] r i) (R.bind fun _ r i => .ok () r i) [] N :=
    ⟨World.ownsRow_nil _ _ _ _, Tryz.SS.val h (), fun u r i e => (by
      cases R with
      | bad a e2 => cases e
      | more => cases e
      | ok a2 r2 i2 =>
        injection e with _ e1 e2
        subst e1 e2
        have := (Tryz.SS.len h).1
        omega), by rw [bind_bind]; rfl, Nat.zero_le _, fun x hx => (by cases hx), Wo.refl _ _⟩
  generalize (R.bind fun _ r i => headersD (bnd st li) (N + 1) [] r i) = T at *
  have HI : Hid (Tryz.HdsIn w w p s st li (.slice none 0 0) T (R.bind fun _ r i => .ok () r i) [] N) := hin
  clear hin h hN
  go_enter Tryz.func72, Tryz.ntmps72
  go_wp2
  go_loopw [3, 4, 5, 6] (fun V _ _ _ wr => ∃ S out n, Tryz.HdsIn w wr p s st li V T S out n) (fun _ _ _ _ wr => liveN s wr p)
  case atStart => exact ⟨_, _, _, HI.out⟩
  case round =>
    clear HI
    obtain ⟨S, out, n, hin⟩ := hrel
    have HI : Hid (Tryz.HdsIn w wr p s st li u3 T S out n) := hin
    have k1 := Tryz.ssNext hin.ss
    rcases peek_cases (bnd st li) S with hb | ⟨a, d, q, i, rfl, hi, hb, hpk⟩
    · rw [hb] at k1
      have HF : Hid (∀ w', Wo (fun k => k = p) wr w' → Tryz.SS w' p s st li (peekR (bnd st li) S) → Tryz.HdsOk w w' p s st li u3 T) := fun w' hw h => hin.done hp hw (by rw [← hin.all]; exact Tryz.SS.dead h hb (headers_pk _ _ _)) (fun o r j e => by rw [← hin.all] at e; exact absurd e (dead_no hb (headers_pk _ _ _) o r j))
      clear hb hin HI
      go_wp2_with (first | (go_at_call 62; refine k1.mono ?_; clear k1; rintro e w1 ⟨rfl, g1, hw1, hc1⟩; clear hc1) | fail)
      go_ret
      exact ⟨_, rfl, HF.out _ hw1 g1⟩
    · rw [hb, hpk] at k1
      have hlt := d.toNat_lt
      have q0 : ¬ ((d.toNat : Nat) : Int) < 0 := by omega
      have hall := hin.all
      rw [bind_ok_eq, headersD_cons, if_neg hi] at hall
      by_cases hd : d = 13
      · have q1 : (((d.toNat : Nat) : Int) == 13) = true := by rw [hd]; rfl
        rw [if_pos hd] at hall
        have HF : Hid (∀ w', Wo (fun k => k = p) wr w' → Tryz.SS w' p s st li ((Re.ok a (d :: q) i).bind fun _ r i => endD (bnd st li) r i) → Tryz.HdsOk w w' p s st li u3 T) := fun w' hw h => hin.done hp hw (by rw [← hall]; exact Tryz.SS.val h out) (fun o r j e => by
          rw [← hall] at e
          obtain ⟨_, _, _, _, e2⟩ := bind_ok e
          injection e2 with e3
          exact e3.symm)
        clear hb hin HI hall hd hi hpk
        go_wp2_with (first | (go_at_call 62; refine k1.mono ?_; clear k1; rintro e w1 ⟨rfl, g1, hw1, hc1⟩; clear hc1; have k2 := Tryz.ssEnd g1; clear g1) | (go_at_call 63; refine k2.mono ?_; clear k2; rintro e w2 ⟨⟨v2, rfl⟩, g2, hw2⟩) | fail)
        go_ret
        exact ⟨_, rfl, HF.out _ (hw1.trans hw2) g2⟩
      · have q1 : (((d.toNat : Nat) : Int) == 13) = false := by
          simp only [beq_eq_false_iff_ne, ne_eq]
          exact fun e => hd (UInt8.toNat_inj.1 (by show d.toNat = 13; omega))
        rw [if_neg hd] at hall
        obtain ⟨ad, cap, hV, _⟩ := (Hs.ofRow (L := out.map hdOf) (n := out.length) hin.row).ex
        rw [List.length_map] at hV
        subst hV
        by_cases h32 : out.length = 32
        · rw [if_pos h32] at hall
          have q2 : ((out.length : Int) == 32) = true := by rw [h32]; rfl
          have HF : Hid (∀ w', Wo (fun k => k = p) wr w' → Tryz.SS w' p s st li ((Re.ok a (d :: q) i).bind fun _ _ _ => (.bad i 181 : Re Hdl)) → Tryz.HdsOk w w' p s st li (.slice ad out.length cap) T) := fun w' hw h => hin.done hp hw (by rw [← hall]; exact h) (fun o r j e => by rw [← hall] at e; cases e)
          clear hb hin HI hall hd hi hpk h32
          go_wp2_with (first | (go_at_call 62; refine k1.mono ?_; clear k1; rintro e w1 ⟨rfl, g1, hw1, hc1⟩; clear hc1; have k2 := Tryz.ssFail Hdl g1 i 181 (by decide); obtain ⟨c0, c1, fz, hil, hsl, hdd⟩ := Tryz.SS.c g1; clear g1 fz c0 hdd) | (go_at_call 67; refine k2.mono ?_; clear k2; rintro e w2 ⟨⟨v2, rfl⟩, g2, hw2, hc2⟩; clear hc2) | fail)
          go_ret
          exact ⟨_, rfl, HF.out _ (hw1.trans hw2) g2⟩
        · have q2 : ((out.length : Int) == 32) = false := by simp; omega
          have hfu := hin.fuel _ _ _ rfl
          obtain ⟨m, rfl⟩ : ∃ m, n = m + 1 := ⟨n - 1, by rw [List.length_cons] at hfu; omega⟩
          have hol := hin.len
          have HL : Hid (s.length - i + 1 = liveN s wr p) := (Tryz.SS.live hin.ss).symm
          have HLe : Hid ((d :: q).length = s.length - i) := (Tryz.SS.len hin.ss).1
          have HR : Hid (wr.ownsRow w.heap.size 57 2 (.slice ad out.length cap) out.length (hdCells (out.map hdOf))) := hin.row
          have HWz : Hid (w.heap.size ≤ wr.heap.size) := hin.wo.size
          have HM : Hid (∀ (w5 w6 w8 : World) (v1 v2 : List UInt8) (V' : Value) (o : Obj), Wo (fun k => k = p) wr w5 → Tryz.SS w5 p s st li (lineC (bnd st li) (Re.ok a (d :: q) i)) → Below w5.heap.size w5 w6 → Below w.heap.size (w6.alloc o) w8 →
              w8.ownsRow w.heap.size 57 2 V' (out.length + 1) (hdCells (out.map hdOf ++ [(v1.map sm, trim v2)])) → TxtOk s v1 ((Re.ok a (d :: q) i).bind fun _ r i => tokenD (bnd st li) r i) → TxtOk s v2 ((((Re.ok a (d :: q) i).bind fun _ r i => tokenD (bnd st li) r i).bind fun _ r i => mustD (bnd st li) 58 r i).bind fun _ r i => bytesD (bnd st li) r i) →
              Tryz.HdsIn w w8 p s st li V' T (lineC (bnd st li) (Re.ok a (d :: q) i)) (out ++ [(v1, v2)]) m ∧ liveN s w8 p < s.length - i + 1) := fun w5 w6 w8 v1 v2 V' o a1 a2 a3 a4 a5 a6 a7 => (by
            obtain ⟨b1, b2⟩ := line_next (n := m + 1) hi hd h32 a6 a7
            have hin2 := HI.out.more hp a1 a2 a3 a4 a5 h32 (by rw [b1, headersD_cons, if_neg hi, if_neg hd, if_neg h32, ← hall, if_neg h32]) (fun u r j e => by have := b2 u r j e; omega) a6.le a7.le
            refine ⟨hin2, ?_⟩
            cases hC : lineC (bnd st li) (Re.ok a (d :: q) i) with
            | bad x y => rw [hC] at hin2; rw [Tryz.SS.over hin2.ss (fun _ _ _ e => by cases e)]; omega
            | more => rw [hC] at hin2; rw [Tryz.SS.over hin2.ss (fun _ _ _ e => by cases e)]; omega
            | ok u r j =>
              rw [hC] at hin2
              rw [Tryz.SS.live hin2.ss]
              have l1 := (Tryz.SS.len hin2.ss).1
              have l2 := b2 u r j hC
              have l3 := HLe.out
              have l4 := (Tryz.SS.len hin2.ss).2
              omega)
          clear hb hin HI hall hd hi hpk h32 hfu HLe
          go_wp2_with (first
            | (go_at_call 62; refine k1.mono ?_; clear k1; rintro e w1 ⟨rfl, g1, hw1, hc1⟩; clear hc1; have k2 := Tryz.ssToken g1; clear g1)
            | (go_at_call 69; refine k2.mono ?_; clear k2; rintro e w2 ⟨v1, rfl, t1, g2, hw2⟩; have HT1 : Hid (TxtOk s v1 ((Re.ok a (d :: q) i).bind fun _ r i => tokenD (bnd st li) r i)) := t1; clear t1; have k3 := Tryz.ssMust g2 58; clear g2)
            | (go_at_call 65; refine k3.mono ?_; clear k3; rintro e w3 ⟨⟨v3, rfl⟩, g3, hw3, hc3⟩; clear hc3; have k4 := Tryz.ssBytes g3; clear g3)
            | (go_at_call 68; refine k4.mono ?_; clear k4; rintro e w4 ⟨v2, rfl, t2, g4, hw4⟩; have HT2 : Hid (TxtOk s v2 ((((Re.ok a (d :: q) i).bind fun _ r i => tokenD (bnd st li) r i).bind fun _ r i => mustD (bnd st li) 58 r i).bind fun _ r i => bytesD (bnd st li) r i)) := t2; clear t2; have k5 := Tryz.ssEnd g4; clear g4)
            | (go_at_call 63; refine k5.mono ?_; clear k5; rintro e w5 ⟨⟨v5, rfl⟩, g5, hw5⟩; have HG : Hid (Tryz.SS w5 p s st li (lineC (bnd st li) (Re.ok a (d :: q) i))) := g5; clear g5; have HW5 : Hid (Wo (fun k => k = p) wr w5) := (((hw1.trans hw2).trans hw3).trans hw4).trans hw5; clear hw1 hw2 hw3 hw4 hw5; have k6 := Tryz.rSmall_any v1 (Nat.le_trans HT1.out.le hs47) w5; have k7 := fun W => Tryz.rTrim_is v2 (Nat.le_trans HT2.out.le (by omega)) W)
            | (go_at_call 92; refine k6.mono ?_; clear k6; rintro e w6 ⟨rfl, hb6⟩; have HB6 : Hid (Below w5.heap.size w5 w6) := hb6; clear hb6; have HR6 : Hid (∀ o, (w6.alloc o).ownsRow w.heap.size 57 2 (.slice ad out.length cap) out.length (hdCells (out.map hdOf))) := fun o => row_past2 (row_past2 (row_wo HR.out hp HW5.out) HB6.out) ((Below.refl _ w6).alloc (Nat.le_refl _) o); have HZ6 : Hid (∀ o, w.heap.size ≤ (w6.alloc o).heap.size) := fun o => (by have e1 := HWz.out; have e2 := HW5.out.size; have e3 := HB6.out.size; simp; omega))
            | (go_at_call 93; refine (k7 _).mono ?_; clear k7; rintro e w7 ⟨rfl, rfl⟩)
            | (at_builtin; refine Tryz.appHs rfl _ _ rfl (HR6.out _) (HZ6.out _) rfl (Hs.one2 _ _ _ _) rfl (by simp; omega) ?_; intro v8 w8 r8 b8)
            | fail)
          have hmm := HM.out w5 w7 w8 v1 v2 v8 _ HW5.out HG.out HB6.out b8 r8 HT1.out HT2.out
          go_roundw
          case rel => exact ⟨_, _, _, hmm.1⟩
          case measure =>
            rw [← HL.out]
            exact hmm.2
end Go.Proofs
