/-
  CountsKnown: its walk.
-/
import Derived.Test.YtkfnjmkajhfhlaaCk
namespace Go.Ct
open Go.Proofs
theorem noted_nt {s : St} {u r : ByteArray} {k : Nat} {t hl : Bool} (h : (!t && decide (s.mr r u < (k : Int))) = true) (x : Int) : (Go.Proofs.Ct.noted s u r k t hl).nt r u x = if x = k then some hl else s.nt r u x := by
  unfold Go.Proofs.Ct.noted
  rw [if_pos h]
  simp [St.page, upd]
theorem noted_ot {s : St} {u r u' r' : ByteArray} {k : Nat} {t hl : Bool} (h : ¬ (r' = r ∧ u' = u)) : (Go.Proofs.Ct.noted s u r k t hl).nt r' u' = s.nt r' u' := by
  unfold Go.Proofs.Ct.noted
  split
  · simp only [St.page]; rw [if_neg h]
  · rfl
theorem rcpt_nt {s : St} {u r : ByteArray} {k : Nat} (x : Int) : (rcpt s u r k).nt r u x = if x ≤ (k : Int) then none else s.nt r u x := by simp [rcpt, St.page]
theorem rcpt_ot {s : St} {u r u' r' : ByteArray} {k : Nat} (h : ¬ (r' = r ∧ u' = u)) : (rcpt s u r k).nt r' u' = s.nt r' u' := by simp only [rcpt, St.page]; rw [if_neg h]
theorem redct_nt {s : St} {r e u : ByteArray} {i : Nat} (x : Int) : (redct s r e i).nt r u x = if x = (i : Int) + 1 then none else s.nt r u x := by
  simp [redct, forg, upd]
theorem redct_ot {s : St} {r e r' u : ByteArray} {i : Nat} (h : r' ≠ r) : (redct s r e i).nt r' u = s.nt r' u := by
  simp [redct, forg, h]
end Go.Ct
namespace Go.Proofs
open Go.RowKit Go.Wi Go.Ct
/-- A book beside two actions in boxes. -/
structure Try.B2 (B y1 y2 : Nat) (w : World) (b : Nat) (s : St) (n : Nat) : Prop where
  ex : ∃ g, Try.Bx w b s n g ∧ (∀ x, g.T x ≠ .no → B ≤ x ∧ x ≠ y1 ∧ x ≠ y2) ∧ B ≤ w.heap.size
  h1 : w.heap[y1]? = some (.cells #[.bool true, .bool false, .string ⟨#[]⟩] 31 (0, 0))
  h2 : w.heap[y2]? = some (.cells #[.bool true, .bool true, .string ⟨#[]⟩] 31 (0, 0))
section
variable {B y1 y2 : Nat} {w : World} {b n n' : Nat} {s s' : St}
theorem Try.B2.chg (h : Try.B2 B y1 y2 w b s n) {F : FuncId} {args : Array Value} {Z : Ending → Prop} (hc : ∀ g, Try.Bx w b s n g → Calls Try.prog F args w fun z w' => Z z ∧ Try.BChg w w' b s' n' g) :
    Calls Try.prog F args w fun z w' => Z z ∧ Try.B2 B y1 y2 w' b s' n' ∧ Below B w w' := by
  obtain ⟨g, h3, h4, h5⟩ := h.ex
  refine (hc g h3).mono fun z w' ⟨hz, hb⟩ => ⟨hz, ?_, Wo.toBelow (Below.refl B w) hb.wo (fun x e => (h4 x e).1) h5⟩
  obtain ⟨g', h6, h7⟩ := hb.ex
  have l1 := block_lt h.h1
  have l2 := block_lt h.h2
  refine ⟨⟨g', h6, fun x e => ?_, Nat.le_trans h5 hb.wo.size⟩, (hb.wo.block y1 l1 fun e => (h4 y1 e).2.1 rfl).trans h.h1, (hb.wo.block y2 l2 fun e => (h4 y2 e).2.2 rfl).trans h.h2⟩
  rcases h7 x e with e1 | e1
  · exact h4 x e1
  · exact ⟨by omega, by omega, by omega⟩
theorem Try.B2.bel (h : Try.B2 B y1 y2 w b s n) {F : FuncId} {args : Array Value} {Z : Ending → Prop} (hc : ∀ g, Try.Bx w b s n g → Calls Try.prog F args w fun z w' => Z z ∧ Below w.heap.size w w') :
    Calls Try.prog F args w fun z w' => Z z ∧ Try.B2 B y1 y2 w' b s n ∧ Below B w w' :=
  h.chg fun g hg => (hc g hg).mono fun _z _w' ⟨hz, hb⟩ => ⟨hz, Try.BChg.below hg hb⟩
theorem Try.B2.same (h : Try.B2 B y1 y2 w b s n) {F : FuncId} {args : Array Value} {Z : Ending → Prop} (hc : ∀ g, Try.Bx w b s n g → Calls Try.prog F args w fun z w' => Z z ∧ w' = w) :
    Calls Try.prog F args w fun z w' => Z z ∧ Try.B2 B y1 y2 w' b s n ∧ Below B w w' :=
  h.bel fun g hg => (hc g hg).mono fun z w' ⟨hz, hb⟩ => ⟨hz, by rw [hb]; exact Below.refl _ _⟩
theorem Try.counts_g {g : Gh} (h : Try.Bx w b s n g) (hn : n ≤ 1000000000) (u r : ByteArray) (hr : r.size ≤ maxLen) (hu : u.size ≤ maxLen) {j k : Nat} (hj : Ct.Many (fun x => (s.nt r u x).isSome) j) (hk : Ct.Many (fun x => s.nt r u x = some true) k) :
    Calls Try.prog 13 #[.pointer (some ⟨b, 0, none⟩), .string u, .string r] w fun z w' => z = .returned (.tuple #[.int .i64 (min (j : Int) 99), .int .i64 (min (k : Int) 99)]) ∧ Below w.heap.size w w' := by
  refine (Try.counts_any h hn u r hr hu).mono fun z w' ⟨L, M, h4, h5, h6, h7, h8, h9⟩ => ⟨?_, h9⟩
  rw [h4, Ct.Many.one hj ⟨L, h5, h6, rfl⟩, Ct.Many.one hk ⟨M, h7, h8, rfl⟩]
end
def Ct.k2 : St := (St.new.add Ct.tR Ct.t1).add Ct.tS Ct.t2
def Ct.k3 : St := Ct.noted Ct.k2 Ct.tA Ct.tR 1 false false
def Ct.k4 : St := Ct.noted Ct.k3 Ct.tA Ct.tR 1 false true
def Ct.k5 : St := rcpt Ct.k4 Ct.tA Ct.tR 1
def Ct.k6 : St := Ct.k5.add Ct.tR Ct.t3
def Ct.k7 : St := Ct.noted Ct.k6 Ct.tA Ct.tR 3 false true
def Ct.k8 : St := rcpt Ct.k7 Ct.tA Ct.tR 3
def Ct.k9 : St := Ct.k8.add Ct.tR Ct.t4
def Ct.k10 : St := Ct.noted Ct.k9 Ct.tA Ct.tR 4 false false
def Ct.k11 : St := redct Ct.k10 Ct.tR Ct.t4 3
theorem Ct.k3_nt (x : Int) : Ct.k3.nt Ct.tR Ct.tA x = if x = 1 then some false else none := noted_nt (by decide) x
theorem Ct.k4_nt (x : Int) : Ct.k4.nt Ct.tR Ct.tA x = if x = 1 then some true else none := by
  refine (noted_nt (by decide) x).trans ?_
  rw [Ct.k3_nt]
  by_cases h : x = 1 <;> simp [h]
theorem Ct.k5_nt (x : Int) : Ct.k5.nt Ct.tR Ct.tA x = none := by
  refine (rcpt_nt x).trans ?_
  rw [Ct.k4_nt]
  by_cases h : x = 1 <;> simp [h]
theorem Ct.k7_nt (x : Int) : Ct.k7.nt Ct.tR Ct.tA x = if x = 3 then some true else none := by
  refine (noted_nt (by decide) x).trans ?_
  rw [show Ct.k6.nt = Ct.k5.nt from rfl, Ct.k5_nt]
  rfl
theorem Ct.k8_nt (x : Int) : Ct.k8.nt Ct.tR Ct.tA x = none := by
  refine (rcpt_nt x).trans ?_
  rw [Ct.k7_nt]
  by_cases h : x = 3 <;> simp [h]
theorem Ct.k10_nt (x : Int) : Ct.k10.nt Ct.tR Ct.tA x = if x = 4 then some false else none := by
  refine (noted_nt (by decide) x).trans ?_
  rw [show Ct.k9.nt = Ct.k8.nt from rfl, Ct.k8_nt]
  rfl
theorem Ct.k11_nt (r u : ByteArray) (x : Int) : Ct.k11.nt r u x = none := by
  by_cases hr : r = Ct.tR
  · subst hr
    refine (redct_nt x).trans ?_
    by_cases hu : u = Ct.tA
    · subst hu
      rw [Ct.k10_nt]
      by_cases h : x = 4 <;> simp [h]
    · have hh : ¬ (Ct.tR = Ct.tR ∧ u = Ct.tA) := fun e => hu e.2
      have : Ct.k10.nt Ct.tR u = fun _ => none := by
        unfold Ct.k10 Ct.k9 Ct.k8 Ct.k7 Ct.k6 Ct.k5 Ct.k4 Ct.k3
        rw [noted_ot hh]
        show (rcpt _ _ _ _).nt _ _ = _
        rw [rcpt_ot hh, noted_ot hh]
        show (rcpt _ _ _ _).nt _ _ = _
        rw [rcpt_ot hh, noted_ot hh, noted_ot hh]
        rfl
      rw [this]
      split <;> rfl
  · have hh : ¬ (r = Ct.tR ∧ u = Ct.tA) := fun e => hr e.1
    have : Ct.k11.nt r u = fun _ => none := by
      unfold Ct.k11
      rw [redct_ot hr]
      unfold Ct.k10 Ct.k9 Ct.k8 Ct.k7 Ct.k6 Ct.k5 Ct.k4 Ct.k3
      rw [noted_ot hh]
      show (rcpt _ _ _ _).nt _ _ = _
      rw [rcpt_ot hh, noted_ot hh]
      show (rcpt _ _ _ _).nt _ _ = _
      rw [rcpt_ot hh, noted_ot hh, noted_ot hh]
      rfl
    rw [this]
theorem Try.B2.init {B : Nat} {w : World} {b n : Nat} {s : St} (h : Try.Bf B w b s n) : Try.B2 B w.heap.size (w.heap.size + 1) ((w.alloc (.cells #[.bool true, .bool false, .string ⟨#[]⟩] 31)).alloc (.cells #[.bool true, .bool true, .string ⟨#[]⟩] 31)) b s n := by
  obtain ⟨g, h1, h2, h3⟩ := h
  have hb : Below w.heap.size w ((w.alloc (.cells #[.bool true, .bool false, .string ⟨#[]⟩] 31)).alloc (.cells #[.bool true, .bool true, .string ⟨#[]⟩] 31)) := ((Below.refl _ w).alloc (Nat.le_refl _) _).alloc (by simp) _
  refine ⟨⟨_, h1.below hb, fun x e => ?_, Nat.le_trans h3 hb.size⟩, ?_, ?_⟩
  · simp only at e
    by_cases hx : x < w.heap.size
    · rw [if_pos hx] at e
      exact ⟨h2 x e, by omega, by omega⟩
    · rw [if_neg hx] at e; exact absurd rfl e
  · rw [Ct.alloc_old _ (by simp)]; exact heap_alloc_new w _
  · have := heap_alloc_new (w.alloc (.cells #[.bool true, .bool false, .string ⟨#[]⟩] 31)) (.cells #[.bool true, .bool true, .string ⟨#[]⟩] 31)
    simpa using this
theorem Ct.pick1 (c : Int) : Ct.pickN c 1 = 0 := Nat.mod_one _
set_option maxHeartbeats 16000000 in
set_option maxRecDepth 20000 in
theorem Try.countsKnownWalk (c : Int) (w : World) (hc : -9223372036854775808 ≤ c ∧ c ≤ 9223372036854775807) :
    Calls Try.prog 5 #[.int .i64 c] w fun z w' => z = .returned (.bool true) ∧ Below w.heap.size w w' := by
  have hnew := Try.new_f w
  have hpk := fun W => Try.pick_any c 1 (by omega) (by omega) hc.1 hc.2 W
  rw [Ct.pick1] at hpk
  clear hc
  have J3 : Hid (Ct.Many (fun x => (Ct.k3.nt Ct.tR Ct.tA x).isSome) 1) := Ct.many1 1 fun x => by rw [Ct.k3_nt]; by_cases h : x = 1 <;> simp [h]
  have K3 : Hid (Ct.Many (fun x => Ct.k3.nt Ct.tR Ct.tA x = some true) 0) := Ct.many0 fun x => by rw [Ct.k3_nt]; split <;> simp
  have J4 : Hid (Ct.Many (fun x => (Ct.k4.nt Ct.tR Ct.tA x).isSome) 1) := Ct.many1 1 fun x => by rw [Ct.k4_nt]; by_cases h : x = 1 <;> simp [h]
  have K4 : Hid (Ct.Many (fun x => Ct.k4.nt Ct.tR Ct.tA x = some true) 1) := Ct.many1 1 fun x => by rw [Ct.k4_nt]; by_cases h : x = 1 <;> simp [h]
  have J5 : Hid (Ct.Many (fun x => (Ct.k5.nt Ct.tR Ct.tA x).isSome) 0) := Ct.many0 fun x => by rw [Ct.k5_nt]; simp
  have K5 : Hid (Ct.Many (fun x => Ct.k5.nt Ct.tR Ct.tA x = some true) 0) := Ct.many0 fun x => by rw [Ct.k5_nt]; simp
  have J8 : Hid (Ct.Many (fun x => (Ct.k8.nt Ct.tR Ct.tA x).isSome) 0) := Ct.many0 fun x => by rw [Ct.k8_nt]; simp
  have K8 : Hid (Ct.Many (fun x => Ct.k8.nt Ct.tR Ct.tA x = some true) 0) := Ct.many0 fun x => by rw [Ct.k8_nt]; simp
  have J10 : Hid (Ct.Many (fun x => (Ct.k10.nt Ct.tR Ct.tA x).isSome) 1) := Ct.many1 4 fun x => by rw [Ct.k10_nt]; by_cases h : x = 4 <;> simp [h]
  have K10 : Hid (Ct.Many (fun x => Ct.k10.nt Ct.tR Ct.tA x = some true) 0) := Ct.many0 fun x => by rw [Ct.k10_nt]; split <;> simp
  have J11 : Hid (Ct.Many (fun x => (Ct.k11.nt Ct.tR Ct.tA x).isSome) 0) := Ct.many0 fun x => by rw [Ct.k11_nt]; simp
  have K11 : Hid (Ct.Many (fun x => Ct.k11.nt Ct.tR Ct.tA x = some true) 0) := Ct.many0 fun x => by rw [Ct.k11_nt]; simp
  have R1 : Hid (decide (Ct.k4.mr Ct.tR Ct.tA < ((fnd Ct.k4 Ct.tR Ct.t2 : Nat) : Int)) = false) := decide_eq_false (by decide)
  have R1s : Hid ((if Ct.k4.mr Ct.tR Ct.tA < ((fnd Ct.k4 Ct.tR Ct.t2 : Nat) : Int) then rcpt Ct.k4 Ct.tA Ct.tR (fnd Ct.k4 Ct.tR Ct.t2) else Ct.k4) = Ct.k4) := if_neg (by decide)
  have R2 : Hid (decide (Ct.k4.mr Ct.tR Ct.tA < ((fnd Ct.k4 Ct.tR Ct.t1 : Nat) : Int)) = true) := decide_eq_true (by decide)
  have R2s : Hid ((if Ct.k4.mr Ct.tR Ct.tA < ((fnd Ct.k4 Ct.tR Ct.t1 : Nat) : Int) then rcpt Ct.k4 Ct.tA Ct.tR (fnd Ct.k4 Ct.tR Ct.t1) else Ct.k4) = Ct.k5) := if_pos (by decide)
  have R3 : Hid (decide (Ct.k5.mr Ct.tR Ct.tA < ((fnd Ct.k5 Ct.tR Ct.t1 : Nat) : Int)) = false) := decide_eq_false (by decide)
  have R3s : Hid ((if Ct.k5.mr Ct.tR Ct.tA < ((fnd Ct.k5 Ct.tR Ct.t1 : Nat) : Int) then rcpt Ct.k5 Ct.tA Ct.tR (fnd Ct.k5 Ct.tR Ct.t1) else Ct.k5) = Ct.k5) := if_neg (by decide)
  have LV : Hid ((if Ct.k7.ev.length = 0 then Ct.k7 else rcpt Ct.k7 Ct.tA Ct.tR Ct.k7.ev.length) = Ct.k8) := if_neg (by decide)
  have ROT : Hid (∀ (z : Ending) (L : List (ByteArray × ByteArray × Int)), z = .returned (.int .i64 (L.length : Nat)) → (∀ x, x ∈ L ↔ (Ct.k11.nt x.1 x.2.1 x.2.2).isSome) → z = .returned (.int .i64 0)) := fun z L a1 a2 => by
    cases L with
    | nil => exact a1
    | cons y l => exact absurd ((a2 y).1 (by simp)) (by rw [Ct.k11_nt]; simp)
  go_enter Try.func5, Try.ntmps5
  go_wp2_with (first
    | (go_at_call 7; refine hnew.mono ?_; clear hnew; rintro z w1 ⟨b, rfl, hB1, hb1⟩; have hini := Try.B2.init hB1; have e1 := hini.chg fun g hg => Try.event_new hg (by unfold maxLen; omega) Ct.tR Ct.t1 (Ct.small _ (by decide)) rfl (by decide); have HW1 : Hid (Below w.heap.size w ((w1.alloc (.cells #[.bool true, .bool false, .string ⟨#[]⟩] 31)).alloc (.cells #[.bool true, .bool true, .string ⟨#[]⟩] 31))) := (hb1.alloc hb1.size _).alloc (by have := hb1.size; simp; omega) _; clear hB1 hb1 hini)
    | (go_at_call 8; refine e1.mono ?_; clear e1; rintro z w2 ⟨rfl, hB, hb⟩; have e2 := hB.chg fun g hg => Try.event_new hg (by unfold maxLen; omega) Ct.tS Ct.t2 (Ct.small _ (by decide)) rfl (by decide); have Hw2 : Hid _ := hb; clear hB hb)
    | (go_at_call 8; refine e2.mono ?_; clear e2; rintro z w3 ⟨rfl, hB, hb⟩; have e3 := hB.same fun g hg => Try.event_known hg Ct.tS Ct.t1 (Ct.small _ (by decide)) (k := 1) rfl; have Hw3 : Hid _ := hb; clear hB hb)
    | (go_at_call 8; refine e3.mono ?_; clear e3; rintro z w4 ⟨rfl, hB, hb⟩; have l10 := cell_of_row _ _ 0 _ _ _ hB.h1; have l11 := cell_of_row _ _ 1 _ _ _ hB.h1; have l12 := cell_of_row _ _ 2 _ _ _ hB.h1; have n1 := hB.chg fun g hg => Try.note_ok hg (by unfold maxLen; omega) Ct.tA Ct.tR Ct.t1 (Ct.small _ (by decide)) (Ct.small _ (by decide)) (Ct.small _ (by decide)) false ⟨#[]⟩ false 0 rfl rfl; have Hw4 : Hid _ := hb; clear hB hb)
    | (go_at_call 9; refine n1.mono ?_; clear n1; rintro z w5 ⟨rfl, hB, hb⟩; have l10 := cell_of_row _ _ 0 _ _ _ hB.h1; have l11 := cell_of_row _ _ 1 _ _ _ hB.h1; have l12 := cell_of_row _ _ 2 _ _ _ hB.h1; have n2 := hB.bel fun g hg => Try.note_bad hg Ct.tA Ct.tR Ct.t2 (Ct.small _ (by decide)) true false ⟨#[]⟩ (.inl rfl); have Hw5 : Hid _ := hb; clear hB hb)
    | (go_at_call 9; refine n2.mono ?_; clear n2; rintro z w6 ⟨rfl, hB, hb⟩; have c1 := hB.bel fun g hg => Try.counts_g (s := Ct.k3) hg (by omega) Ct.tA Ct.tR (Ct.small _ (by decide)) (Ct.small _ (by decide)) J3.out K3.out; have Hw6 : Hid _ := hb; clear hB hb)
    | (go_at_call 13; refine c1.mono ?_; clear c1; rintro z w7 ⟨rfl, hB, hb⟩; have l20 := cell_of_row _ _ 0 _ _ _ hB.h2; have l21 := cell_of_row _ _ 1 _ _ _ hB.h2; have l22 := cell_of_row _ _ 2 _ _ _ hB.h2; have n3 := hB.chg fun g hg => Try.note_ok hg (by unfold maxLen; omega) Ct.tA Ct.tR Ct.t1 (Ct.small _ (by decide)) (Ct.small _ (by decide)) (Ct.small _ (by decide)) true ⟨#[]⟩ false 0 rfl rfl; have Hw7 : Hid _ := hb; clear hB hb)
    | (go_at_call 9; refine n3.mono ?_; clear n3; rintro z w8 ⟨rfl, hB, hb⟩; have c2 := hB.bel fun g hg => Try.counts_g (s := Ct.k4) hg (by omega) Ct.tA Ct.tR (Ct.small _ (by decide)) (Ct.small _ (by decide)) J4.out K4.out; have Hw8 : Hid _ := hb; clear hB hb)
    | (go_at_call 13; refine c2.mono ?_; clear c2; rintro z w9 ⟨rfl, hB, hb⟩; have r1 := Try.B2.chg (s := Ct.k4) hB fun g hg => Try.receipt_any (s := Ct.k4) hg (by unfold maxLen; omega) Ct.tA Ct.tR Ct.t2 (Ct.small _ (by decide)) (Ct.small _ (by decide)) (Ct.small _ (by decide)); rw [R1.out, R1s.out] at r1; have Hw9 : Hid _ := hb; clear hB hb)
    | (go_at_call 14; refine r1.mono ?_; clear r1; rintro z w10 ⟨rfl, hB, hb⟩; have r2 := Try.B2.chg (s := Ct.k4) hB fun g hg => Try.receipt_any (s := Ct.k4) hg (by unfold maxLen; omega) Ct.tA Ct.tR Ct.t1 (Ct.small _ (by decide)) (Ct.small _ (by decide)) (Ct.small _ (by decide)); rw [R2.out, R2s.out] at r2; have Hw10 : Hid _ := hb; clear hB hb)
    | (go_at_call 14; refine r2.mono ?_; clear r2; rintro z w11 ⟨rfl, hB, hb⟩; have c3 := hB.bel fun g hg => Try.counts_g (s := Ct.k5) hg (by omega) Ct.tA Ct.tR (Ct.small _ (by decide)) (Ct.small _ (by decide)) J5.out K5.out; have Hw11 : Hid _ := hb; clear hB hb)
    | (go_at_call 13; refine c3.mono ?_; clear c3; rintro z w12 ⟨rfl, hB, hb⟩; have r3 := Try.B2.chg (s := Ct.k5) hB fun g hg => Try.receipt_any (s := Ct.k5) hg (by unfold maxLen; omega) Ct.tA Ct.tR Ct.t1 (Ct.small _ (by decide)) (Ct.small _ (by decide)) (Ct.small _ (by decide)); rw [R3.out, R3s.out] at r3; have Hw12 : Hid _ := hb; clear hB hb)
    | (go_at_call 14; refine r3.mono ?_; clear r3; rintro z w13 ⟨rfl, hB, hb⟩; have e4 := hB.chg fun g hg => Try.event_new hg (by unfold maxLen; omega) Ct.tR Ct.t3 (Ct.small _ (by decide)) rfl (by decide); have Hw13 : Hid _ := hb; clear hB hb)
    | (go_at_call 8; refine e4.mono ?_; clear e4; rintro z w14 ⟨rfl, hB, hb⟩; have l20 := cell_of_row _ _ 0 _ _ _ hB.h2; have l21 := cell_of_row _ _ 1 _ _ _ hB.h2; have l22 := cell_of_row _ _ 2 _ _ _ hB.h2; have n4 := hB.chg fun g hg => Try.note_ok hg (by unfold maxLen; omega) Ct.tA Ct.tR Ct.t3 (Ct.small _ (by decide)) (Ct.small _ (by decide)) (Ct.small _ (by decide)) true ⟨#[]⟩ false 2 rfl rfl; have Hw14 : Hid _ := hb; clear hB hb)
    | (go_at_call 9; refine n4.mono ?_; clear n4; rintro z w15 ⟨rfl, hB, hb⟩; have v1 := Try.B2.chg (s := Ct.k7) hB fun g hg => Try.leave_any (s := Ct.k7) hg (by unfold maxLen; omega) Ct.tA Ct.tR (Ct.small _ (by decide)) (Ct.small _ (by decide)); rw [LV.out] at v1; have Hw15 : Hid _ := hb; clear hB hb)
    | (go_at_call 15; refine v1.mono ?_; clear v1; rintro z w16 ⟨⟨v0, rfl⟩, hB, hb⟩; have c4 := hB.bel fun g hg => Try.counts_g (s := Ct.k8) hg (by omega) Ct.tA Ct.tR (Ct.small _ (by decide)) (Ct.small _ (by decide)) J8.out K8.out; have Hw16 : Hid _ := hb; clear hB hb)
    | (go_at_call 13; refine c4.mono ?_; clear c4; rintro z w17 ⟨rfl, hB, hb⟩; have e5 := hB.chg fun g hg => Try.event_new hg (by unfold maxLen; omega) Ct.tR Ct.t4 (Ct.small _ (by decide)) rfl (by decide); have Hw17 : Hid _ := hb; clear hB hb)
    | (go_at_call 8; refine e5.mono ?_; clear e5; rintro z w18 ⟨rfl, hB, hb⟩; have l10 := cell_of_row _ _ 0 _ _ _ hB.h1; have l11 := cell_of_row _ _ 1 _ _ _ hB.h1; have l12 := cell_of_row _ _ 2 _ _ _ hB.h1; have n5 := hB.chg fun g hg => Try.note_ok hg (by unfold maxLen; omega) Ct.tA Ct.tR Ct.t4 (Ct.small _ (by decide)) (Ct.small _ (by decide)) (Ct.small _ (by decide)) false ⟨#[]⟩ false 3 rfl rfl; have Hw18 : Hid _ := hb; clear hB hb)
    | (go_at_call 9; refine n5.mono ?_; clear n5; rintro z w19 ⟨rfl, hB, hb⟩; have c5 := hB.bel fun g hg => Try.counts_g (s := Ct.k10) hg (by omega) Ct.tA Ct.tR (Ct.small _ (by decide)) (Ct.small _ (by decide)) J10.out K10.out; have Hw19 : Hid _ := hb; clear hB hb)
    | (go_at_call 13; refine c5.mono ?_; clear c5; rintro z w20 ⟨rfl, hB, hb⟩; have d1 := hB.chg fun g hg => Try.redact_ok hg (by unfold maxLen; omega) Ct.tR Ct.t4 (Ct.small _ (by decide)) (Ct.small _ (by decide)) 3 rfl rfl; have Hw20 : Hid _ := hb; clear hB hb)
    | (go_at_call 16; refine d1.mono ?_; clear d1; rintro z w21 ⟨rfl, hB, hb⟩; have d2 := hB.same fun g hg => Try.redact_no hg Ct.tR Ct.t4 (Ct.small _ (by decide)) (.inr ⟨3, rfl, rfl⟩); have Hw21 : Hid _ := hb; clear hB hb)
    | (go_at_call 16; refine d2.mono ?_; clear d2; rintro z w22 ⟨rfl, hB, hb⟩; have l10 := cell_of_row _ _ 0 _ _ _ hB.h1; have l11 := cell_of_row _ _ 1 _ _ _ hB.h1; have l12 := cell_of_row _ _ 2 _ _ _ hB.h1; have n6 := hB.chg fun g hg => Try.note_ok hg (by unfold maxLen; omega) Ct.tA Ct.tR Ct.t4 (Ct.small _ (by decide)) (Ct.small _ (by decide)) (Ct.small _ (by decide)) false ⟨#[]⟩ true 3 rfl rfl; have Hw22 : Hid _ := hb; clear hB hb)
    | (go_at_call 9; refine n6.mono ?_; clear n6; rintro z w23 ⟨rfl, hB, hb⟩; have c6 := hB.bel fun g hg => Try.counts_g (s := Ct.k11) hg (by omega) Ct.tA Ct.tR (Ct.small _ (by decide)) (Ct.small _ (by decide)) J11.out K11.out; have Hw23 : Hid _ := hb; clear hB hb)
    | (go_at_call 13; refine c6.mono ?_; clear c6; rintro z w24 ⟨rfl, hB, hb⟩; have t1 := Try.B2.bel (s := Ct.k11) hB fun g hg => (Try.rotate_any (s := Ct.k11) hg (by omega)).mono fun z w' ⟨L, a1, a2, a3, a4⟩ => (⟨ROT.out z L a1 a3, a4⟩ : z = .returned (.int .i64 0) ∧ Below _ _ _); have Hw24 : Hid _ := hb; clear hB hb)
    | (go_at_call 10; refine t1.mono ?_; clear t1; rintro z w25 ⟨rfl, hB, hb⟩; have Hw25 : Hid _ := hb; clear hB hb)
    | (go_at_call 11; refine (hpk _).mono ?_; clear hpk; rintro z w26 ⟨rfl, rfl⟩)
    | fail)
  go_ret
  exact ⟨rfl, ((((((((((((((((((((((((HW1.out.trans Hw2.out).trans Hw3.out).trans Hw4.out).trans Hw5.out).trans Hw6.out).trans Hw7.out).trans Hw8.out).trans Hw9.out).trans Hw10.out).trans Hw11.out).trans Hw12.out).trans Hw13.out).trans Hw14.out).trans Hw15.out).trans Hw16.out).trans Hw17.out).trans Hw18.out).trans Hw19.out).trans Hw20.out).trans Hw21.out).trans Hw22.out).trans Hw23.out).trans Hw24.out).trans Hw25.out)⟩
end Go.Proofs
