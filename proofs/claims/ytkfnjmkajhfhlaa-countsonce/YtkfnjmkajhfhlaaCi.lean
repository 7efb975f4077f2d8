/-
  A book above a floor of blocks; awake.
-/
import Derived.Test.YtkfnjmkajhfhlaaCh
namespace Go.Proofs
open Go.RowKit Go.Wi Go.Ct
/-- A book, all of it in blocks from B on. -/
structure Try.Bf (B : Nat) (w : World) (b : Nat) (s : St) (n : Nat) : Prop where
  ex : ∃ g, Try.Bx w b s n g ∧ (∀ x, g.T x ≠ .no → B ≤ x) ∧ B ≤ w.heap.size
section
variable {B : Nat} {w w' : World} {b n : Nat} {s : St}
theorem Try.Bf.mono {n' : Nat} (h : Try.Bf B w b s n) (hn : n ≤ n') : Try.Bf B w b s n' := by
  obtain ⟨g, h1, h2⟩ := h
  exact ⟨g, h1.mono hn, h2⟩
theorem Try.Bf.floor {B' : Nat} (h : Try.Bf B w b s n) (hB : B' ≤ B) : Try.Bf B' w b s n := by
  obtain ⟨g, h1, h2, h3⟩ := h
  exact ⟨g, h1, fun x e => Nat.le_trans hB (h2 x e), Nat.le_trans hB h3⟩
theorem Try.Bf.len (h : Try.Bf B w b s n) : s.ev.length ≤ 5000 := by
  obtain ⟨g, h1, _⟩ := h
  exact h1.len
theorem Try.Bf.below (h : Try.Bf B w b s n) (hb : Below w.heap.size w w') : Try.Bf B w' b s n := by
  obtain ⟨g, h1, h2, h3⟩ := h
  refine ⟨_, h1.below hb, fun x e => h2 x fun e1 => e (by simp only [e1]; split <;> rfl), Nat.le_trans h3 hb.size⟩
theorem Try.BChg.floor {g : Gh} {s' : St} {n' : Nat} (hT : ∀ x, g.T x ≠ .no → B ≤ x) (hB : B ≤ w.heap.size) (h : Try.BChg w w' b s' n' g) : Try.Bf B w' b s' n' ∧ Below B w w' := by
  obtain ⟨g', h1, h2⟩ := h.ex
  refine ⟨⟨g', h1, fun x e => ?_, Nat.le_trans hB h.wo.size⟩, Wo.toBelow (Below.refl B w) h.wo hT hB⟩
  rcases h2 x e with e1 | e1
  · exact hT x e1
  · omega
end
section
variable {B : Nat} {w : World} {b n : Nat} {s : St}
theorem Try.new_f (w : World) : Calls Try.prog 7 #[] w fun z w' => ∃ b, z = .returned (.pointer (some ⟨b, 0, none⟩)) ∧ Try.Bf w.heap.size w' b St.new 0 ∧ Below w.heap.size w w' :=
  (Try.new_any w).mono fun _z _w' ⟨b, g, h1, h2, h3, h4⟩ => ⟨b, h1, ⟨g, h2, h3, h4.size⟩, h4⟩
theorem Try.event_f (h : Try.Bf B w b s n) (hn : n + 1 < maxLen) (r e : ByteArray) (he : e.size ≤ maxLen) (hp : place s.ev e = none) (hl : s.ev.length < 5000) :
    Calls Try.prog 8 #[.pointer (some ⟨b, 0, none⟩), .string r, .string e] w fun z w' => z = .returned (.tuple #[.int .i64 ((s.ev.length : Int) + 1), .int .i64 0]) ∧ Try.Bf B w' b (s.add r e) (n + 1) ∧ Below B w w' := by
  obtain ⟨g, h1, h2, h3⟩ := h
  exact (Try.event_new h1 hn r e he hp hl).mono fun z w' ⟨h4, h5⟩ => ⟨h4, h5.floor h2 h3⟩
theorem Try.known_f (h : Try.Bf B w b s n) (r e : ByteArray) (he : e.size ≤ maxLen) {k : Nat} (hp : place s.ev e = some k) :
    Calls Try.prog 8 #[.pointer (some ⟨b, 0, none⟩), .string r, .string e] w fun z w' => z = .returned (.tuple #[.int .i64 0, .int .i64 110]) ∧ w' = w := by
  obtain ⟨g, h1, h2, h3⟩ := h
  exact Try.event_known h1 r e he hp
theorem Try.noteBad_f (h : Try.Bf B w b s n) (u r e : ByteArray) (he : e.size ≤ maxLen) (nf hl : Bool) (sd : ByteArray) (hf : fnd s r e = 0 ∨ nf = false) :
    Calls Try.prog 9 #[.pointer (some ⟨b, 0, none⟩), .string u, .string r, .string e, .agg #[.bool nf, .bool hl, .string sd]] w fun z w' => z = .returned (.int .i64 (if fnd s r e = 0 then 112 else 1)) ∧ Try.Bf B w' b s n ∧ Below B w w' := by
  have h0 := h
  obtain ⟨g, h1, h2, h3⟩ := h
  exact (Try.note_bad h1 u r e he nf hl sd hf).mono fun z w' ⟨h4, h5⟩ => ⟨h4, h0.below h5, h5.mono h3⟩
theorem Try.note_f (h : Try.Bf B w b s n) (hn : n + 3 < maxLen) (u r e : ByteArray) (he : e.size ≤ maxLen) (hr : r.size ≤ maxLen) (hu : u.size ≤ maxLen) (hl : Bool) (sd : ByteArray) (t : Bool) (i : Nat) (hf : fnd s r e = i + 1) (hi : s.ev[i]? = some (r, e, t)) :
    Calls Try.prog 9 #[.pointer (some ⟨b, 0, none⟩), .string u, .string r, .string e, .agg #[.bool true, .bool hl, .string sd]] w fun z w' => z = .returned (.int .i64 0) ∧ Try.Bf B w' b (Ct.noted s u r (i + 1) t hl) (n + 3) ∧ Below B w w' := by
  obtain ⟨g, h1, h2, h3⟩ := h
  exact (Try.note_ok h1 hn u r e he hr hu hl sd t i hf hi).mono fun z w' ⟨h4, h5⟩ => ⟨h4, h5.floor h2 h3⟩
theorem Try.receipt_f (h : Try.Bf B w b s n) (hn : n + 2 < maxLen) (u r e : ByteArray) (he : e.size ≤ maxLen) (hr : r.size ≤ maxLen) (hu : u.size ≤ maxLen) :
    Calls Try.prog 14 #[.pointer (some ⟨b, 0, none⟩), .string u, .string r, .string e] w fun z w' => z = .returned (.bool (decide (s.mr r u < (fnd s r e : Nat)))) ∧ Try.Bf B w' b (if s.mr r u < (fnd s r e : Nat) then rcpt s u r (fnd s r e) else s) (n + 2) ∧ Below B w w' := by
  obtain ⟨g, h1, h2, h3⟩ := h
  exact (Try.receipt_any h1 hn u r e he hr hu).mono fun z w' ⟨h4, h5⟩ => ⟨h4, h5.floor h2 h3⟩
theorem Try.leave_f (h : Try.Bf B w b s n) (hn : n + 2 < maxLen) (u r : ByteArray) (hr : r.size ≤ maxLen) (hu : u.size ≤ maxLen) :
    Calls Try.prog 15 #[.pointer (some ⟨b, 0, none⟩), .string u, .string r] w fun z w' => (∃ v, z = .returned v) ∧ Try.Bf B w' b (if s.ev.length = 0 then s else rcpt s u r s.ev.length) (n + 2) ∧ Below B w w' := by
  obtain ⟨g, h1, h2, h3⟩ := h
  exact (Try.leave_any h1 hn u r hr hu).mono fun z w' ⟨h4, h5⟩ => ⟨h4, h5.floor h2 h3⟩
/-- How many numbers a test says yes to. -/
def Ct.Many (p : Int → Prop) (k : Nat) : Prop := ∃ L : List Int, L.Nodup ∧ (∀ x, x ∈ L ↔ p x) ∧ L.length = k
theorem Ct.Many.one {p : Int → Prop} {j k : Nat} (h1 : Ct.Many p j) (h2 : Ct.Many p k) : j = k := by
  obtain ⟨L, a1, a2, rfl⟩ := h1
  obtain ⟨M, b1, b2, rfl⟩ := h2
  exact ((List.perm_ext_iff_of_nodup a1 b1).2 fun x => by rw [a2, b2]).length_eq
theorem Try.counts_f (h : Try.Bf B w b s n) (hn : n ≤ 1000000000) (u r : ByteArray) (hr : r.size ≤ maxLen) (hu : u.size ≤ maxLen) {j k : Nat} (hj : Ct.Many (fun x => (s.nt r u x).isSome) j) (hk : Ct.Many (fun x => s.nt r u x = some true) k) :
    Calls Try.prog 13 #[.pointer (some ⟨b, 0, none⟩), .string u, .string r] w fun z w' => z = .returned (.tuple #[.int .i64 (min (j : Int) 99), .int .i64 (min (k : Int) 99)]) ∧ Try.Bf B w' b s n ∧ Below B w w' := by
  have h0 := h
  obtain ⟨g, h1, h2, h3⟩ := h
  refine (Try.counts_any h1 hn u r hr hu).mono fun z w' ⟨L, M, h4, h5, h6, h7, h8, h9⟩ => ⟨?_, h0.below h9, h9.mono h3⟩
  rw [h4, Ct.Many.one hj ⟨L, h5, h6, rfl⟩, Ct.Many.one hk ⟨M, h7, h8, rfl⟩]
theorem Try.rotate_f (h : Try.Bf B w b s n) (hn : n ≤ 100000) :
    Calls Try.prog 10 #[.pointer (some ⟨b, 0, none⟩)] w fun z w' => (∃ L : List (ByteArray × ByteArray × Int), z = .returned (.int .i64 (L.length : Nat)) ∧ L.Nodup ∧ ∀ x, x ∈ L ↔ (s.nt x.1 x.2.1 x.2.2).isSome) ∧ Try.Bf B w' b s n ∧ Below B w w' := by
  have h0 := h
  obtain ⟨g, h1, h2, h3⟩ := h
  exact (Try.rotate_any h1 hn).mono fun z w' ⟨L, h4, h5, h6, h7⟩ => ⟨⟨L, h4, h5, h6⟩, h0.below h7, h7.mono h3⟩
end
/-- Texts of the laws. -/
def Ct.tR : ByteArray := ⟨#[33, 114]⟩
def Ct.tS : ByteArray := ⟨#[33, 115]⟩
def Ct.tA : ByteArray := ⟨#[64, 97]⟩
def Ct.t1 : ByteArray := ⟨#[36, 49]⟩
def Ct.t2 : ByteArray := ⟨#[36, 50]⟩
def Ct.t3 : ByteArray := ⟨#[36, 51]⟩
def Ct.t4 : ByteArray := ⟨#[36, 52]⟩
theorem Ct.small (a : ByteArray) (h : a.size ≤ 100) : a.size ≤ maxLen := by unfold maxLen; omega
theorem Ct.many0 {p : Int → Prop} (h : ∀ x, ¬ p x) : Ct.Many p 0 := ⟨[], by simp, fun x => by simp [h x], rfl⟩
theorem Ct.many1 {p : Int → Prop} (y : Int) (h : ∀ x, p x ↔ x = y) : Ct.Many p 1 := ⟨[y], by simp, fun x => by simp [h x], rfl⟩
def Ct.aw3 : St := Ct.noted (St.new.add Ct.tR Ct.t1) Ct.tA Ct.tR 1 false true
theorem Ct.aw3_nt (x : Int) : Ct.aw3.nt Ct.tR Ct.tA x = if x = 1 then some true else none := by simp [Ct.aw3, Ct.noted, St.page, St.add, St.new, upd]
theorem Ct.aw3_lt : Ct.aw3.mr Ct.tR Ct.tA < ((fnd Ct.aw3 Ct.tR Ct.t1 : Nat) : Int) := by decide
def Ct.aw4 : St := if Ct.aw3.mr Ct.tR Ct.tA < ((fnd Ct.aw3 Ct.tR Ct.t1 : Nat) : Int) then rcpt Ct.aw3 Ct.tA Ct.tR (fnd Ct.aw3 Ct.tR Ct.t1) else Ct.aw3
theorem Ct.aw4_nt (x : Int) : Ct.aw4.nt Ct.tR Ct.tA x = none := by
  have e : fnd Ct.aw3 Ct.tR Ct.t1 = 1 := rfl
  unfold Ct.aw4
  rw [if_pos Ct.aw3_lt, e]
  simp only [rcpt, St.page, and_self, if_true]
  rw [Ct.aw3_nt]
  by_cases h : x = 1 <;> simp [h]
set_option maxHeartbeats 1000000 in
set_option maxRecDepth 20000 in
theorem Try.awake_any (w : World) : Calls Try.prog 6 #[] w fun z w' => z = .returned (.bool true) ∧ Below w.heap.size w w' := by
  have hnew := Try.new_f w
  have sR : Ct.tR.size ≤ maxLen := Ct.small _ (by decide)
  have sA : Ct.tA.size ≤ maxLen := Ct.small _ (by decide)
  have s1 : Ct.t1.size ≤ maxLen := Ct.small _ (by decide)
  have j3 : Ct.Many (fun x => (Ct.aw3.nt Ct.tR Ct.tA x).isSome) 1 := Ct.many1 1 fun x => by rw [Ct.aw3_nt]; by_cases h : x = 1 <;> simp [h]
  have k3 : Ct.Many (fun x => Ct.aw3.nt Ct.tR Ct.tA x = some true) 1 := Ct.many1 1 fun x => by rw [Ct.aw3_nt]; by_cases h : x = 1 <;> simp [h]
  have j4 : Ct.Many (fun x => (Ct.aw4.nt Ct.tR Ct.tA x).isSome) 0 := Ct.many0 fun x => by rw [Ct.aw4_nt]; simp
  have k4 : Ct.Many (fun x => Ct.aw4.nt Ct.tR Ct.tA x = some true) 0 := Ct.many0 fun x => by rw [Ct.aw4_nt]; simp
  have J3 : Hid _ := j3
  have K3 : Hid _ := k3
  have J4 : Hid _ := j4
  have K4 : Hid _ := k4
  clear j3 k3 j4 k4
  go_enter Try.func6, Try.ntmps6
  go_wp2_with (first
    | (go_at_call 7; refine hnew.mono ?_; clear hnew; rintro z w1 ⟨b, rfl, hB1, hb1⟩; have hev := Try.event_f hB1 (by unfold maxLen; omega) Ct.tR Ct.t1 s1 rfl (by decide); have HB1 : Hid _ := hb1; clear hB1 hb1)
    | (go_at_call 8; refine hev.mono ?_; clear hev; rintro z w2 ⟨rfl, hB2, hb2⟩; have hno := Try.note_f hB2 (by unfold maxLen; omega) Ct.tA Ct.tR Ct.t1 s1 sR sA true ⟨#[]⟩ false 0 rfl rfl; have HB2 : Hid _ := hb2; clear hB2 hb2)
    | (go_at_call 9; refine hno.mono ?_; clear hno; rintro z w3 ⟨rfl, hB3, hb3⟩; have hco := Try.counts_f (s := Ct.aw3) hB3 (by omega) Ct.tA Ct.tR sR sA J3.out K3.out; have HB3 : Hid _ := hb3; clear hB3 hb3)
    | (go_at_call 13; refine hco.mono ?_; clear hco; rintro z w4 ⟨rfl, hB4, hb4⟩; have hrc := Try.receipt_f hB4 (by unfold maxLen; omega) Ct.tA Ct.tR Ct.t1 s1 sR sA; rw [decide_eq_true Ct.aw3_lt] at hrc; have HB4 : Hid _ := hb4; clear hB4 hb4)
    | (go_at_call 14; refine hrc.mono ?_; clear hrc; rintro z w5 ⟨rfl, hB5, hb5⟩; have hcp := Try.counts_f (s := Ct.aw4) hB5 (by omega) Ct.tA Ct.tR sR sA J4.out K4.out; have HB5 : Hid _ := hb5; clear hB5 hb5)
    | (go_at_call 13; refine hcp.mono ?_; clear hcp; rintro z w6 ⟨rfl, hB6, hb6⟩; have HB6 : Hid _ := hb6; clear hB6 hb6)
    | fail)
  go_ret
  exact ⟨rfl, ((((HB1.out.trans HB2.out).trans HB3.out).trans HB4.out).trans HB5.out).trans HB6.out⟩
/-- The raw number c, of n things. -/
def Ct.pickN (c : Int) (n : Nat) : Nat := (if c < 0 then -(c + 1) else c).toNat % n
theorem Ct.pickN_lt (c : Int) {n : Nat} (h : 0 < n) : Ct.pickN c n < n := Nat.mod_lt _ h
theorem Ct.pick_neg {c : Int} {n : Nat} (hc : c < 0) : -(c + 1).tmod (n : Int) = ((Ct.pickN c n : Nat) : Int) := by
  obtain ⟨m, hm⟩ : ∃ m : Nat, -(c + 1) = (m : Int) := ⟨(-(c + 1)).toNat, by omega⟩
  have h1 : c + 1 = -(m : Int) := by omega
  rw [Ct.pickN, if_pos hc, hm, h1, Int.neg_tmod, Int.neg_neg, ← Int.ofNat_tmod]; rfl
theorem Ct.pick_pos {c : Int} {n : Nat} (hc : 0 ≤ c) : c % (n : Int) = ((Ct.pickN c n : Nat) : Int) := by
  obtain ⟨m, rfl⟩ : ∃ m : Nat, c = (m : Int) := ⟨c.toNat, by omega⟩
  rw [Ct.pickN, if_neg (by omega)]; rfl
set_option maxHeartbeats 1000000 in
theorem Try.pick_any (c : Int) (n : Nat) (hn : 0 < n) (hn2 : n < 1000000) (h1 : -9223372036854775808 ≤ c) (h2 : c ≤ 9223372036854775807) (w : World) :
    Calls Try.prog 11 #[.int .i64 c, .int .i64 n] w fun e w' => e = .returned (.int .i64 (Ct.pickN c n)) ∧ w' = w := by
  by_cases hc : c < 0
  · have e := Ct.pick_neg (n := n) hc
    have HE : Hid _ := e
    clear e
    go_enter Try.func11, Try.ntmps11
    go_wp2
    go_ret
    exact ⟨by rw [← HE.out]; rfl, rfl⟩
  · have e := Ct.pick_pos (c := c) (n := n) (by omega)
    have HE : Hid _ := e
    clear e
    go_enter Try.func11, Try.ntmps11
    go_wp2
    go_ret
    exact ⟨by rw [← HE.out]; rfl, rfl⟩
end Go.Proofs
