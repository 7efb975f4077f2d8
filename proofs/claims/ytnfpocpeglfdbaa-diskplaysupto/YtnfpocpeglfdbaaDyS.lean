/-
  The plain calls on all that stands; what a step keeps.
-/
import Derived.Test.YtnfpocpeglfdbaaDyQ
import Derived.Test.YtnfpocpeglfdbaaDyR
import Derived.Deep.RegionHeld3
namespace Go.Proofs
open Go.RowKit Go.Dk
section
variable {B : Nat} {w0 w : World} {wb : Nat} {G : Dk.Gs} {ps : List Dk.Pq} {H : Nat} {rv : Nat → Value} {rb : Nat → List UInt8}
theorem Try.Zw.dsync (h : Try.Zw B w0 w wb G ps H rv rb) {i c : Nat} {p : Dk.Pq} (hp : ps[i]? = some p) (ho : Ok c p.s) (hc : c ≤ 500000) {s' : DS} {E : Int} (hs : (s', E) = p.s.sy) :
    Calls Try.prog 12 #[.pointer (some ⟨p.d, 0, none⟩)] w fun e w' => e = .returned (.int .i64 E) ∧ Try.Zw B w0 w' wb G (ps.set i { p with s := s' }) H rv rb := by
  have hs1 : s' = p.s.sy.1 := by rw [← hs]
  have hs2 : E = p.s.sy.2 := by rw [← hs]
  rw [hs1, hs2]
  exact h.dcall hp (R := fun e => e = .returned (.int .i64 p.s.sy.2)) fun l t V hm => Try.sync_x hm ho hc
theorem Try.Zw.rsync (h : Try.Zw B w0 w wb G ps H rv rb) {i c : Nat} {p : Dk.Pq} (hp : ps[i]? = some p) (ho : Ok c p.t) (hc : c ≤ 500000) {s' : DS} {E : Int} (hs : (s', E) = p.t.sy) :
    Calls Try.prog 13 #[.pointer (some ⟨p.r, 0, none⟩)] w fun e w' => e = .returned (.int .i64 E) ∧ Try.Zw B w0 w' wb G (ps.set i { p with t := s' }) H rv rb := by
  have hs1 : s' = p.t.sy.1 := by rw [← hs]
  have hs2 : E = p.t.sy.2 := by rw [← hs]
  rw [hs1, hs2]
  exact h.rcall hp (R := fun e => e = .returned (.int .i64 p.t.sy.2)) fun Lv Wv a k t hm => Try.rsync_x hm ho hc
theorem Try.Zw.dfuse (h : Try.Zw B w0 w wb G ps H rv rb) {i : Nat} {p : Dk.Pq} (hp : ps[i]? = some p) (n k q : Int) {s' : DS} {E : Int} (hs : (s', E) = p.s.fu n k q) :
    Calls Try.prog 14 #[.pointer (some ⟨p.d, 0, none⟩), .int .i64 n, .agg #[.int .i64 k, .int .i64 q]] w fun e w' => e = .returned (.int .i64 E) ∧ Try.Zw B w0 w' wb G (ps.set i { p with s := s' }) H rv rb := by
  have hs1 : s' = (p.s.fu n k q).1 := by rw [← hs]
  have hs2 : E = (p.s.fu n k q).2 := by rw [← hs]
  rw [hs1, hs2]
  exact h.dcall hp (R := fun e => e = .returned (.int .i64 (p.s.fu n k q).2)) fun l t V hm => Try.fuse_x hm n k q
theorem Try.Zw.rfuse (h : Try.Zw B w0 w wb G ps H rv rb) {i : Nat} {p : Dk.Pq} (hp : ps[i]? = some p) (n k q : Int) {s' : DS} {E : Int} (hs : (s', E) = p.t.fu n k q) :
    Calls Try.prog 15 #[.pointer (some ⟨p.r, 0, none⟩), .int .i64 n, .agg #[.int .i64 k, .int .i64 q]] w fun e w' => e = .returned (.int .i64 E) ∧ Try.Zw B w0 w' wb G (ps.set i { p with t := s' }) H rv rb := by
  have hs1 : s' = (p.t.fu n k q).1 := by rw [← hs]
  have hs2 : E = (p.t.fu n k q).2 := by rw [← hs]
  rw [hs1, hs2]
  exact h.rcall hp (R := fun e => e = .returned (.int .i64 (p.t.fu n k q).2)) fun Lv Wv a k0 t hm => Try.rfuse_x hm n k q
theorem Try.Zw.dcrash (h : Try.Zw B w0 w wb G ps H rv rb) {i c : Nat} {p : Dk.Pq} (hp : ps[i]? = some p) (ho : Ok c p.s) (hc : c ≤ 500000) (k q : Int) {s' : DS} {E : Int} (hs : (s', E) = p.s.cr k q) :
    Calls Try.prog 16 #[.pointer (some ⟨p.d, 0, none⟩), .agg #[.int .i64 k, .int .i64 q]] w fun e w' => e = .returned (.int .i64 E) ∧ Try.Zw B w0 w' wb G (ps.set i { p with s := s' }) H rv rb := by
  have hs1 : s' = (p.s.cr k q).1 := by rw [← hs]
  have hs2 : E = (p.s.cr k q).2 := by rw [← hs]
  rw [hs1, hs2]
  exact h.dcall hp (R := fun e => e = .returned (.int .i64 (p.s.cr k q).2)) fun l t V hm => Try.crash_x hm ho hc k q
theorem Try.Zw.rcrash (h : Try.Zw B w0 w wb G ps H rv rb) {i c : Nat} {p : Dk.Pq} (hp : ps[i]? = some p) (ho : Ok c p.t) (hc : c ≤ 500000) (k q : Int) {s' : DS} {E : Int} (hs : (s', E) = p.t.cr k q) :
    Calls Try.prog 17 #[.pointer (some ⟨p.r, 0, none⟩), .agg #[.int .i64 k, .int .i64 q]] w fun e w' => e = .returned (.int .i64 E) ∧ Try.Zw B w0 w' wb G (ps.set i { p with t := s' }) H rv rb := by
  have hs1 : s' = (p.t.cr k q).1 := by rw [← hs]
  have hs2 : E = (p.t.cr k q).2 := by rw [← hs]
  rw [hs1, hs2]
  exact h.rcall hp (R := fun e => e = .returned (.int .i64 (p.t.cr k q).2)) fun Lv Wv a k0 t hm => Try.rcrash_x hm ho hc k q
theorem Try.Zw.drestart (h : Try.Zw B w0 w wb G ps H rv rb) {i : Nat} {p : Dk.Pq} (hp : ps[i]? = some p) :
    Calls Try.prog 18 #[.pointer (some ⟨p.d, 0, none⟩)] w fun e w' => (∃ v, e = .returned v) ∧ Try.Zw B w0 w' wb G (ps.set i { p with s := p.s.restart }) H rv rb :=
  h.dcall hp (R := fun e => ∃ v, e = .returned v) fun _ _ _ hm => (Try.restart_any hm).mono fun _ _ ⟨e1, e2, e3⟩ => ⟨e1, ⟨_, e2, e3.mono fun _ e => .inl e, fun _ e => .inl e⟩⟩
theorem Try.Zw.rrestart (h : Try.Zw B w0 w wb G ps H rv rb) {i : Nat} {p : Dk.Pq} (hp : ps[i]? = some p) :
    Calls Try.prog 19 #[.pointer (some ⟨p.r, 0, none⟩)] w fun e w' => (∃ v, e = .returned v) ∧ Try.Zw B w0 w' wb G (ps.set i { p with t := p.t.restart }) H rv rb :=
  h.rcall hp (R := fun e => ∃ v, e = .returned v) fun Lv Wv a k t hm => (Try.rRestart_any hm).mono fun _ _ ⟨e1, e2, e3⟩ => ⟨e1, Lv, Wv, a, k, t, e2, e3.mono fun _ e => .inl e, fun _ e => .inl e⟩
/-- The pairs as a row. -/
theorem Try.Zw.lrow (h : Try.Zw B w0 w wb G ps H rv rb) : ∃ ad cap, w.cell? ⟨wb, 0, none⟩ = some (.slice ad ps.length cap) ∧ ps.length ≤ cap ∧ ∀ i p, ps[i]? = some p → ∃ g, ad = some ⟨g, 0, none⟩ ∧ w.cell? ⟨g, i * 2, none⟩ = some (.pointer (some ⟨p.d, 0, none⟩)) ∧ w.cell? ⟨g, i * 2 + 1, none⟩ = some (.pointer (some ⟨p.r, 0, none⟩)) := by
  obtain ⟨tag, lv, kv, hs, g, -⟩ := h.ex
  obtain ⟨ad, cap, e, h1, h2, h3⟩ := Dk.rowForm g.lr
  subst e
  refine ⟨ad, cap, cell_of_row w wb 0 _ _ _ g.bl, h3, fun i p hp => ?_⟩
  have hi := (List.getElem?_eq_some_iff.1 hp).1
  obtain ⟨d, rfl⟩ : ∃ d, ad = some d := by
    cases ad with
    | none => have := (h1 rfl).2; omega
    | some d => exact ⟨d, rfl⟩
  obtain ⟨gb, rfl⟩ := h2 d rfl
  obtain ⟨e1, e2⟩ := Dk.pcs_at ps i p hp
  have c1 := g.lr.cells (g := gb) rfl _ _ e1
  have c2 := g.lr.cells (g := gb) rfl _ _ e2
  rw [Addr.add_mid, Nat.zero_add] at c1 c2
  exact ⟨gb, rfl, c1, c2⟩
end
/-- What a step keeps of the pairs. -/
structure Dk.Pin (c : Nat) (ps : List Dk.Pq) : Prop where
  len : ps.length ≤ 5
  ok : ∀ (i : Nat) (p : Dk.Pq), ps[i]? = some p → p.t = p.s ∧ Ok c p.s
theorem Dk.Pin.set {c : Nat} {ps : List Dk.Pq} (h : Dk.Pin c ps) (i : Nat) (p : Dk.Pq) (h1 : p.t = p.s ∧ Ok (c + 1) p.s) : Dk.Pin (c + 1) (ps.set i p) := by
  refine ⟨by rw [List.length_set]; exact h.len, fun k q hq => ?_⟩
  rw [List.getElem?_set] at hq
  split at hq
  · split at hq
    · cases hq; exact h1
    · cases hq
  · exact ⟨(h.ok k q hq).1, (h.ok k q hq).2.up (by omega)⟩
theorem Dk.Pin.up {c : Nat} {ps : List Dk.Pq} (h : Dk.Pin c ps) : Dk.Pin (c + 1) ps := ⟨h.len, fun k q hq => ⟨(h.ok k q hq).1, (h.ok k q hq).2.up (by omega)⟩⟩
/-- What a step leaves. -/
def Try.Stp (B : Nat) (w0 : World) (wb : Nat) (G : Dk.Gs) (c H : Nat) (w' : World) : Prop := ∃ ps' H', Try.Zw B w0 w' wb G ps' H' Dk.r0 Dk.b0 ∧ Dk.Pin (c + 1) ps' ∧ H' ≤ H + 480
end Go.Proofs
