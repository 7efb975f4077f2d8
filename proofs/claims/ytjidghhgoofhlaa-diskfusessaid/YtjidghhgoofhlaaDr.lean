/-
  DiskFuses: what its loop keeps.
-/
import Derived.Test.YtjidghhgoofhlaaDq
namespace Go.Proofs
open Go.RowKit Go.Dk
/-- The same disk, with a fuse. -/
def Dk.arm (s : DS) (l K T : Int) : DS := { s with fset := true, fl := l, fk := K, ft := T }
theorem Dk.arm_put (s : DS) (l K T : Int) (i : Nat) (c : List UInt8) : (Dk.arm s l K T).put i c = Dk.arm (s.put i c) (l - 1) K T := rfl
theorem Dk.arm_sync (s : DS) (l K T : Int) : (Dk.arm s l K T).sync = Dk.arm s.sync l K T := rfl
theorem Dk.arm_fail (s : DS) (l K T : Int) : (Dk.arm s l K T).fail K T = s.fail K T := rfl
/-- Ahead of the restarts: what lasts is alike. -/
structure Try.Fin0 (B : Nat) (w0 wr : World) (a b : Nat) : Prop where
  ex : ∃ sa sb, Try.Two B w0 wr a b sa sb ∧ sa.n = 8 ∧ sb.n = 8 ∧ sb.view = sa.view
structure Try.Fin1 (B : Nat) (w0 wr : World) (a b : Nat) : Prop where
  ex : ∃ sa sb, Try.Two B w0 wr a b sa sb ∧ sa.n = 8 ∧ sb.n = 8 ∧ sb.view = sa.view ∧ sa.dead = false
theorem Try.Fin0.restart {B : Nat} {w0 wr : World} {a b : Nat} (h : Try.Fin0 B w0 wr a b) :
    Calls Try.prog 15 #[.pointer (some ⟨a, 0, none⟩)] wr fun e w' => (∃ v, e = .returned v) ∧ Try.Fin1 B w0 w' a b := by
  obtain ⟨sa, sb, h1, h2, h3, h4⟩ := h.ex
  exact h1.restart.mono fun e w' ⟨r1, r2⟩ => ⟨r1, sa.restart, sb, r2, h2, h3, h4, rfl⟩
theorem Try.Fin1.restart {B : Nat} {w0 wr : World} {a b : Nat} (h : Try.Fin1 B w0 wr a b) :
    Calls Try.prog 15 #[.pointer (some ⟨b, 0, none⟩)] wr fun e w' => (∃ v, e = .returned v) ∧ ∃ sa sb, Try.Fin B w0 w' a b sa sb := by
  obtain ⟨sa, sb, h1, h2, h3, h4, h5⟩ := h.ex
  exact h1.symm.restart.mono fun e w' ⟨r1, r2⟩ => ⟨r1, sa, sb.restart, r2.symm, h2, h3, h5, rfl, h4⟩
/-- Behind the fuse, ahead of the other one's crash. -/
structure Try.Pre (B : Nat) (w0 wr : World) (a b : Nat) (K T : Int) : Prop where
  ex : ∃ sa sb, Try.Two B w0 wr a b sa sb ∧ sa.n = 8 ∧ sb.n = 8 ∧ sa.dead = true ∧ sa.falls = 1 ∧ sb.dead = false ∧ sb.falls = 0 ∧ (sb.fail K T).view = sa.view
structure Try.Pre2 (B : Nat) (w0 wr : World) (a b : Nat) : Prop where
  ex : ∃ sa sb, Try.Two B w0 wr a b sa sb ∧ sa.n = 8 ∧ sb.n = 8 ∧ sa.dead = true ∧ sa.falls = 1 ∧ sb.falls = 1 ∧ sb.view = sa.view
theorem Try.Pre.crash {B : Nat} {w0 wr : World} {a b : Nat} {K T : Int} (h : Try.Pre B w0 wr a b K T) :
    Calls Try.prog 12 #[.pointer (some ⟨b, 0, none⟩), .agg #[.int .i64 K, .int .i64 T]] wr fun e w' => e = .returned (.int .i64 0) ∧ Try.Pre2 B w0 w' a b := by
  obtain ⟨sa, sb, h1, h2, h3, h4, h5, h6, h7, h8⟩ := h.ex
  exact (h1.symm.crash h6 (by rw [h7]; omega) K T).mono fun e w' ⟨r1, r2⟩ => ⟨r1, sa, sb.fail K T, r2.symm, h2, h3, h4, h5, by show sb.falls + 1 = 1; rw [h7], h8⟩
theorem Try.Pre2.alive {B : Nat} {w0 wr : World} {a b : Nat} (h : Try.Pre2 B w0 wr a b) :
    Calls Try.prog 14 #[.pointer (some ⟨a, 0, none⟩)] wr fun e w' => e = .returned (.bool false) ∧ w' = wr := by
  obtain ⟨sa, sb, h1, h2, h3, h4, h5, h6, h7⟩ := h.ex
  have := h1.alive
  rw [h4] at this
  exact this
theorem Try.Pre2.fallsA {B : Nat} {w0 wr : World} {a b : Nat} (h : Try.Pre2 B w0 wr a b) :
    Calls Try.prog 18 #[.pointer (some ⟨a, 0, none⟩)] wr fun e w' => e = .returned (.int .i64 1) ∧ w' = wr := by
  obtain ⟨sa, sb, h1, h2, h3, h4, h5, h6, h7⟩ := h.ex
  have := h1.falls
  rw [h5] at this
  exact this
theorem Try.Pre2.fallsB {B : Nat} {w0 wr : World} {a b : Nat} (h : Try.Pre2 B w0 wr a b) :
    Calls Try.prog 18 #[.pointer (some ⟨b, 0, none⟩)] wr fun e w' => e = .returned (.int .i64 1) ∧ w' = wr := by
  obtain ⟨sa, sb, h1, h2, h3, h4, h5, h6, h7⟩ := h.ex
  have := h1.symm.falls
  rw [h6] at this
  exact this
theorem Try.Pre2.fin {B : Nat} {w0 wr : World} {a b : Nat} (h : Try.Pre2 B w0 wr a b) : Try.Fin0 B w0 wr a b := by
  obtain ⟨sa, sb, h1, h2, h3, h4, h5, h6, h7⟩ := h.ex
  exact ⟨sa, sb, h1, h2, h3, h7⟩
/-- What the loop leaves. -/
structure Try.M1 (B : Nat) (w0 wr : World) (a b : Nat) (q : List Pt) (K T : Int) (k left : Nat) : Prop where
  two : Try.Two B w0 wr a b (Dk.arm (runD Dk.ds8 (q.take k)) left K T) (runD Dk.ds8 (q.take k))
/-- .. in the midst of a round. -/
structure Try.M2 (B : Nat) (w0 wr : World) (a b : Nat) (q : List Pt) (K T : Int) (k left : Nat) : Prop where
  two : Try.Two B w0 wr a b (Dk.arm (runD Dk.ds8 (q.take (k + 1))) left K T) (runD Dk.ds8 (q.take k))
theorem Dk.fit_take (q : List Pt) (k : Nat) (h : q.length ≤ 40) : Dk.Fit (runD Dk.ds8 (q.take k)) := Dk.fit_run _ (by rw [List.length_take]; omega)
theorem Try.M1.syncA {B : Nat} {w0 wr : World} {a b : Nat} {q : List Pt} {K T : Int} {k left : Nat} {p : Pt} (h : Try.M1 B w0 wr a b q K T k left) (hl : q.length ≤ 40) (hp : q[k]? = some p) (hs : p.S = true) (h0 : 0 < left) :
    Calls Try.prog 8 #[.pointer (some ⟨a, 0, none⟩)] wr fun e w' => e = .returned (.int .i64 0) ∧ Try.M2 B w0 w' a b q K T k left := by
  have hf := Dk.fit_take q k hl
  refine (h.two.sync hf.dead (.inr (by show (0 : Int) < (left : Int); omega)) hf.synced).mono fun e w' ⟨r1, r2⟩ => ⟨r1, ⟨?_⟩⟩
  rw [Dk.arm_sync] at r2
  rw [Dk.take_one hp, runD_one, stepD, if_pos hs]; exact r2
theorem Try.M2.syncB {B : Nat} {w0 wr : World} {a b : Nat} {q : List Pt} {K T : Int} {k left : Nat} {p : Pt} (h : Try.M2 B w0 wr a b q K T k left) (hl : q.length ≤ 40) (hp : q[k]? = some p) (hs : p.S = true) :
    Calls Try.prog 8 #[.pointer (some ⟨b, 0, none⟩)] wr fun e w' => e = .returned (.int .i64 0) ∧ Try.M1 B w0 w' a b q K T (k + 1) left := by
  have hf := Dk.fit_take q k hl
  refine (h.two.symm.sync hf.dead (.inl hf.fset) hf.synced).mono fun e w' ⟨r1, r2⟩ => ⟨r1, ⟨?_⟩⟩
  have e2 : (runD Dk.ds8 (q.take k)).sync = runD Dk.ds8 (q.take (k + 1)) := by rw [Dk.take_one hp, runD_one, stepD, if_pos hs]
  rw [e2] at r2
  exact r2.symm
theorem Try.M1.writeA {B : Nat} {w0 wr W : World} {a b : Nat} {q : List Pt} {K T : Int} {k left : Nat} {p : Pt} (h : Try.M1 B w0 wr a b q K T k left) (hb : Below wr.heap.size wr W) (hl : q.length ≤ 40) (hp : q[k]? = some p) (hs : p.S = false) (h0 : 0 < left) (h45 : left ≤ 45) (v : Value) (hv : Dk.Src W v (Dk.bytesOf p.N p.C)) :
    Calls Try.prog 9 #[.pointer (some ⟨a, 0, none⟩), .int .i64 (Dk.pickN p.I 8), v] W fun e w' => e = .returned (.int .i64 0) ∧ Try.M2 B w0 w' a b q K T k (left - 1) := by
  have hf := Dk.fit_take q k hl
  refine ((h.two.below hb).write hf.dead hf.W (.inr (by show (0 : Int) < (left : Int); omega)) hf.wrote (by show (left : Int) < 1000000000; omega) (by show (0 : Int) ≤ (left : Int); omega) _ (by show _ < (runD Dk.ds8 (q.take k)).n; rw [hf.n]; exact Dk.pickN_lt _ (by omega)) _ (Dk.bytesOf_len _ _) v hv).mono fun e w' ⟨r1, r2⟩ => ⟨r1, ⟨?_⟩⟩
  rw [Dk.arm_put] at r2
  rw [Dk.take_one hp, runD_one, stepD, if_neg (by simp [hs]), show ((left - 1 : Nat) : Int) = (left : Int) - 1 by omega]; exact r2
theorem Try.M2.writeB {B : Nat} {w0 wr W : World} {a b : Nat} {q : List Pt} {K T : Int} {k left : Nat} {p : Pt} (h : Try.M2 B w0 wr a b q K T k left) (hb : Below wr.heap.size wr W) (hl : q.length ≤ 40) (hp : q[k]? = some p) (hs : p.S = false) (v : Value) (hv : Dk.Src W v (Dk.bytesOf p.N p.C)) :
    Calls Try.prog 9 #[.pointer (some ⟨b, 0, none⟩), .int .i64 (Dk.pickN p.I 8), v] W fun e w' => e = .returned (.int .i64 0) ∧ Try.M1 B w0 w' a b q K T (k + 1) left := by
  have hf := Dk.fit_take q k hl
  refine ((h.two.below hb).symm.write hf.dead hf.W (.inl hf.fset) hf.wrote (by rw [hf.fl]; omega) (by rw [hf.fl]; omega) _ (by rw [hf.n]; exact Dk.pickN_lt _ (by omega)) _ (Dk.bytesOf_len _ _) v hv).mono fun e w' ⟨r1, r2⟩ => ⟨r1, ⟨?_⟩⟩
  have e2 : (runD Dk.ds8 (q.take k)).put (Dk.pickN p.I 8) (Dk.bytesOf p.N p.C) = runD Dk.ds8 (q.take (k + 1)) := by rw [Dk.take_one hp, runD_one, stepD, if_neg (by simp [hs])]
  rw [e2] at r2
  exact r2.symm
/-- The fuse: at a sync. -/
theorem Try.M1.syncX {B : Nat} {w0 wr : World} {a b : Nat} {q : List Pt} {K T : Int} {k : Nat} (h : Try.M1 B w0 wr a b q K T k 0) (hl : q.length ≤ 40) :
    Calls Try.prog 8 #[.pointer (some ⟨a, 0, none⟩)] wr fun e w' => e = .returned (.int .i64 41) ∧ Try.Pre B w0 w' a b K T := by
  have hf := Dk.fit_take q k hl
  refine (h.two.syncB hf.dead rfl (by show ((0 : Nat) : Int) ≤ 0; omega) (by show (runD Dk.ds8 (q.take k)).falls < 1000000000; rw [hf.falls]; omega)).mono fun e w' ⟨r1, r2⟩ => ⟨r1, _, _, r2, hf.n, hf.n, rfl, ?_, hf.dead, hf.falls, rfl⟩
  show (runD Dk.ds8 (q.take k)).falls + 1 = 1
  rw [hf.falls]
/-- .. at a write. -/
structure Try.M3 (B : Nat) (w0 wr : World) (a b : Nat) (q : List Pt) (K T : Int) (k : Nat) (p : Pt) : Prop where
  two : Try.Two B w0 wr a b (((Dk.arm (runD Dk.ds8 (q.take k)) 0 K T).lay (Dk.pickN p.I 8) (Dk.bytesOf p.N p.C)).fail K T) (runD Dk.ds8 (q.take k))
theorem Try.M1.writeX {B : Nat} {w0 wr W : World} {a b : Nat} {q : List Pt} {K T : Int} {k : Nat} {p : Pt} (h : Try.M1 B w0 wr a b q K T k 0) (hb : Below wr.heap.size wr W) (hl : q.length ≤ 40) (v : Value) (hv : Dk.Src W v (Dk.bytesOf p.N p.C)) :
    Calls Try.prog 9 #[.pointer (some ⟨a, 0, none⟩), .int .i64 (Dk.pickN p.I 8), v] W fun e w' => e = .returned (.int .i64 41) ∧ Try.M3 B w0 w' a b q K T k p := by
  have hf := Dk.fit_take q k hl
  exact ((h.two.below hb).writeB hf.dead hf.W rfl (by show ((0 : Nat) : Int) ≤ 0; omega) (by show (runD Dk.ds8 (q.take k)).falls < 1000000000; rw [hf.falls]; omega) _ (by show _ < (runD Dk.ds8 (q.take k)).n; rw [hf.n]; exact Dk.pickN_lt _ (by omega)) _ (Dk.bytesOf_len _ _) v hv).mono fun e w' ⟨r1, r2⟩ => ⟨r1, ⟨r2⟩⟩
theorem Try.M3.writeB {B : Nat} {w0 wr W : World} {a b : Nat} {q : List Pt} {K T : Int} {k : Nat} {p : Pt} (h : Try.M3 B w0 wr a b q K T k p) (hb : Below wr.heap.size wr W) (hl : q.length ≤ 40) (v : Value) (hv : Dk.Src W v (Dk.bytesOf p.N p.C)) :
    Calls Try.prog 9 #[.pointer (some ⟨b, 0, none⟩), .int .i64 (Dk.pickN p.I 8), v] W fun e w' => e = .returned (.int .i64 0) ∧ Try.Pre B w0 w' a b K T := by
  have hf := Dk.fit_take q k hl
  refine ((h.two.below hb).symm.write hf.dead hf.W (.inl hf.fset) hf.wrote (by rw [hf.fl]; omega) (by rw [hf.fl]; omega) _ (by rw [hf.n]; exact Dk.pickN_lt _ (by omega)) _ (Dk.bytesOf_len _ _) v hv).mono fun e w' ⟨r1, r2⟩ => ⟨r1, _, _, r2.symm, hf.n, hf.n, rfl, ?_, hf.dead, hf.falls, rfl⟩
  show (runD Dk.ds8 (q.take k)).falls + 1 = 1
  rw [hf.falls]
theorem Try.M1.fin {B : Nat} {w0 wr : World} {a b : Nat} {q : List Pt} {K T : Int} {k left : Nat} (h : Try.M1 B w0 wr a b q K T k left) (hl : q.length ≤ 40) : Try.Fin0 B w0 wr a b :=
  ⟨_, _, h.two, (Dk.fit_take q k hl).n, (Dk.fit_take q k hl).n, rfl⟩
end Go.Proofs
