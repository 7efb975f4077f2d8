/-
  DiskParts: what its loops keep.
-/
import Derived.Test.YtjidghhgoofhlaaDu
import Derived.Test.YtjidghhgoofhlaaDq
namespace Go.Proofs
open Go.RowKit Go.Dk
theorem Try.One.copy {B : Nat} {w0 w : World} {a : Nat} {sa : DS} (h : Try.One B w0 w a sa) :
    Calls Try.prog 19 #[.pointer (some ⟨a, 0, none⟩)] w fun e w' => ∃ b c, e = .returned (.pointer (some ⟨b, 0, none⟩)) ∧ Try.Two B w0 w' a b sa { sa with ct := c } := by
  have h' := h
  obtain ⟨oa, h1, h2⟩ := h.ex
  obtain ⟨l, t, V, hm, hf⟩ := h1.ex
  refine (Try.copy_any hm).mono ?_
  rintro e w' ⟨y, l', t', V', c, rfl, hm', hb, hge⟩
  refine ⟨y, c, rfl, ⟨oa, Dk.foot y l' t' V', h1.keep (fun k e => hb.block k (h1.lt k e)) hb.size, ⟨⟨l', t', V', hm', fun k e => e⟩, hm'.foot_lt⟩, fun k e f => ?_, h2, fun k f => ?_⟩, (h'.below hb).bel, (h'.below hb).le⟩
  · have := h1.lt k e
    have := hge k f
    omega
  · have := hge k f
    have := h.le
    omega
/-- What the first loop leaves. -/
structure Try.P1 (B : Nat) (w0 wr : World) (a : Nat) (l : List Pt) (k : Nat) : Prop where
  one : Try.One B w0 wr a (runD Dk.ds8 (l.take k))
theorem Try.P1.sync {B : Nat} {w0 wr : World} {a : Nat} {l : List Pt} {k : Nat} {p : Pt} (h : Try.P1 B w0 wr a l k) (hl : k ≤ 30) (hp : l[k]? = some p) (hs : p.S = true) :
    Calls Try.prog 8 #[.pointer (some ⟨a, 0, none⟩)] wr fun e w' => e = .returned (.int .i64 0) ∧ Try.P1 B w0 w' a l (k + 1) := by
  have hf := Dk.fit_run (l.take k) (by rw [List.length_take]; omega)
  refine (h.one.sync hf.dead (.inl hf.fset) hf.synced).mono fun e w' ⟨r1, r2⟩ => ⟨r1, ⟨?_⟩⟩
  rw [Dk.take_one hp, runD_one, stepD, if_pos hs]; exact r2
theorem Try.P1.write {B : Nat} {w0 wr W : World} {a : Nat} {l : List Pt} {k : Nat} {p : Pt} (h : Try.P1 B w0 wr a l k) (hb : Below wr.heap.size wr W) (hl : k ≤ 30) (hp : l[k]? = some p) (hs : p.S = false) (v : Value) (hv : Dk.Src W v (Dk.bytesOf p.N p.C)) :
    Calls Try.prog 9 #[.pointer (some ⟨a, 0, none⟩), .int .i64 (Dk.pickN p.I 8), v] W fun e w' => e = .returned (.int .i64 0) ∧ Try.P1 B w0 w' a l (k + 1) := by
  have hf := Dk.fit_run (l.take k) (by rw [List.length_take]; omega)
  refine ((h.one.below hb).write hf.dead hf.W (.inl hf.fset) hf.wrote (by rw [hf.fl]; omega) (by rw [hf.fl]; omega) _ (by rw [hf.n]; exact Dk.pickN_lt _ (by omega)) _ (Dk.bytesOf_len _ _) v hv).mono fun e w' ⟨r1, r2⟩ => ⟨r1, ⟨?_⟩⟩
  rw [Dk.take_one hp, runD_one, stepD, if_neg (by simp [hs])]; exact r2
/-- A disk that may be asked and written, all of whose numbers are small. -/
structure Dk.Sm (s : DS) (j : Nat) : Prop where
  n : s.n = 8
  dead : s.dead = false
  fset : s.fset = false
  fl : s.fl = 0
  falls : s.falls = 0
  W : s.W.length ≤ 40 + j
  wrote : s.wrote ≤ 100 + j
  synced : s.synced ≤ 100
theorem Dk.sm_run (l : List Pt) (h : l.length ≤ 30) : Dk.Sm (runD Dk.ds8 l) 0 := by
  obtain ⟨y, hy, e⟩ := runD_eq l
  have h1 := ws_len l
  have h2 := ws_len (l.drop (lastOf l))
  rw [List.length_drop] at h2
  rw [e]
  exact ⟨rfl, rfl, rfl, rfl, rfl, by simp only; omega, by simp only; omega, by simp only; omega⟩
theorem Dk.Sm.put {s : DS} {j : Nat} (h : Dk.Sm s j) (i : Nat) (b : List UInt8) : Dk.Sm (s.put i b) (j + 1) :=
  ⟨h.n, h.dead, h.fset, by simp [DS.put, h.fset, h.fl], h.falls, by have := h.W; simp [DS.put]; omega, by have := h.wrote; simp [DS.put]; omega, h.synced⟩
theorem Dk.Sm.ct {s : DS} {j : Nat} (h : Dk.Sm s j) (c : Nat) : Dk.Sm { s with ct := c } j := ⟨h.n, h.dead, h.fset, h.fl, h.falls, h.W, h.wrote, h.synced⟩
/-- Ahead of the copy. -/
structure Try.P0 (B : Nat) (w0 wr : World) (a : Nat) (sd : DS) : Prop where
  one : Try.One B w0 wr a sd
  sm : Dk.Sm sd 0
theorem Try.P1.fin {B : Nat} {w0 wr : World} {a : Nat} {l : List Pt} {k : Nat} (h : Try.P1 B w0 wr a l k) (hk : k ≤ 30) : ∃ sd, Try.P0 B w0 wr a sd :=
  ⟨_, h.one, Dk.sm_run _ (by rw [List.length_take]; omega)⟩
theorem Try.P0.whole {B : Nat} {w0 wr : World} {a : Nat} {sd : DS} (h : Try.P0 B w0 wr a sd) :
    Calls Try.prog 16 #[.pointer (some ⟨a, 0, none⟩)] wr fun e w' => e = .returned (.tuple #[.string ⟨sd.view.toArray⟩, .bool true]) ∧ Try.P0 B w0 w' a sd :=
  (Try.whole_any h.one.rdb h.sm.dead h.sm.n).mono fun _ _ ⟨r1, r2⟩ => ⟨r1, h.one.below r2, h.sm⟩
/-- The disk, and another one that was written to. -/
structure Try.P2 (B : Nat) (w0 wr : World) (a b : Nat) (sd : DS) (k : Nat) : Prop where
  ex : ∃ sb, Try.Two B w0 wr a b sd sb ∧ Dk.Sm sb k
  sm : Dk.Sm sd 0
/-- Just behind the copy. -/
structure Try.P2c (B : Nat) (w0 wr : World) (a b : Nat) (sd : DS) (c : Nat) : Prop where
  two : Try.Two B w0 wr a b sd { sd with ct := c }
  sm : Dk.Sm sd 0
theorem Try.P0.copy {B : Nat} {w0 wr : World} {a : Nat} {sd : DS} (h : Try.P0 B w0 wr a sd) :
    Calls Try.prog 19 #[.pointer (some ⟨a, 0, none⟩)] wr fun e w' => ∃ b c, e = .returned (.pointer (some ⟨b, 0, none⟩)) ∧ Try.P2c B w0 w' a b sd c :=
  h.one.copy.mono fun _ _ ⟨b, c, r1, r2⟩ => ⟨b, c, r1, r2, h.sm⟩
theorem Try.P2c.drewN {B : Nat} {w0 wr : World} {a b : Nat} {sd : DS} {c : Nat} (h : Try.P2c B w0 wr a b sd c) (n : Nat) : Try.P2c B w0 (wr.drewN n) a b sd c :=
  ⟨h.two.below ⟨rfl, rfl, rfl, Nat.le_refl _, fun _ _ => rfl⟩, h.sm⟩
theorem Try.P2c.costsA {B : Nat} {w0 wr : World} {a b : Nat} {sd : DS} {c : Nat} (h : Try.P2c B w0 wr a b sd c) :
    Calls Try.prog 20 #[.pointer (some ⟨a, 0, none⟩)] wr fun e w' => e = .returned (.tuple #[.int .i64 sd.wrote, .int .i64 sd.synced]) ∧ Try.P2c B w0 w' a b sd c :=
  h.two.reads fun _l _t _V hm => (Try.costs_any hm).mono fun _ _ ⟨r1, n, r2⟩ => ⟨r1, by subst r2; exact h.drewN n⟩
theorem Try.P2c.costsB {B : Nat} {w0 wr : World} {a b : Nat} {sd : DS} {c : Nat} (h : Try.P2c B w0 wr a b sd c) :
    Calls Try.prog 20 #[.pointer (some ⟨b, 0, none⟩)] wr fun e w' => e = .returned (.tuple #[.int .i64 sd.wrote, .int .i64 sd.synced]) ∧ Try.P2c B w0 w' a b sd c :=
  h.two.symm.reads fun _l _t _V hm => (Try.costs_any hm).mono fun _ _ ⟨r1, n, r2⟩ => ⟨r1, by subst r2; exact h.drewN n⟩
theorem Try.P2c.wholeB {B : Nat} {w0 wr : World} {a b : Nat} {sd : DS} {c : Nat} (h : Try.P2c B w0 wr a b sd c) :
    Calls Try.prog 16 #[.pointer (some ⟨b, 0, none⟩)] wr fun e w' => e = .returned (.tuple #[.string ⟨sd.view.toArray⟩, .bool true]) ∧ Try.P2 B w0 w' a b sd 0 :=
  (Try.whole_any h.two.symm.rdb h.sm.dead h.sm.n).mono fun _ _ ⟨r1, r2⟩ => ⟨r1, ⟨_, h.two.below r2, h.sm.ct c⟩, h.sm⟩
theorem Try.P2.below {B : Nat} {w0 wr W : World} {a b : Nat} {sd : DS} {k : Nat} (h : Try.P2 B w0 wr a b sd k) (hb : Below wr.heap.size wr W) : Try.P2 B w0 W a b sd k := by
  obtain ⟨sb, h1, h2⟩ := h.ex
  exact ⟨⟨sb, h1.below hb, h2⟩, h.sm⟩
theorem Try.P2.bel {B : Nat} {w0 wr : World} {a b : Nat} {sd : DS} {k : Nat} (h : Try.P2 B w0 wr a b sd k) : Below B w0 wr := by
  obtain ⟨sb, h1, h2⟩ := h.ex
  exact h1.bel
theorem Try.P2.write {B : Nat} {w0 wr W : World} {a b : Nat} {sd : DS} {k : Nat} {p : Pt} (h : Try.P2 B w0 wr a b sd k) (hb : Below wr.heap.size wr W) (hk : k ≤ 30) (v : Value) (hv : Dk.Src W v (Dk.bytesOf p.N p.C)) :
    Calls Try.prog 9 #[.pointer (some ⟨b, 0, none⟩), .int .i64 (Dk.pickN p.I 8), v] W fun e w' => e = .returned (.int .i64 0) ∧ Try.P2 B w0 w' a b sd (k + 1) := by
  obtain ⟨sb, h1, hf⟩ := h.ex
  have hW := hf.W
  have hw := hf.wrote
  exact ((h1.below hb).symm.write hf.dead (by omega) (.inl hf.fset) (by omega) (by rw [hf.fl]; omega) (by rw [hf.fl]; omega) _ (by rw [hf.n]; exact Dk.pickN_lt _ (by omega)) _ (Dk.bytesOf_len _ _) v hv).mono fun e w' ⟨r1, r2⟩ => ⟨r1, ⟨_, r2.symm, hf.put _ _⟩, h.sm⟩
theorem Try.P2.wholeA {B : Nat} {w0 wr : World} {a b : Nat} {sd : DS} {k : Nat} (h : Try.P2 B w0 wr a b sd k) :
    Calls Try.prog 16 #[.pointer (some ⟨a, 0, none⟩)] wr fun e w' => e = .returned (.tuple #[.string ⟨sd.view.toArray⟩, .bool true]) ∧ Try.P2 B w0 w' a b sd k := by
  obtain ⟨sb, h1, hf⟩ := h.ex
  exact (Try.whole_any h1.rdb h.sm.dead h.sm.n).mono fun _ _ ⟨r1, r2⟩ => ⟨r1, ⟨sb, h1.below r2, hf⟩, h.sm⟩
/-- The other one has crashed. -/
structure Try.P3 (B : Nat) (w0 wr : World) (a b : Nat) (sd : DS) : Prop where
  ex : ∃ sb, Try.Two B w0 wr a b sd sb
  n : sd.n = 8
theorem Try.P3.bel {B : Nat} {w0 wr : World} {a b : Nat} {sd : DS} (h : Try.P3 B w0 wr a b sd) : Below B w0 wr := by
  obtain ⟨sb, h1⟩ := h.ex
  exact h1.bel
theorem Try.P2.crashB {B : Nat} {w0 wr : World} {a b : Nat} {sd : DS} {k : Nat} (h : Try.P2 B w0 wr a b sd k) (K T : Int) :
    Calls Try.prog 12 #[.pointer (some ⟨b, 0, none⟩), .agg #[.int .i64 K, .int .i64 T]] wr fun e w' => e = .returned (.int .i64 0) ∧ Try.P3 B w0 w' a b sd := by
  obtain ⟨sb, h1, hf⟩ := h.ex
  exact (h1.symm.crash hf.dead (by rw [hf.falls]; omega) K T).mono fun _ _ ⟨r1, r2⟩ => ⟨r1, ⟨_, r2.symm⟩, h.sm.n⟩
theorem Try.P3.sync {B : Nat} {w0 wr : World} {a b : Nat} {sd : DS} (h : Try.P3 B w0 wr a b sd) (hs : Dk.Sm sd 0) :
    Calls Try.prog 8 #[.pointer (some ⟨a, 0, none⟩)] wr fun e w' => e = .returned (.int .i64 0) ∧ Try.P3 B w0 w' a b sd.sync := by
  obtain ⟨sb, h1⟩ := h.ex
  exact (h1.sync hs.dead (.inl hs.fset) (by have := hs.synced; omega)).mono fun _ _ ⟨r1, r2⟩ => ⟨r1, ⟨_, r2⟩, h.n⟩
theorem Try.P3.crash {B : Nat} {w0 wr : World} {a b : Nat} {sd : DS} (h : Try.P3 B w0 wr a b sd.sync) (hs : Dk.Sm sd 0) (K T : Int) :
    Calls Try.prog 12 #[.pointer (some ⟨a, 0, none⟩), .agg #[.int .i64 K, .int .i64 T]] wr fun e w' => e = .returned (.int .i64 0) ∧ Try.P3 B w0 w' a b (sd.sync.fail K T) := by
  obtain ⟨sb, h1⟩ := h.ex
  exact (h1.crash hs.dead (by show sd.falls < _; rw [hs.falls]; omega) K T).mono fun _ _ ⟨r1, r2⟩ => ⟨r1, ⟨_, r2⟩, h.n⟩
theorem Try.P3.restart {B : Nat} {w0 wr : World} {a b : Nat} {sd : DS} (h : Try.P3 B w0 wr a b sd) :
    Calls Try.prog 15 #[.pointer (some ⟨a, 0, none⟩)] wr fun e w' => (∃ v, e = .returned v) ∧ Try.P3 B w0 w' a b sd.restart := by
  obtain ⟨sb, h1⟩ := h.ex
  exact h1.restart.mono fun _ _ ⟨r1, r2⟩ => ⟨r1, ⟨_, r2⟩, h.n⟩
theorem Dk.parts_view (sd : DS) (K T : Int) : (sd.sync.fail K T).restart.view = sd.view := by
  show sink (failL sd.view [] K T) [] = sd.view
  simp [failL, kept, sink]
theorem Try.P3.whole {B : Nat} {w0 wr : World} {a b : Nat} {sd : DS} {K T : Int} (h : Try.P3 B w0 wr a b (sd.sync.fail K T).restart) :
    Calls Try.prog 16 #[.pointer (some ⟨a, 0, none⟩)] wr fun e w' => e = .returned (.tuple #[.string ⟨sd.view.toArray⟩, .bool true]) ∧ Below B w0 w' := by
  obtain ⟨sb, h1⟩ := h.ex
  refine (Try.whole_any h1.rdb rfl h.n).mono fun _ _ ⟨r1, r2⟩ => ⟨?_, h1.bel.trans (r2.mono h1.le)⟩
  rw [Dk.parts_view] at r1
  exact r1
end Go.Proofs
