/-
  Append that writes.
-/
import Derived.Test.YtbnokhaimcpggaaEm
import Derived.Deep.RegionHeld3
namespace Go.Dk
theorem span_le {n p e : Nat} (hn : n ≤ 4096) : span n p e ≤ 2048 := by unfold span half; omega
theorem unflag_len (d : List UInt8) : (unflag d).length = 7 + d.length := by simp [unflag, le_len]; omega
theorem op_free (s : DS) (o : Op) (h : s.fset = false) : (s.op o).2 = true ∧ (s.op o).1.fset = false := by
  have hb : s.blow = false := by unfold DS.blow; rw [h]; rfl
  cases o <;> simp [DS.op, hb, DS.put, DS.sync, h]
theorem run_free : ∀ (ops : List Op) (s : DS), s.fset = false → (s.run ops).2 = true ∧ (s.run ops).1.fset = false
  | [], s, h => ⟨rfl, h⟩
  | o :: r, s, h => by
    have h1 := op_free s o h
    simp only [DS.run, andThen, h1.1, if_true]
    exact run_free r _ h1.2
end Go.Dk
namespace Go.Proofs
open Go.RowKit Go.Dk
/-- A journal, its disk; what a call leaves. -/
structure Try.JChg (own : Nat → Prop) (w w' : World) (y x side gen e f : Nat) (s : DS) : Prop where
  ex : ∃ own', Try.Dsk w' own' x s ∧ ∀ k, own' k → own k ∨ w.heap.size ≤ k
  jn : Try.Jn w' y x side gen e f
  wo : Dk.Wo (fun k => own k ∨ k = y) w w'
theorem Try.JChg.of {own : Nat → Prop} {w w' : World} {y x side gen e f : Nat} {s : DS} (h : Try.Chg own w w' x s) (hj : Try.Jn w y x side gen e f) (hy : ¬ own y) : Try.JChg own w w' y x side gen e f s :=
  ⟨h.ex, hj.wo h.wo hy, h.wo.mono fun _ e => .inl e⟩
theorem Try.JChg.setEnd {own : Nat → Prop} {w w' : World} {y x side gen e f : Nat} {s : DS} (h : Try.JChg own w w' y x side gen e f s) (hy : ¬ own y) (hyl : y < w.heap.size) (e' : Nat) : Try.JChg own w (w'.setCell ⟨y, 3, none⟩ (.int .i64 e')) y x side gen e' f s := by
  obtain ⟨own', h1, h2⟩ := h.ex
  have hb : ∀ k, k ≠ y → (w'.setCell ⟨y, 3, none⟩ (.int .i64 e')).heap[k]? = w'.heap[k]? := fun k hk => Below.heap_setCell w' ⟨y, 3, none⟩ _ k hk
  have hny : ∀ k, own' k → k ≠ y := fun k hk e => by
    subst e
    rcases h2 k hk with h3 | h3
    · exact hy h3
    · omega
  refine ⟨⟨own', h1.keep (fun k hk => hb k (hny k hk)) (by simp), h2⟩, ?_, h.wo.setCell y 3 _ (.inl (.inr rfl))⟩
  have := heap_setCell_same w' y 3 _ _ (.int .i64 e') h.jn
  exact this
set_option maxRecDepth 20000 in
set_option maxHeartbeats 1000000 in
theorem Try.append_ok {w : World} {own : Nat → Prop} {y x side gen e f : Nat} {s : DS} (h : Try.Dsk w own x s) {q : Nat} (hc : s.Can (q + 3000)) (hn : 2 ≤ s.n) (hs : side ≤ 1) (hj : Try.Jn w y x side gen e f) (hy : ¬ own y) (hf : s.falls = f)
    (v : Value) (d : List UInt8) (hv : Dk.Src w v d) (h0 : 0 < d.length) (h6 : d.length ≤ 6000) (hrm : e + 7 + d.length ≤ 64 * half s.n) (hfs : s.fset = false) :
    Calls Try.prog 17 #[.pointer (some ⟨y, 0, none⟩), v] w fun r w' => r = .returned (.int .i64 0) ∧ Try.JChg own w w' y x side gen (e + 7 + d.length) f (s.append side e d).1 := by
  have hln := h.len
  have hhl := Dk.half_le hln.2.2
  have hbr : ∀ W, Below w.heap.size w W → Calls Try.prog 54 #[.pointer (some ⟨y, 0, none⟩)] W _ := fun W hW => Try.broken_any (h.below hW) (hj.below hW)
  have hro : ∀ W, Below w.heap.size w W → Calls Try.prog 18 #[.pointer (some ⟨y, 0, none⟩)] W _ := fun W hW => Try.room_any (h.below hW) hn (by omega) (hj.below hW)
  have hun : ∀ W, Below w.heap.size w W → Calls Try.prog 56 #[v] W _ := fun W hW => Try.unflagged_any (hv.below hW) h0 h6
  have hjn : ∀ W s', Try.Chg own w W x s' → Try.Jn W y x side gen e f := fun W s' hW => hj.wo hW.wo hy
  obtain ⟨r1, hr1⟩ : ∃ r1, r1 = s.into side e (unflag d) := ⟨_, rfl⟩
  have hn1 : r1.1.n = s.n := by rw [hr1]; exact run_n _ _
  have hcan1 : r1.2 = true → r1.1.Can (q + 10) := fun e1 => by
    rw [hr1] at e1 ⊢
    refine run_can _ _ (hc.mono ?_) e1
    rw [chunks_len]
    have := span_le (n := s.n) (p := e) (e := e + (unflag d).length) hln.2.2
    omega
  have hwr : ∀ W, Below w.heap.size w W → ∀ v', Dk.Src W v' (unflag d) → Calls Try.prog 55 #[.agg #[.pointer (some ⟨x, 0, none⟩), .int .i64 side], .int .i64 e, v'] W fun r w' => r = .returned (.bool r1.2) ∧ Try.Chg own w w' x r1.1 := fun W hW v' hv' => by
    rw [hr1]
    refine (Try.awrite_any (h.below hW) (q := q) hn side hs e (by omega) (unflag d) (by rw [unflag_len]; omega) (hc.mono ?_) v' hv').mono fun r w' ⟨g1, g2⟩ => ⟨g1, Try.Chg.pre hW g2⟩
    have := span_le (n := s.n) (p := e) (e := e + (unflag d).length) hln.2.2
    omega
  obtain ⟨r2, hr2⟩ : ∃ r2, r2 = r1.1.op .sy := ⟨_, rfl⟩
  have hsy1 : r1.2 = true → ∀ W, Try.Chg own w W x r1.1 → Calls Try.prog 50 #[.pointer (some ⟨x, 0, none⟩)] W fun r w' => r = .returned (.bool r2.2) ∧ Try.Chg own w w' x r2.1 := fun e1 W hW => by
    obtain ⟨own1, g1, g2⟩ := hW.ex
    rw [hr2]
    exact (Try.synced_any g1 (m := q + 9) (hcan1 e1)).mono fun r w' ⟨k1, k2⟩ => ⟨k1, Try.Chg.trans hW.wo g2 k2⟩
  have hn2 : r2.1.n = s.n := by rw [hr2, DS.op_n]; exact hn1
  have hcan2 : r1.2 = true → r2.2 = true → r2.1.Can (q + 9) := fun e1 e2 => by rw [hr2] at e2 ⊢; exact ((hcan1 e1).op _ (DS.op_ok e2)).2
  obtain ⟨r3, hr3⟩ : ∃ r3, r3 = r2.1.op (.wr (ablk r2.1.n side e) ((blk r2.1.view (ablk r2.1.n side e)).set (e % 64) 1)) := ⟨_, rfl⟩
  have hfl : r1.2 = true → r2.2 = true → ∀ W, Try.Chg own w W x r2.1 → Calls Try.prog 57 #[.agg #[.pointer (some ⟨x, 0, none⟩), .int .i64 side], .int .i64 e] W fun r w' => r = .returned (.bool r3.2) ∧ Try.Chg own w w' x r3.1 := fun e1 e2 W hW => by
    obtain ⟨own1, g1, g2⟩ := hW.ex
    rw [hr3]
    exact (Try.flag_any g1 (q := q + 8) (hcan2 e1 e2) (by rw [hn2]; exact hn) side hs e (by rw [hn2]; omega)).mono fun r w' ⟨k1, k2⟩ => ⟨k1, Try.Chg.trans hW.wo g2 k2⟩
  have hcan3 : r1.2 = true → r2.2 = true → r3.2 = true → r3.1.Can (q + 8) := fun e1 e2 e3 => by rw [hr3] at e3 ⊢; exact ((hcan2 e1 e2).op _ (DS.op_ok e3)).2
  obtain ⟨r4, hr4⟩ : ∃ r4, r4 = r3.1.op .sy := ⟨_, rfl⟩
  have hsy2 : r1.2 = true → r2.2 = true → r3.2 = true → ∀ W, Try.Chg own w W x r3.1 → Calls Try.prog 50 #[.pointer (some ⟨x, 0, none⟩)] W fun r w' => r = .returned (.bool r4.2) ∧ Try.Chg own w w' x r4.1 := fun e1 e2 e3 W hW => by
    obtain ⟨own1, g1, g2⟩ := hW.ex
    rw [hr4]
    exact (Try.synced_any g1 (m := q + 7) (hcan3 e1 e2 e3)).mono fun r w' ⟨k1, k2⟩ => ⟨k1, Try.Chg.trans hW.wo g2 k2⟩
  obtain ⟨rr, hrr⟩ : ∃ rr, rr = s.append side e d := ⟨_, rfl⟩
  have e1 : r1.2 = true ∧ r1.1.fset = false := by rw [hr1]; exact run_free _ _ hfs
  have e2 : r2.2 = true ∧ r2.1.fset = false := by rw [hr2]; exact op_free _ _ e1.2
  have e3 : r3.2 = true ∧ r3.1.fset = false := by rw [hr3]; exact op_free _ _ e2.2
  have e4 : r4.2 = true ∧ r4.1.fset = false := by rw [hr4]; exact op_free _ _ e3.2
  have hR : rr = r4 := by rw [hrr]; unfold DS.append; simp only [andThen, ← hr1, e1.1, if_true, ← hr2, e2.1, ← hr3, e3.1, ← hr4]
  rw [← hrr, hR]
  have hsy1 := hsy1 e1.1
  have hfl := hfl e1.1 e2.1
  have hsy2 := hsy2 e1.1 e2.1 e3.1
  rw [e1.1] at hwr
  rw [e2.1] at hsy1
  rw [e3.1] at hfl
  rw [e4.1] at hsy2
  have hb0 := Below.refl w.heap.size w
  have hyl := Dk.block_lt hj
  have hbr0 := hbr w hb0
  rw [show decide (s.falls = f) = true by simpa using hf] at hbr0
  rw [if_neg (by simp [hf])] at hro
  have hz : (d.length : Int) ≤ Dk.roomZ s.n e := by unfold Dk.roomZ; rw [if_neg (by omega)]; omega
  clear hr1 hr2 hr3 hr4 hrr hcan1 hcan2 hcan3 hbr hc h hn1 hn2 hR e1 e2 e3 e4 hfs
  obtain ⟨ad, cap, rfl, -⟩ := hv
  generalize Dk.roomZ s.n e = z at *
  generalize hL : d.length = L at *
  obtain ⟨s1, hs1⟩ : ∃ s1, s1 = r1.1 := ⟨_, rfl⟩
  obtain ⟨s2, hs2⟩ : ∃ s2, s2 = r2.1 := ⟨_, rfl⟩
  obtain ⟨s3, hs3⟩ : ∃ s3, s3 = r3.1 := ⟨_, rfl⟩
  obtain ⟨s4, hs4⟩ : ∃ s4, s4 = r4.1 := ⟨_, rfl⟩
  rw [← hs1] at hwr hsy1
  rw [← hs2] at hsy1 hfl
  rw [← hs3] at hfl hsy2
  rw [← hs4] at hsy2 ⊢
  clear hs1 hs2 hs3 hs4
  have q1 : ¬ (6000 : Int) < (L : Int) := by omega
  have q2 : ((L : Int) == 0) = false := by simp; omega
  have q3 : ¬ z < (L : Int) := by omega
  obtain ⟨c0, c1, c2, c3, c4⟩ := hj.c
  have HJ : Hid (Try.Jn w y x side gen e f) := hj
  clear hj hf hL
  go_enter Try.func17, Try.ntmps17
  go_wp2_with (first
    | (go_at_call 54; refine hbr0.mono ?_; clear hbr0; rintro r w2 ⟨rfl, h2⟩; have hro2 := hro w2 h2)
    | (go_at_call 18; refine hro2.mono ?_; clear hro2; rintro r w3 ⟨rfl, h3⟩; have hb3 := h2.trans (h3.mono h2.size); have j3 := (HJ.out.below hb3).c; obtain ⟨d0, d1, d2, d3, d4⟩ := j3)
    | fail)
  go_cut [62] (fun b wx => b = .bool false ∧ Try.Chg own w wx x s4)
  case first =>
    clear hro c0 c1 c2 c3 c4 d2 d4
    have hun3 := fun W (hW : Below w3.heap.size w3 W) => hun W (hb3.trans (hW.mono hb3.size))
    have hb33 := Below.refl w3.heap.size w3
    clear hun
    go_region_held3 (fun W => W.cell? ⟨y, 0, none⟩ = some (.pointer (some ⟨x, 0, none⟩)) ∧ W.cell? ⟨y, 1, none⟩ = some (.int .i64 side) ∧ W.cell? ⟨y, 3, none⟩ = some (.int .i64 e)) (first | exact ⟨d0, d1, d3⟩ | exact ⟨f0, f1, f3⟩ | exact ⟨g0, g1, g3⟩ | exact ⟨k0, k1, k3⟩ | exact ⟨l0, l1, l3⟩ | exact ⟨m0, m1, m3⟩) (first
      | (go_at_call 56; refine (hun3 _ (by first | exact hb33 | exact hb33.drew)).mono ?_; clear hun3; rintro r w4 ⟨v', rfl, hs4, h4⟩; have hb4 : Below w3.heap.size w3 w4 := hb33.drew.trans h4; have f0 := Dk.cellB hb4 (Nat.lt_of_lt_of_le hyl hb3.size) d0; have f1 := Dk.cellB hb4 (Nat.lt_of_lt_of_le hyl hb3.size) d1; have f3 := Dk.cellB hb4 (Nat.lt_of_lt_of_le hyl hb3.size) d3)
      | (go_at_call 55; refine (hwr _ (hb3.trans (hb4.mono hb3.size)) _ hs4).mono ?_; clear hwr; rintro r w5 ⟨rfl, h5⟩; obtain ⟨g0, g1, _, g3, _⟩ := (hjn _ _ h5).c)
      | (go_at_call 50; refine (hsy1 _ h5).mono ?_; clear hsy1; rintro r w6 ⟨rfl, h6⟩; obtain ⟨k0, k1, _, k3, _⟩ := (hjn _ _ h6).c)
      | (go_at_call 57; refine (hfl _ h6).mono ?_; clear hfl; rintro r w7 ⟨rfl, h7⟩; obtain ⟨l0, l1, _, l3, _⟩ := (hjn _ _ h7).c)
      | (go_at_call 50; refine (hsy2 _ h7).mono ?_; clear hsy2; rintro r w8 ⟨rfl, h8⟩; obtain ⟨m0, m1, _, m3, _⟩ := (hjn _ _ h8).c))
    all_goals
      go_wp2
      go_meet
      case rel => exact ⟨rfl, h8⟩
  case rest =>
    obtain ⟨rfl, h8⟩ := hcut
    have hJ8 := Try.JChg.of h8 HJ.out hy
    obtain ⟨g0, g1, g2, g3, g4⟩ := hJ8.jn.c
    have gf := hJ8.jn.fr 3
    have hend := hJ8.setEnd hy hyl (e + (7 + L))
    rw [show ((e + (7 + L) : Nat) : Int) = (e : Int) + (7 + (L : Int)) by omega] at hend
    clear hun hwr hsy1 hfl hsy2 hjn hro
    go_wp2
    go_ret
    exact ⟨rfl, by rw [show e + 7 + L = e + (7 + L) by omega]; exact hend⟩
end Go.Proofs
