/-
  JournalKeeps: the walk.
-/
import Derived.Test.YtkoojpaanpmgeaaKr
namespace Go.Dk
theorem half_bd {n P : Nat} (h : n = 8 + P) (hP : P < 60) : 192 ≤ 64 * half n ∧ 64 * half n ≤ 2112 := by unfold half; omega
theorem room_eq {n e : Nat} (h : 64 * half n ≤ 2112) : Go.Proofs.Dk.roomZ n e = if 64 * half n < e + 8 then -1 else ((64 * half n - e - 7 : Nat) : Int) := by
  unfold Go.Proofs.Dk.roomZ
  by_cases hc : 64 * half n < e + 8
  · rw [if_pos hc, if_pos (by omega)]
  · rw [if_neg hc, if_neg (by omega)]; omega
theorem body_snoc (snap : List UInt8) (recs : List (List UInt8)) (d : List UInt8) : (body snap (recs ++ [d])).length = (body snap recs).length + 7 + d.length := by simp [body, recB_len]; omega
end Go.Dk
namespace Go.Proofs
open Go.RowKit Go.Dk
theorem Try.Dsk.costs {w : World} {own : Nat → Prop} {x : Nat} {s : DS} (h : Try.Dsk w own x s) :
    Calls Try.prog 23 #[.pointer (some ⟨x, 0, none⟩)] w fun r w' => r = .returned (.tuple #[.int .i64 s.wrote, .int .i64 s.synced]) ∧ Below w.heap.size w w' := by
  obtain ⟨l, t, V, hm, -⟩ := h.ex
  exact (Try.costs_any hm).mono fun r w' ⟨e, nn, hn⟩ => ⟨e, by rw [hn]; exact Dk.belowN w nn⟩
def Try.doO (c ag : Bool) (sz lk : Int) : Obj := .cells #[.bool c, .bool ag, .int .i64 sz, .int .i64 lk] 52 (0, 0)
/-- A round begins: all that it needs. -/
structure Try.Rnd (B : Nat) (w0 w : World) (own : Nat → Prop) (s : DS) (n y x q g a : Nat) (snap : List UInt8) (recs : List (List UInt8)) (bN : Nat) (v : Value) : Prop where
  jd : Try.JD w own y x s q g a snap recs
  hn : s.n = n
  hq : s.falls + q ≤ 1000000
  lo : ∀ k, own k → B ≤ k
  bx : ∀ b ∈ ([(bN, snap, recs)] : Dk.Bxs), Try.Bx w (fun k => ¬ own k ∧ k ≠ y ∧ B ≤ k) b.1 b.2.1 b.2.2
  st : Try.Sta w (fun k => ¬ own k ∧ k ≠ y ∧ B ≤ k) v snap recs
  yb : B ≤ y
  bel : Below B w0 w
theorem Try.Rnd.below {B : Nat} {w0 w w' : World} {own : Nat → Prop} {s : DS} {n y x q g a : Nat} {snap : List UInt8} {recs : List (List UInt8)} {bN : Nat} {v : Value} (h : Try.Rnd B w0 w own s n y x q g a snap recs bN v) (hb : Below w.heap.size w w') : Try.Rnd B w0 w' own s n y x q g a snap recs bN v :=
  ⟨h.jd.below hb, h.hn, h.hq, h.lo, fun b e => (h.bx b e).mono fun k hk hp => ⟨hb.block k hk, hp⟩, h.st.below hb, h.yb, h.bel.trans (hb.mono (by have := h.yb; have := Dk.block_lt h.jd.jn; omega))⟩
theorem Try.Rnd.lt {B : Nat} {w0 w : World} {own : Nat → Prop} {s : DS} {n y x q g a : Nat} {snap : List UInt8} {recs : List (List UInt8)} {bN : Nat} {v : Value} (h : Try.Rnd B w0 w own s n y x q g a snap recs bN v) : Try.Lt B w0 w n y x q g a snap recs [(bN, snap, recs)] [(v, snap, recs)] :=
  ⟨⟨own, s, h.jd, ⟨h.hn, h.hq⟩, h.lo, h.bx, fun u e => by rw [List.mem_singleton] at e; subst e; exact h.st⟩, h.yb, h.bel⟩
theorem Try.JD.less {w : World} {own : Nat → Prop} {y x q q' g a : Nat} {s : DS} {snap : List UInt8} {recs : List (List UInt8)} (h : Try.JD w own y x s q g a snap recs) (hq : q' ≤ q) : Try.JD w own y x s q' g a snap recs := ⟨h.dsk, h.jn, h.ny, h.ho, h.can.mono hq⟩
section
variable {B : Nat} {w0 w : World} {n y x q g a : Nat} {snap : List UInt8} {recs : List (List UInt8)} {bs : Dk.Bxs} {ss : Dk.Sts}
theorem Try.Lt.sameB {va vb : Value} {ts : List UInt8} {tr : List (List UInt8)} (h : Try.Lt B w0 w n y x q g a snap recs bs ss) (hl : tr.length < 1000000) (ha : (va, ts, tr) ∈ ss) (hb : (vb, ts, tr) ∈ ss) :
    Calls Try.prog 15 #[va, vb] w fun r w' => r = .returned (.bool true) ∧ Below w.heap.size w w' := by
  obtain ⟨own, s, h1, h2, h3, h4, h5⟩ := h.ex
  exact Try.same_any hl (h5 (va, ts, tr) ha) (h5 (vb, ts, tr) hb)
theorem Try.Lt.roomB (h : Try.Lt B w0 w n y x q g a snap recs bs ss) :
    Calls Try.prog 14 #[.pointer (some ⟨y, 0, none⟩)] w fun r w' => r = .returned (.int .i64 (Dk.roomZ n (body snap recs).length)) ∧ Below w.heap.size w w' := by
  obtain ⟨own, s, h1, ⟨h2, h2f⟩, _⟩ := h.ex
  subst h2
  exact h1.room
end
section
variable {B : Nat} {w0 w : World} {n y x q g a : Nat} {snap : List UInt8} {recs : List (List UInt8)} {bs : Dk.Bxs} {ss : Dk.Sts}
theorem Try.Lu.toldB (h : Try.Lu B w0 w n y x q g a snap recs bs ss) :
    Calls Try.prog 16 #[.pointer (some ⟨x, 0, none⟩)] w fun r w' => ∃ y' ad cap, r = .returned (.tuple #[.pointer (some ⟨y', 0, none⟩), .agg #[.string ⟨snap.toArray⟩, .slice ad recs.length cap], .bool true]) ∧ Try.Lu B w0 w' n y x q g a snap recs bs ss ∧ Try.Lt B w0 w' n y' x q g a snap recs bs ((.agg #[.string ⟨snap.toArray⟩, .slice ad recs.length cap], snap, recs) :: ss) ∧ Below w.heap.size w w' := by
  obtain ⟨own, s, e, f, a', g', h0, h2, h3, h4, h5, h6⟩ := h.ex
  refine (Try.told_any h0.1 h0.2.1 h0.2.2).mono ?_
  rintro r w' ⟨y', t, rfl, hT⟩
  have hst := hT.st
  obtain ⟨rv, rfl, hr, _⟩ := hst
  obtain ⟨ad, cap, rfl, -⟩ := Dk.row_form hr
  have hsz := h.size
  have hy0 := hT.y0
  have hyl := Dk.block_lt h3.1
  have key : ∀ k, k < w.heap.size → (¬ own k ∧ k ≠ y ∧ B ≤ k) → w'.heap[k]? = w.heap[k]? ∧ (¬ own k ∧ k ≠ y' ∧ B ≤ k) := fun k hk hp => ⟨hT.bel.block k hk, hp.1, by omega, hp.2.2⟩
  refine ⟨y', ad, cap, rfl, h.below hT.bel, ⟨⟨own, s, hT.jd, h2, h4, fun b e => (h5 b e).mono key, fun v e => ?_⟩, by omega, h.bel.trans (hT.bel.mono (by omega))⟩, hT.bel⟩
  rcases List.mem_cons.1 e with rfl | e
  · exact hT.st.mono fun k hk hp => ⟨rfl, fun e1 => by have := h0.1.lt k e1; omega, hp.2, by omega⟩
  · exact (h6 v e).mono key
theorem Try.Lu.putLit {b : Nat} {ts0 : List UInt8} {tr0 : List (List UInt8)} (h : Try.Lu B w0 w n y x q g a snap recs [(b, ts0, tr0)] []) (ts : List UInt8) : Try.Lu B w0 ((w.setCell ⟨b, 0, none⟩ (.string ⟨ts.toArray⟩)).setCell ⟨b, 1, none⟩ (.slice none 0 0)) n y x q g a snap recs [(b, ts, [])] [] := by
  obtain ⟨own, s, e, f, a', g', h0, h2, h3, h4, h5, h6⟩ := h.ex
  have hsz := h.size
  obtain ⟨rv0, k0, k1, k2, k3⟩ := h5 _ (List.mem_singleton.2 rfl)
  have hwo : Dk.Wo (fun k => k = b) w ((w.setCell ⟨b, 0, none⟩ (.string ⟨ts.toArray⟩)).setCell ⟨b, 1, none⟩ (.slice none 0 0)) := (((Dk.Wo.refl (fun k => k = b) w).setCell b 0 _ (.inl rfl)).setCell b 1 _ (.inl rfl))
  refine ⟨⟨own, s, e, f, a', g', ⟨h0.1.keep (fun k e => hwo.block k (h0.1.lt k e) (fun e1 => k1.1 (e1 ▸ e))) hwo.size, h0.2⟩, h2, ⟨h3.1.wo hwo (fun e => k1.2.1 e.symm), h3.2⟩, h4, fun c hc => ?_, fun v e => absurd e (by simp)⟩, h.yb, h.bel.trans (hwo.bel (fun k e => by rw [e]; exact k1.2.2) (by omega))⟩
  rw [List.mem_singleton] at hc
  subst hc
  exact ⟨.slice none 0 0, Dk.two_cells k0 _ _, k1, World.ownsRow_nil _ _ _ _, fun k e => by cases e⟩
end
set_option maxHeartbeats 8000000 in
set_option maxRecDepth 20000 in
theorem Try.journalKeepsWalk (b : Int) (v : Value) (l : List Dk.Do) (w : World) (h1 : -9223372036854775808 ≤ b ∧ b ≤ 9223372036854775807) (hP : Dk.Dos w v l) :
    Calls Try.prog 7 #[.int .i64 b, v] w fun e w' => e = .returned (.bool true) ∧ Below w.heap.size w w' := by
  have hfm := Try.formatted_any b h1.1 h1.2 w
  have hp := Dk.pickN_lt b (n := 60) (by omega)
  obtain ⟨n, hn⟩ : ∃ n, n = 8 + Dk.pickN b 60 := ⟨_, rfl⟩
  have hbd := half_bd hn hp
  rw [← hn] at hfm
  have HR : Hid (∀ e, Dk.roomZ n e = if 64 * half n < e + 8 then -1 else ((64 * half n - e - 7 : Nat) : Int)) := fun e => room_eq hbd.2
  have HP : Hid (Dk.Dos w v l) := hP
  obtain ⟨ad1, cap1, rfl, hcap, -⟩ := hP.ex
  obtain ⟨H, hH⟩ : ∃ H, H = 64 * half n := ⟨_, rfl⟩
  rw [← hH] at hbd HR
  have hHa : H ≤ 64 * half n := Nat.le_of_eq hH
  have hHb : 64 * half n ≤ H := Nat.le_of_eq hH.symm
  clear hP hn hp hH
  go_enter Try.func7, Try.ntmps7
  go_wp2_with (first
    | (go_at_call 9; refine hfm.mono ?_; clear hfm; rintro e w1 ⟨x, rfl, hF⟩; have htd := hF.told)
    | (go_at_call 16; refine htd.mono ?_; clear htd; rintro e w2 ⟨y0, ad, cap, rfl, hL0⟩; have hL := hL0.box.drop (bs' := [(w2.heap.size, [], [])]) (ss' := []) (fun b e => e) (fun v e => absurd e (by simp)); have HL : Hid (Try.Lt w.heap.size w (w2.alloc (.cells #[.string ⟨#[]⟩, .slice ad 0 cap] 28)) n y0 x 900000 1 0 [] [] [(w2.heap.size, [], [])] []) := hL; clear hL hL0 hF)
    | fail)
  generalize hbN : w2.heap.size = bN at *
  go_loopw [6, 9] (fun jv i wr => ∃ (k y g a : Nat) (snap : List UInt8) (recs : List (List UInt8)), jv = .pointer (some ⟨y, 0, none⟩) ∧ i = .int .i64 k ∧ k ≤ 60 ∧ k ≤ l.length ∧ g ≤ k + 1 ∧ Try.Lt w.heap.size w wr n y x (650000 + 4000 * (60 - k)) g a snap recs [(bN, snap, recs)] []) (fun _ i _ => 60 - (intOf i).toNat)
  case atStart => exact ⟨0, y0, 1, 0, [], [], rfl, rfl, by omega, by omega, by omega, HL.out.less (by omega)⟩
  case round =>
    obtain ⟨k, y, g, a, snap, recs, rfl, rfl, hk60, hkl, hgk, hL⟩ := hrel
    clear HL
    by_cases hgo : k < l.length ∧ k < 60
    · have q0 : (k : Int) < (l.length : Int) := by omega
      have q1 : (k : Int) < 60 := by omega
      obtain ⟨⟨c, ag, sz, lk⟩, hd⟩ : ∃ o, l[k]? = some o := ⟨_, List.getElem?_eq_getElem hgo.1⟩
      obtain ⟨sb, so, rfl, hsb, ⟨o0, o1, o2, o3⟩, hsz, -⟩ := HP.out.at hd
      simp only at o0 o1 o2 o3 hsz
      have i0 := (hL.bel.cell (p := ⟨sb, so + k * 4, none⟩) hsb).trans o0
      have i1 := (hL.bel.cell (p := ⟨sb, so + k * 4 + 1, none⟩) hsb).trans o1
      have i2 := (hL.bel.cell (p := ⟨sb, so + k * 4 + 2, none⟩) hsb).trans o2
      have i3 := (hL.bel.cell (p := ⟨sb, so + k * 4 + 3, none⟩) hsb).trans o3
      clear hd o0 o1 o2 o3
      obtain ⟨adN, capN, hbN0, hLn⟩ := hL.take (List.mem_singleton.2 rfl)
      obtain ⟨own, s, hJ, ⟨hsn, hsq⟩, hlo, hbx, hss⟩ := hLn.ex
      have HN0 : Hid (wr.heap[bN]? = some (.cells #[.string ⟨snap.toArray⟩, .slice adN recs.length capN] 28 (0, 0))) := hbN0
      have hbNl := Dk.block_lt hbN0
      have HR0 : Hid (Try.Rnd w.heap.size w wr own s n y x (650000 + 4000 * (60 - k)) g a snap recs bN (.agg #[.string ⟨snap.toArray⟩, .slice adN recs.length capN])) := ⟨hJ, hsn, hsq, hlo, hbx, hss _ List.mem_cons_self, hL.yb, hL.bel⟩
      have hol : ∀ k, own k → k < wr.heap.size := hJ.dsk.lt
      have hyl := Dk.block_lt hJ.jn
      have hbo : Below wr.heap.size wr (wr.alloc (.cells #[.bool c, .bool ag, .int .i64 sz, .int .i64 lk] 52)) := (Below.refl wr.heap.size wr).alloc (Nat.le_refl _) _
      have hrm := (HR0.out.below hbo).jd.room
      rw [hsn, HR.out] at hrm
      obtain ⟨E, hE⟩ : ∃ E, E = (body snap recs).length := ⟨_, rfl⟩
      obtain ⟨ρ, hρ⟩ : ∃ ρ : Int, ρ = if H < E + 8 then -1 else ((H - E - 7 : Nat) : Int) := ⟨_, rfl⟩
      have hEs := hJ.ho.small
      rw [hsn, ← hE] at hEs
      rw [← hE, ← hρ] at hrm
      have Hρ : Hid (ρ = if H < E + 8 then -1 else ((H - E - 7 : Nat) : Int)) := hρ
      have HE : Hid (E = (body snap recs).length) := hE
      have HSN : Hid (s.n = n) := hsn
      obtain ⟨L, hLL⟩ : ∃ L, L = 1 + Dk.pickN sz 150 := ⟨_, rfl⟩
      have hpl := Dk.pickN_lt sz (n := 150) (by omega)
      have hLb : 1 ≤ L ∧ L ≤ 150 := by omega
      have HLL : Hid (L = 1 + Dk.pickN sz 150) := hLL
      have hq1 : ∃ q', 650000 + 4000 * (60 - k) = q' + 4000 ∧ q' = 650000 + 4000 * (60 - (k + 1)) := ⟨_, by omega, rfl⟩
      clear hJ hsn hsq hlo hbx hss hL hLn hbN0 hρ hE hLL hpl
      go_upto_region 11 with (first
        | (go_at_call 14; refine hrm.mono ?_; clear hrm; rintro e w3 ⟨rfl, hb3⟩; have hbw3 : Below wr.heap.size wr w3 := hbo.trans (hb3.mono hbo.size); have hcs := (HR0.out.below hbw3).jd.dsk.costs)
        | (go_at_call 23; refine hcs.mono ?_; clear hcs; rintro e w4 ⟨rfl, hb4⟩; have hbw4 : Below wr.heap.size wr w4 := hbw3.trans (hb4.mono hbw3.size))
        | fail)
      have hs3 := hb3.size
      have hs4 := hb4.size
      simp only [World.size_alloc] at hs3
      have hN4 : w4.heap[bN]? = some (.cells #[.string ⟨snap.toArray⟩, .slice adN recs.length capN] 28 (0, 0)) := (hbw4.block _ hbNl).trans HN0.out
      have hO4 : w4.heap[wr.heap.size]? = some (.cells #[.bool c, .bool ag, .int .i64 sz, .int .i64 lk] 52 (0, 0)) := (hb4.block _ (by omega)).trans ((hb3.block _ (by simp)).trans (heap_alloc_new wr _))
      have m0 := cell_of_row _ _ 0 _ _ _ hN4
      have m1 := cell_of_row _ _ 1 _ _ _ hN4
      have p0 := cell_of_row _ _ 0 _ _ _ hO4
      have p1 := cell_of_row _ _ 1 _ _ _ hO4
      have p2 := cell_of_row _ _ 2 _ _ _ hO4
      have p3 := cell_of_row _ _ 3 _ _ _ hO4
      simp only [List.getElem?_toArray, List.getElem?_cons_zero, List.getElem?_cons_succ] at m0 m1 p0 p1 p2 p3
      have HR4 : Hid (Try.Rnd w.heap.size w w4 own s n y x (650000 + 4000 * (60 - k)) g a snap recs bN (.agg #[.string ⟨snap.toArray⟩, .slice adN recs.length capN])) := HR0.out.below hbw4
      have HO4 : Hid _ := hO4
      have HN4 : Hid _ := hN4
      have HBW4 : Hid (Below wr.heap.size wr w4) := hbw4
      clear hbo hb3 hb4 hbw3 hbw4 hO4 hN4 i0 i1 i2 i3
      cases c with
      | true =>
        cases ag with
        | true =>
          have hdo := Try.does_nothing (snap := snap) (rv := .slice adN recs.length capN) ⟨_, _, _, rfl⟩ sz lk (k : Int) (.pointer (some ⟨x, 0, none⟩)) (.pointer (some ⟨y, 0, none⟩)) w4
          go_wp2_with (first
            | (go_at_call 24; refine hdo.mono ?_; clear hdo; rintro e w5 ⟨rfl, hb5⟩; have hO5 := (hb5.block _ (Dk.block_lt HO4.out)).trans HO4.out; have HO6 : Hid _ := (Below.heap_alloc w5 (.cells #[.string ⟨snap.toArray⟩, .slice adN recs.length capN] 28) _ (Dk.block_lt hO5)).trans hO5; have HX6 : Hid _ := heap_alloc_new w5 (.cells #[.string ⟨snap.toArray⟩, .slice adN recs.length capN] 28); have hL6 := ((HR4.out.lt.below hb5).less (q' := 650000 + 4000 * (60 - (k + 1))) (by omega)).box; have hcs2 := hL6.lu.costs; have HL6 : Hid _ := hL6; clear hL6 hO5)
            | (go_at_call 23; refine hcs2.mono ?_; clear hcs2; rintro e w7 ⟨⟨c1, c2, rfl⟩, hb7⟩; have hO7 := (hb7.block _ (Dk.block_lt HO6.out)).trans HO6.out; have s0 := cell_of_row _ _ 0 _ _ _ hO7; have s1 := cell_of_row _ _ 1 _ _ _ hO7; have s2 := cell_of_row _ _ 2 _ _ _ hO7; have s3 := cell_of_row _ _ 3 _ _ _ hO7; simp only [List.getElem?_toArray, List.getElem?_cons_zero, List.getElem?_cons_succ] at s0 s1 s2 s3; have hby := Try.bytes_any ⟨true, true, sz, lk⟩ hsz k (by omega) w7; simp only [Dk.Do.len, ← HLL.out] at hby; have HL7 : Hid _ := HL6.out.below hb7; have HX7 : Hid _ := (hb7.block _ (Dk.block_lt HX6.out)).trans HX6.out; have HO7 : Hid _ := hO7; clear hO7)
            | (go_at_call 25; refine hby.mono ?_; clear hby; rintro e w8 ⟨gb, d8, rfl, hd8, -, hb8, -⟩; have HL8 : Hid _ := HL7.out.below hb8; have hX8 := (hb8.block _ (Dk.block_lt HX7.out)).trans HX7.out; have hO8 := (hb8.block _ (Dk.block_lt HO7.out)).trans HO7.out; have x0 := cell_of_row _ _ 0 _ _ _ hX8; have x1 := cell_of_row _ _ 1 _ _ _ hX8; obtain ⟨adB, capB, hB8, -⟩ := HL8.out.take (List.mem_cons_of_mem _ (List.mem_singleton.2 rfl)); have t0 := cell_of_row _ _ 0 _ _ _ hB8; have t1 := cell_of_row _ _ 1 _ _ _ hB8; have f0 := frozen_of_row _ _ 0 _ _ hB8; have f1 := frozen_of_row _ _ 1 _ _ hB8; have v0 := cell_of_row _ _ 0 _ _ _ hO8; have v1 := cell_of_row _ _ 1 _ _ _ hO8; simp only [List.getElem?_toArray, List.getElem?_cons_zero, List.getElem?_cons_succ] at x0 x1 t0 t1 v0 v1; have hL9 := HL8.out.put (b := bN) (bs' := [(bN, snap, recs)]) (List.mem_cons_of_mem _ (List.mem_singleton.2 rfl)) (fun c hc => .inl (List.mem_singleton.1 hc)); have hO9 := ((Below.heap_setCell (w8.setCell ⟨bN, 0, none⟩ (.string ⟨snap.toArray⟩)) ⟨bN, 1, none⟩ (.slice adN recs.length capN) wr.heap.size (by show wr.heap.size ≠ bN; omega)).trans (Below.heap_setCell w8 ⟨bN, 0, none⟩ (.string ⟨snap.toArray⟩) wr.heap.size (by show wr.heap.size ≠ bN; omega))).trans hO8; have y0' := cell_of_row _ _ 0 _ _ _ hO9; have y1' := cell_of_row _ _ 1 _ _ _ hO9; simp only [List.getElem?_toArray, List.getElem?_cons_zero, List.getElem?_cons_succ] at y0' y1'; have htd := hL9.told; have HL9 : Hid _ := hL9; clear hL9 hB8 hX8 hO8 hO9)
            | (go_at_call 16; refine htd.mono ?_; clear htd; rintro e w11 ⟨y11, ad11, cap11, rfl, hLo, hLw⟩; have hal : Below w11.heap.size w11 (w11.alloc (.cells #[.string ⟨snap.toArray⟩, .slice ad11 recs.length cap11] 28)) := (Below.refl w11.heap.size w11).alloc (Nat.le_refl _) _; have hLF := hLw.box; obtain ⟨adQ, capQ, hbQ, hLQ⟩ := hLF.take (List.mem_cons_of_mem _ (List.mem_singleton.2 rfl)); have e0 := cell_of_row _ _ 0 _ _ _ hbQ; have e1 := cell_of_row _ _ 1 _ _ _ hbQ; simp only [List.getElem?_toArray, List.getElem?_cons_zero, List.getElem?_cons_succ] at e0 e1; have hsm := hLQ.sameB hLo.few (List.mem_cons_of_mem _ List.mem_cons_self) List.mem_cons_self; have HLQ : Hid _ := hLQ; have HLO : Hid _ := hLo.below hal; clear hLo hLw hLF hLQ hbQ hal)
            | (go_at_call 15; refine hsm.mono ?_; clear hsm; rintro e w12 ⟨rfl, hb12⟩; have hrk := (HLQ.out.below hb12).roomB)
            | (go_at_call 14; refine hrk.mono ?_; clear hrk; rintro e w13 ⟨rfl, hb13⟩; have hrj := ((HLO.out.below hb12).below hb13).roomB)
            | (go_at_call 14; refine hrj.mono ?_; clear hrj; rintro e w14 ⟨rfl, hb14⟩)
            | fail)
          go_roundw
          case rel => exact ⟨k + 1, y11, g, a, snap, recs, rfl, by go_num, by omega, by omega, by omega, (((HLQ.out.below hb12).below hb13).below hb14).drop (fun c hc => List.mem_cons_of_mem _ hc) (fun v e => absurd e (by simp))⟩
          case measure => simp [intOf]; omega
        | false =>
          have hdo := Try.does_compact (ad := adN) (cap := capN) (HR4.out.jd.less (q' := 650000 + 4000 * (60 - (k + 1)) + 3000) (by omega)) (by omega) (by rw [HSN.out]; omega) sz lk hsz k (by omega) L HLL.out
          go_wp2_with (first
            | (go_at_call 24; refine hdo.mono ?_; clear hdo; rintro e w5 ⟨d, rfl, hd, hD⟩; have hO5 := (hD.wo.block wr.heap.size (Dk.block_lt HO4.out) (fun e => by rcases e with e | e; (have := hol _ e; omega); omega)).trans HO4.out; have HO6 : Hid _ := (Below.heap_alloc w5 (.cells #[.string ⟨d.toArray⟩, .slice none 0 0] 28) _ (Dk.block_lt hO5)).trans hO5; have HX6 : Hid _ := heap_alloc_new w5 (.cells #[.string ⟨d.toArray⟩, .slice none 0 0] 28); have hL5 := hD.lt HR4.out.bel HR4.out.yb (Dk.block_lt HR4.out.jd.jn) HR4.out.lo (by have := HR4.out.hq; omega) HR4.out.bx; rw [HSN.out] at hL5; have hL6 := hL5.box; have hcs2 := hL6.lu.costs; have HL6 : Hid _ := hL6; clear hL6 hL5 hO5 hD)
            | (go_at_call 23; refine hcs2.mono ?_; clear hcs2; rintro e w7 ⟨⟨c1, c2, rfl⟩, hb7⟩; have hO7 := (hb7.block _ (Dk.block_lt HO6.out)).trans HO6.out; have s0 := cell_of_row _ _ 0 _ _ _ hO7; have s1 := cell_of_row _ _ 1 _ _ _ hO7; have s2 := cell_of_row _ _ 2 _ _ _ hO7; have s3 := cell_of_row _ _ 3 _ _ _ hO7; simp only [List.getElem?_toArray, List.getElem?_cons_zero, List.getElem?_cons_succ] at s0 s1 s2 s3; have hby := Try.bytes_any ⟨true, false, sz, lk⟩ hsz k (by omega) w7; simp only [Dk.Do.len, ← HLL.out] at hby; have HL7 : Hid _ := HL6.out.below hb7; have HX7 : Hid _ := (hb7.block _ (Dk.block_lt HX6.out)).trans HX6.out; have HO7 : Hid _ := hO7; clear hO7)
            | (go_at_call 25; refine hby.mono ?_; clear hby; rintro e w8 ⟨gb, d8, rfl, hd8, -, hb8, -⟩; have HL8 : Hid _ := HL7.out.below hb8; have hX8 := (hb8.block _ (Dk.block_lt HX7.out)).trans HX7.out; have hO8 := (hb8.block _ (Dk.block_lt HO7.out)).trans HO7.out; have x0 := cell_of_row _ _ 0 _ _ _ hX8; have x1 := cell_of_row _ _ 1 _ _ _ hX8; obtain ⟨adB, capB, hB8, -⟩ := HL8.out.take (List.mem_cons_of_mem _ (List.mem_singleton.2 rfl)); have t0 := cell_of_row _ _ 0 _ _ _ hB8; have t1 := cell_of_row _ _ 1 _ _ _ hB8; have f0 := frozen_of_row _ _ 0 _ _ hB8; have f1 := frozen_of_row _ _ 1 _ _ hB8; have v0 := cell_of_row _ _ 0 _ _ _ hO8; have v1 := cell_of_row _ _ 1 _ _ _ hO8; simp only [List.getElem?_toArray, List.getElem?_cons_zero, List.getElem?_cons_succ] at x0 x1 t0 t1 v0 v1; have hL9 := HL8.out.put (b := bN) (bs' := [(bN, d, [])]) (List.mem_cons_of_mem _ (List.mem_singleton.2 rfl)) (fun c hc => .inl (List.mem_singleton.1 hc)); have hO9 := ((Below.heap_setCell (w8.setCell ⟨bN, 0, none⟩ (.string ⟨d.toArray⟩)) ⟨bN, 1, none⟩ (.slice none 0 0) wr.heap.size (by show wr.heap.size ≠ bN; omega)).trans (Below.heap_setCell w8 ⟨bN, 0, none⟩ (.string ⟨d.toArray⟩) wr.heap.size (by show wr.heap.size ≠ bN; omega))).trans hO8; have y0' := cell_of_row _ _ 0 _ _ _ hO9; have y1' := cell_of_row _ _ 1 _ _ _ hO9; simp only [List.getElem?_toArray, List.getElem?_cons_zero, List.getElem?_cons_succ] at y0' y1'; have htd := hL9.told; have HL9 : Hid _ := hL9; clear hL9 hB8 hX8 hO8 hO9)
            | (go_at_call 16; refine htd.mono ?_; clear htd; rintro e w11 ⟨y11, ad11, cap11, rfl, hLo, hLw⟩; have hal : Below w11.heap.size w11 (w11.alloc (.cells #[.string ⟨d.toArray⟩, .slice ad11 0 cap11] 28)) := (Below.refl w11.heap.size w11).alloc (Nat.le_refl _) _; have hLF := hLw.box; obtain ⟨adQ, capQ, hbQ, hLQ⟩ := hLF.take (List.mem_cons_of_mem _ (List.mem_singleton.2 rfl)); have e0 := cell_of_row _ _ 0 _ _ _ hbQ; have e1 := cell_of_row _ _ 1 _ _ _ hbQ; simp only [List.getElem?_toArray, List.getElem?_cons_zero, List.getElem?_cons_succ, List.length_nil] at e0 e1; have hsm := hLQ.sameB hLo.few (List.mem_cons_of_mem _ List.mem_cons_self) List.mem_cons_self; have HLQ : Hid _ := hLQ; have HLO : Hid _ := hLo.below hal; clear hLo hLw hLF hLQ hbQ hal)
            | (go_at_call 15; refine hsm.mono ?_; clear hsm; rintro e w12 ⟨rfl, hb12⟩; have hrk := (HLQ.out.below hb12).roomB)
            | (go_at_call 14; refine hrk.mono ?_; clear hrk; rintro e w13 ⟨rfl, hb13⟩; have hrj := ((HLO.out.below hb12).below hb13).roomB)
            | (go_at_call 14; refine hrj.mono ?_; clear hrj; rintro e w14 ⟨rfl, hb14⟩)
            | fail)
          go_roundw
          case rel => exact ⟨k + 1, y11, g + 1, 1 - a, d, [], rfl, by go_num, by omega, by omega, by omega, (((HLQ.out.below hb12).below hb13).below hb14).drop (fun c hc => List.mem_cons_of_mem _ hc) (fun v e => absurd e (by simp))⟩
          case measure => simp [intOf]; omega
      | false =>
        cases ag with
        | true =>
          have hdo := Try.does_format (ad := adN) (cap := capN) (HR4.out.jd.less (q' := 650000 + 4000 * (60 - (k + 1)) + 4000) (by omega)) (by omega) sz lk (k : Int)
          go_upto_region 23 with (first
            | (go_at_call 24; refine hdo.mono ?_; clear hdo; rintro e w5 ⟨rfl, hF⟩; have hO5 := (hF.wo.block wr.heap.size (Dk.block_lt HO4.out) (fun e => by have := hol _ e; omega)).trans HO4.out; have HO6 : Hid _ := (Below.heap_alloc w5 (.cells #[.string ⟨#[]⟩, .slice none 0 0] 28) _ (Dk.block_lt hO5)).trans hO5; have HX6 : Hid _ := heap_alloc_new w5 (.cells #[.string ⟨#[]⟩, .slice none 0 0] 28); have hU5 := hF.lu HR4.out.bel HR4.out.yb (Dk.block_lt HR4.out.jd.jn) HR4.out.jd.ny HR4.out.lo (by have := HR4.out.hq; omega) HR4.out.jd.ho.small HR4.out.bx; rw [HSN.out] at hU5; have hL6 := hU5.below ((Below.refl w5.heap.size w5).alloc (Nat.le_refl _) (.cells #[.string ⟨#[]⟩, .slice none 0 0] 28)); have hcs2 := hL6.costs; have HL6 : Hid _ := hL6; clear hL6 hU5 hO5 hF)
            | (go_at_call 23; refine hcs2.mono ?_; clear hcs2; rintro e w7 ⟨⟨c1, c2, rfl⟩, hb7⟩; have hO7 := (hb7.block _ (Dk.block_lt HO6.out)).trans HO6.out; have s0 := cell_of_row _ _ 0 _ _ _ hO7; have s1 := cell_of_row _ _ 1 _ _ _ hO7; have s2 := cell_of_row _ _ 2 _ _ _ hO7; have s3 := cell_of_row _ _ 3 _ _ _ hO7; simp only [List.getElem?_toArray, List.getElem?_cons_zero, List.getElem?_cons_succ] at s0 s1 s2 s3; have hby := Try.bytes_any ⟨false, true, sz, lk⟩ hsz k (by omega) w7; simp only [Dk.Do.len, ← HLL.out] at hby; have HL7 : Hid _ := HL6.out.below hb7; have HX7 : Hid _ := (hb7.block _ (Dk.block_lt HX6.out)).trans HX6.out; have HO7 : Hid _ := hO7; clear hO7)
            | (go_at_call 25; refine hby.mono ?_; clear hby; rintro e w8 ⟨gb, d8, rfl, hd8, -, hb8, -⟩; have HL8 : Hid _ := HL7.out.below hb8; have hX8 := (hb8.block _ (Dk.block_lt HX7.out)).trans HX7.out; have hO8 := (hb8.block _ (Dk.block_lt HO7.out)).trans HO7.out; have x0 := cell_of_row _ _ 0 _ _ _ hX8; have x1 := cell_of_row _ _ 1 _ _ _ hX8; obtain ⟨_, _, _, _, _, _, _, _, _, _, hbx8, _⟩ := HL8.out.ex; obtain ⟨rvB, hB8, -⟩ := hbx8 _ (List.mem_singleton.2 rfl); have t0 := cell_of_row _ _ 0 _ _ _ hB8; have t1 := cell_of_row _ _ 1 _ _ _ hB8; have f0 := frozen_of_row _ _ 0 _ _ hB8; have f1 := frozen_of_row _ _ 1 _ _ hB8; have v0 := cell_of_row _ _ 0 _ _ _ hO8; have v1 := cell_of_row _ _ 1 _ _ _ hO8; simp only [List.getElem?_toArray, List.getElem?_cons_zero, List.getElem?_cons_succ] at x0 x1 t0 t1 v0 v1; have hL9 := HL8.out.putLit []; have hO9 := ((Below.heap_setCell (w8.setCell ⟨bN, 0, none⟩ (.string ⟨#[]⟩)) ⟨bN, 1, none⟩ (.slice none 0 0) wr.heap.size (by show wr.heap.size ≠ bN; omega)).trans (Below.heap_setCell w8 ⟨bN, 0, none⟩ (.string ⟨#[]⟩) wr.heap.size (by show wr.heap.size ≠ bN; omega))).trans hO8; have y0' := cell_of_row _ _ 0 _ _ _ hO9; have y1' := cell_of_row _ _ 1 _ _ _ hO9; simp only [List.getElem?_toArray, List.getElem?_cons_zero, List.getElem?_cons_succ] at y0' y1'; have htd := hL9.toldB; have HO9 : Hid _ := hO9; clear hL9 hB8 hX8 hO8 hO9 hbx8)
            | (go_at_call 16; refine htd.mono ?_; clear htd; rintro e w11 ⟨y11, ad11, cap11, rfl, hLo, hLw, hb11⟩; have hal : Below w11.heap.size w11 (w11.alloc (.cells #[.string ⟨#[]⟩, .slice ad11 0 cap11] 28)) := (Below.refl w11.heap.size w11).alloc (Nat.le_refl _) _; have hO11 := (hb11.block _ (Dk.block_lt HO9.out)).trans HO9.out; have HO12 : Hid _ := (hal.block _ (Dk.block_lt hO11)).trans hO11; have hLF := hLw.box; obtain ⟨adQ, capQ, hbQ, hLQ⟩ := hLF.take (List.mem_cons_of_mem _ (List.mem_singleton.2 rfl)); have e0 := cell_of_row _ _ 0 _ _ _ hbQ; have e1 := cell_of_row _ _ 1 _ _ _ hbQ; simp only [List.getElem?_toArray, List.getElem?_cons_zero, List.getElem?_cons_succ, List.length_nil] at e0 e1; have HLQ : Hid _ := hLQ; have HLO : Hid _ := hLo.below hal; clear hLo hLw hLF hLQ hbQ hO11 hb11 hal)
            | fail)
          have hsm := HLQ.out.sameB (by simp) (List.mem_cons_of_mem _ List.mem_cons_self) List.mem_cons_self
          obtain ⟨ownO, sO, eO, fO, aO, gO, ⟨dO, hO, -⟩, -, ⟨jO, lO, -⟩, -⟩ := HLO.out.ex
          obtain ⟨z, hz⟩ : ∃ z : Int, z = if sO.falls ≠ fO then -1 else Dk.roomZ sO.n eO := ⟨_, rfl⟩
          obtain ⟨zk, hzk⟩ : ∃ zk : Int, zk = Dk.roomZ n (body [] []).length := ⟨_, rfl⟩
          have HZ : Hid _ := hz
          have HZK : Hid _ := hzk
          have hrjA : ∀ W, Below (w11.alloc (.cells #[.string ⟨#[]⟩, .slice ad11 0 cap11] 28)).heap.size (w11.alloc (.cells #[.string ⟨#[]⟩, .slice ad11 0 cap11] 28)) W → Calls Try.prog 14 #[.pointer (some ⟨y, 0, none⟩)] W fun r w' => r = .returned (.int .i64 z) ∧ Below W.heap.size W w' := fun W hW => by
            rw [HZ.out]
            exact Try.room_any (dO.below hW) (by have := hO.n8; omega) lO (jO.below hW)
          clear hz hzk dO hO jO lO
          by_cases hzz : zk = z
          · subst hzz
            go_wp2_with (first
              | (go_at_call 15; refine hsm.mono ?_; clear hsm; rintro e w12 ⟨rfl, hb12⟩; have hrk := (HLQ.out.below hb12).roomB; rw [← HZK.out] at hrk)
              | (go_at_call 14; refine hrk.mono ?_; clear hrk; rintro e w13 ⟨rfl, hb13⟩; have hrj := hrjA w13 (hb12.trans (hb13.mono hb12.size)); clear hrjA)
              | (go_at_call 14; refine hrj.mono ?_; clear hrj; rintro e w14 ⟨rfl, hb14⟩; have hO14 := (hb14.block _ (Nat.lt_of_lt_of_le (Dk.block_lt HO12.out) (Nat.le_trans hb12.size hb13.size))).trans ((hb13.block _ (Nat.lt_of_lt_of_le (Dk.block_lt HO12.out) hb12.size)).trans ((hb12.block _ (Dk.block_lt HO12.out)).trans HO12.out)); have u1' := cell_of_row _ _ 1 _ _ _ hO14; simp only [List.getElem?_toArray, List.getElem?_cons_zero, List.getElem?_cons_succ] at u1'; clear hO14)
              | fail)
            go_roundw
            case rel => exact ⟨k + 1, y11, g + 1, 1 - a, [], [], rfl, by go_num, by omega, by omega, by omega, (((HLQ.out.below hb12).below hb13).below hb14).drop (fun c hc => List.mem_cons_of_mem _ hc) (fun v e => absurd e (by simp))⟩
            case measure => simp [intOf]; omega
          · have hzz2 : ¬ z = zk := fun e => hzz e.symm
            go_wp2_with (first
              | (go_at_call 15; refine hsm.mono ?_; clear hsm; rintro e w12 ⟨rfl, hb12⟩; have hrk := (HLQ.out.below hb12).roomB; rw [← HZK.out] at hrk)
              | (go_at_call 14; refine hrk.mono ?_; clear hrk; rintro e w13 ⟨rfl, hb13⟩; have hrj := hrjA w13 (hb12.trans (hb13.mono hb12.size)); clear hrjA)
              | (go_at_call 14; refine hrj.mono ?_; clear hrj; rintro e w14 ⟨rfl, hb14⟩; have hO14 := (hb14.block _ (Nat.lt_of_lt_of_le (Dk.block_lt HO12.out) (Nat.le_trans hb12.size hb13.size))).trans ((hb13.block _ (Nat.lt_of_lt_of_le (Dk.block_lt HO12.out) hb12.size)).trans ((hb12.block _ (Dk.block_lt HO12.out)).trans HO12.out)); have u1' := cell_of_row _ _ 1 _ _ _ hO14; simp only [List.getElem?_toArray, List.getElem?_cons_zero, List.getElem?_cons_succ] at u1'; clear hO14)
              | fail)
            go_roundw
            case rel => exact ⟨k + 1, y11, g + 1, 1 - a, [], [], rfl, by go_num, by omega, by omega, by omega, (((HLQ.out.below hb12).below hb13).below hb14).drop (fun c hc => List.mem_cons_of_mem _ hc) (fun v e => absurd e (by simp))⟩
            case measure => simp [intOf]; omega
        | false =>
          cases hfit : Dk.fits n E L with
          | true =>
            have hqL : (L : Int) ≤ ρ := by simp only [Dk.fits, decide_eq_true_eq] at hfit; rw [Hρ.out, if_neg (by omega)]; omega
            have hdo := Try.does_append (HR4.out.jd.less (q' := 650000 + 4000 * (60 - (k + 1)) + 3000) (by omega)) HR4.out.st sz lk hsz k (by omega) L HLL.out (by rw [HSN.out, ← HE.out]; exact hfit)
            go_upto_region 20 with (first
              | (go_at_call 24; refine hdo.mono ?_; clear hdo; rintro e w5 ⟨ad5, cap5, d, rfl, hd, hD⟩; have hO5 := (hD.wo.block wr.heap.size (Dk.block_lt HO4.out) (fun e => by rcases e with e | e; (have := hol _ e; omega); omega)).trans HO4.out; have HO6 : Hid _ := (Below.heap_alloc w5 (.cells #[.string ⟨snap.toArray⟩, .slice ad5 (recs.length + 1) cap5] 28) _ (Dk.block_lt hO5)).trans hO5; have HX6 : Hid _ := heap_alloc_new w5 (.cells #[.string ⟨snap.toArray⟩, .slice ad5 (recs.length + 1) cap5] 28); have hL5 := hD.lt HR4.out.bel HR4.out.yb (Dk.block_lt HR4.out.jd.jn) HR4.out.lo (by have := HR4.out.hq; omega) HR4.out.bx; rw [HSN.out] at hL5; have hL6 := hL5.box; have hcs2 := hL6.lu.costs; have HL6 : Hid _ := hL6; clear hL6 hL5 hO5 hD)
              | (go_at_call 23; refine hcs2.mono ?_; clear hcs2; rintro e w7 ⟨⟨c1, c2, rfl⟩, hb7⟩; have hO7 := (hb7.block _ (Dk.block_lt HO6.out)).trans HO6.out; have s0 := cell_of_row _ _ 0 _ _ _ hO7; have s1 := cell_of_row _ _ 1 _ _ _ hO7; have s2 := cell_of_row _ _ 2 _ _ _ hO7; have s3 := cell_of_row _ _ 3 _ _ _ hO7; simp only [List.getElem?_toArray, List.getElem?_cons_zero, List.getElem?_cons_succ] at s0 s1 s2 s3; have hby := Try.bytes_any ⟨false, false, sz, lk⟩ hsz k (by omega) w7; simp only [Dk.Do.len, ← HLL.out] at hby; have HL7 : Hid _ := HL6.out.below hb7; have HX7 : Hid _ := (hb7.block _ (Dk.block_lt HX6.out)).trans HX6.out; have HO7 : Hid _ := hO7; clear hO7)
              | (go_at_call 25; refine hby.mono ?_; clear hby; rintro e w8 ⟨gb, d8, rfl, hd8, -, hb8, -⟩; have HL8 : Hid _ := HL7.out.below hb8; have hX8 := (hb8.block _ (Dk.block_lt HX7.out)).trans HX7.out; have hO8 := (hb8.block _ (Dk.block_lt HO7.out)).trans HO7.out; have x0 := cell_of_row _ _ 0 _ _ _ hX8; have x1 := cell_of_row _ _ 1 _ _ _ hX8; obtain ⟨adB, capB, hB8, -⟩ := HL8.out.take (List.mem_cons_of_mem _ (List.mem_singleton.2 rfl)); have t0 := cell_of_row _ _ 0 _ _ _ hB8; have t1 := cell_of_row _ _ 1 _ _ _ hB8; have f0 := frozen_of_row _ _ 0 _ _ hB8; have f1 := frozen_of_row _ _ 1 _ _ hB8; have v0 := cell_of_row _ _ 0 _ _ _ hO8; have v1 := cell_of_row _ _ 1 _ _ _ hO8; simp only [List.getElem?_toArray, List.getElem?_cons_zero, List.getElem?_cons_succ] at x0 x1 t0 t1 v0 v1; have hL9 := HL8.out.put (b := bN) (bs' := [(bN, snap, (recs ++ [d]))]) (List.mem_cons_of_mem _ (List.mem_singleton.2 rfl)) (fun c hc => .inl (List.mem_singleton.1 hc)); have hO9 := ((Below.heap_setCell (w8.setCell ⟨bN, 0, none⟩ (.string ⟨snap.toArray⟩)) ⟨bN, 1, none⟩ (.slice ad5 (recs.length + 1) cap5) wr.heap.size (by show wr.heap.size ≠ bN; omega)).trans (Below.heap_setCell w8 ⟨bN, 0, none⟩ (.string ⟨snap.toArray⟩) wr.heap.size (by show wr.heap.size ≠ bN; omega))).trans hO8; have y0' := cell_of_row _ _ 0 _ _ _ hO9; have y1' := cell_of_row _ _ 1 _ _ _ hO9; simp only [List.getElem?_toArray, List.getElem?_cons_zero, List.getElem?_cons_succ] at y0' y1'; have htd := hL9.told; have HL9 : Hid _ := hL9; clear hL9 hB8 hX8 hO8 hO9)
              | fail)
            have hfi := hfit
            simp only [Dk.fits, decide_eq_true_eq] at hfi
            have hρe : ρ = ((H - E - 7 : Nat) : Int) := by rw [Hρ.out, if_neg (by omega)]
            have hρ2 : ρ + E + 7 = H := by omega
            have hw1 : IntKind.i64.wrap (ρ - (L : Int)) = ρ - (L : Int) := by rw [IntKind.wrap_i64]; omega
            have hw2 : IntKind.i64.wrap (ρ - (L : Int) - 7) = ρ - (L : Int) - 7 := by rw [IntKind.wrap_i64]; omega
            have hr9 := HL9.out.roomB
            rw [HR.out, body_snoc, ← HE.out, hd] at hr9
            clear htd
            by_cases hz : H < E + 7 + L + 8
            · rw [if_pos hz] at hr9
              have hr9b := fun (w10 : World) hb10 => (HL9.out.below (w' := w10) hb10).roomB
              simp only [HR.out, body_snoc, ← HE.out, hd, if_pos hz] at hr9b
              by_cases hq : ρ - (L : Int) - 7 = -1
              · clear hρe hρ2 hr9b
                go_wp2_with (first
                  | (go_at_call 14; refine hr9.mono ?_; clear hr9; rintro e w10 ⟨rfl, hb10⟩; have htd := (HL9.out.below hb10).told)
                  | (go_at_call 16; refine htd.mono ?_; clear htd; rintro e w11 ⟨y11, ad11, cap11, rfl, hLo, hLw⟩; simp only [List.length_append, List.length_cons, List.length_nil, Nat.zero_add] at hLw; have hal : Below w11.heap.size w11 (w11.alloc (.cells #[.string ⟨snap.toArray⟩, .slice ad11 (recs.length + 1) cap11] 28)) := (Below.refl w11.heap.size w11).alloc (Nat.le_refl _) _; have hLF := hLw.box; obtain ⟨adQ, capQ, hbQ, hLQ⟩ := hLF.take (List.mem_cons_of_mem _ (List.mem_singleton.2 rfl)); simp only [List.length_append, List.length_cons, List.length_nil, Nat.zero_add] at hbQ hLQ; have e0 := cell_of_row _ _ 0 _ _ _ hbQ; have e1 := cell_of_row _ _ 1 _ _ _ hbQ; simp only [List.getElem?_toArray, List.getElem?_cons_zero, List.getElem?_cons_succ] at e0 e1; have hsm := hLQ.sameB hLo.few (List.mem_cons_of_mem _ List.mem_cons_self) List.mem_cons_self; have HLQ : Hid _ := hLQ; have HLO : Hid _ := hLo.below hal; clear hLo hLw hLF hLQ hbQ hal)
                  | (go_at_call 15; refine hsm.mono ?_; clear hsm; rintro e w12 ⟨rfl, hb12⟩; have hrk := (HLQ.out.below hb12).roomB)
                  | (go_at_call 14; refine hrk.mono ?_; clear hrk; rintro e w13 ⟨rfl, hb13⟩; have hrj := ((HLO.out.below hb12).below hb13).roomB)
                  | (go_at_call 14; refine hrj.mono ?_; clear hrj; rintro e w14 ⟨rfl, hb14⟩)
                  | fail)
                go_roundw
                case rel => exact ⟨k + 1, y11, g, a, snap, (recs ++ [d]), rfl, by go_num, by omega, by omega, by omega, (((HLQ.out.below hb12).below hb13).below hb14).drop (fun c hc => List.mem_cons_of_mem _ hc) (fun v e => absurd e (by simp))⟩
                case measure => simp [intOf]; omega
              · have hq1 : ¬ (-1 : Int) = ρ - (L : Int) - 7 := fun e => hq e.symm
                have hq2 : ¬ (1 : Int) ≤ ρ - (L : Int) - 7 := by omega
                clear hρe hρ2
                go_wp2_with (first
                  | (go_at_call 14; refine hr9.mono ?_; clear hr9; rintro e w10 ⟨rfl, hb10⟩; have hr10 := hr9b w10 hb10; clear hr9b)
                  | (go_at_call 14; refine hr10.mono ?_; clear hr10; rintro e w10b ⟨rfl, hb10b⟩; have htd := ((HL9.out.below hb10).below hb10b).told)
                  | (go_at_call 16; refine htd.mono ?_; clear htd; rintro e w11 ⟨y11, ad11, cap11, rfl, hLo, hLw⟩; simp only [List.length_append, List.length_cons, List.length_nil, Nat.zero_add] at hLw; have hal : Below w11.heap.size w11 (w11.alloc (.cells #[.string ⟨snap.toArray⟩, .slice ad11 (recs.length + 1) cap11] 28)) := (Below.refl w11.heap.size w11).alloc (Nat.le_refl _) _; have hLF := hLw.box; obtain ⟨adQ, capQ, hbQ, hLQ⟩ := hLF.take (List.mem_cons_of_mem _ (List.mem_singleton.2 rfl)); simp only [List.length_append, List.length_cons, List.length_nil, Nat.zero_add] at hbQ hLQ; have e0 := cell_of_row _ _ 0 _ _ _ hbQ; have e1 := cell_of_row _ _ 1 _ _ _ hbQ; simp only [List.getElem?_toArray, List.getElem?_cons_zero, List.getElem?_cons_succ] at e0 e1; have hsm := hLQ.sameB hLo.few (List.mem_cons_of_mem _ List.mem_cons_self) List.mem_cons_self; have HLQ : Hid _ := hLQ; have HLO : Hid _ := hLo.below hal; clear hLo hLw hLF hLQ hbQ hal)
                  | (go_at_call 15; refine hsm.mono ?_; clear hsm; rintro e w12 ⟨rfl, hb12⟩; have hrk := (HLQ.out.below hb12).roomB)
                  | (go_at_call 14; refine hrk.mono ?_; clear hrk; rintro e w13 ⟨rfl, hb13⟩; have hrj := ((HLO.out.below hb12).below hb13).roomB)
                  | (go_at_call 14; refine hrj.mono ?_; clear hrj; rintro e w14 ⟨rfl, hb14⟩)
                  | fail)
                go_roundw
                case rel => exact ⟨k + 1, y11, g, a, snap, (recs ++ [d]), rfl, by go_num, by omega, by omega, by omega, (((HLQ.out.below hb12).below hb13).below hb14).drop (fun c hc => List.mem_cons_of_mem _ hc) (fun v e => absurd e (by simp))⟩
                case measure => simp [intOf]; omega
            · rw [if_neg hz, show ((H - (E + 7 + L) - 7 : Nat) : Int) = ρ - (L : Int) - 7 by omega] at hr9
              clear hρe hρ2
              go_wp2_with (first
                | (go_at_call 14; refine hr9.mono ?_; clear hr9; rintro e w10 ⟨rfl, hb10⟩; have htd := (HL9.out.below hb10).told)
                | (go_at_call 16; refine htd.mono ?_; clear htd; rintro e w11 ⟨y11, ad11, cap11, rfl, hLo, hLw⟩; simp only [List.length_append, List.length_cons, List.length_nil, Nat.zero_add] at hLw; have hal : Below w11.heap.size w11 (w11.alloc (.cells #[.string ⟨snap.toArray⟩, .slice ad11 (recs.length + 1) cap11] 28)) := (Below.refl w11.heap.size w11).alloc (Nat.le_refl _) _; have hLF := hLw.box; obtain ⟨adQ, capQ, hbQ, hLQ⟩ := hLF.take (List.mem_cons_of_mem _ (List.mem_singleton.2 rfl)); simp only [List.length_append, List.length_cons, List.length_nil, Nat.zero_add] at hbQ hLQ; have e0 := cell_of_row _ _ 0 _ _ _ hbQ; have e1 := cell_of_row _ _ 1 _ _ _ hbQ; simp only [List.getElem?_toArray, List.getElem?_cons_zero, List.getElem?_cons_succ] at e0 e1; have hsm := hLQ.sameB hLo.few (List.mem_cons_of_mem _ List.mem_cons_self) List.mem_cons_self; have HLQ : Hid _ := hLQ; have HLO : Hid _ := hLo.below hal; clear hLo hLw hLF hLQ hbQ hal)
                | (go_at_call 15; refine hsm.mono ?_; clear hsm; rintro e w12 ⟨rfl, hb12⟩; have hrk := (HLQ.out.below hb12).roomB)
                | (go_at_call 14; refine hrk.mono ?_; clear hrk; rintro e w13 ⟨rfl, hb13⟩; have hrj := ((HLO.out.below hb12).below hb13).roomB)
                | (go_at_call 14; refine hrj.mono ?_; clear hrj; rintro e w14 ⟨rfl, hb14⟩)
                | fail)
              go_roundw
              case rel => exact ⟨k + 1, y11, g, a, snap, (recs ++ [d]), rfl, by go_num, by omega, by omega, by omega, (((HLQ.out.below hb12).below hb13).below hb14).drop (fun c hc => List.mem_cons_of_mem _ hc) (fun v e => absurd e (by simp))⟩
              case measure => simp [intOf]; omega
          | false =>
            have hqL : ¬ (L : Int) ≤ ρ := by simp only [Dk.fits, decide_eq_false_iff_not] at hfit; rw [Hρ.out]; split <;> omega
            have hdo := Try.does_full HR4.out.jd HR4.out.st sz lk hsz k (by omega) L HLL.out (by rw [HSN.out, ← HE.out]; exact hfit)
            go_wp2_with (first
              | (go_at_call 24; refine hdo.mono ?_; clear hdo; rintro e w5 ⟨ad5, cap5, rfl, hb5⟩; have hO5 := (hb5.block _ (Dk.block_lt HO4.out)).trans HO4.out; have HO6 : Hid _ := (Below.heap_alloc w5 (.cells #[.string ⟨snap.toArray⟩, .slice ad5 (recs.length + 1) cap5] 28) _ (Dk.block_lt hO5)).trans hO5; have HX6 : Hid _ := heap_alloc_new w5 (.cells #[.string ⟨snap.toArray⟩, .slice ad5 (recs.length + 1) cap5] 28); have hal6 := hb5.alloc (Nat.le_trans (Nat.le_refl _) hb5.size) (.cells #[.string ⟨snap.toArray⟩, .slice ad5 (recs.length + 1) cap5] 28); have hcs2 := (HR4.out.below hal6).jd.dsk.costs; have HL6 : Hid _ := ((HR4.out.below hal6).lt.less (q' := 650000 + 4000 * (60 - (k + 1))) (by omega)).solo; clear hO5 hal6)
              | (go_at_call 23; refine hcs2.mono ?_; clear hcs2; rintro e w7 ⟨rfl, hb7⟩; have hO7 := (hb7.block _ (Dk.block_lt HO6.out)).trans HO6.out; have s0 := cell_of_row _ _ 0 _ _ _ hO7; have s1 := cell_of_row _ _ 1 _ _ _ hO7; have s2 := cell_of_row _ _ 2 _ _ _ hO7; have s3 := cell_of_row _ _ 3 _ _ _ hO7; simp only [List.getElem?_toArray, List.getElem?_cons_zero, List.getElem?_cons_succ] at s0 s1 s2 s3; have hby := Try.bytes_any ⟨false, false, sz, lk⟩ hsz k (by omega) w7; simp only [Dk.Do.len, ← HLL.out] at hby; have HL7 : Hid _ := HL6.out.below hb7; have HX7 : Hid _ := (hb7.block _ (Dk.block_lt HX6.out)).trans HX6.out; have HO7 : Hid _ := hO7; clear hO7)
              | (go_at_call 25; refine hby.mono ?_; clear hby; rintro e w8 ⟨gb, d8, rfl, hd8, -, hb8, -⟩; have htd := (HL7.out.below hb8).told; have hO8 := (hb8.block _ (Dk.block_lt HO7.out)).trans HO7.out; have v0 := cell_of_row _ _ 0 _ _ _ hO8; have v1 := cell_of_row _ _ 1 _ _ _ hO8; simp only [List.getElem?_toArray, List.getElem?_cons_zero, List.getElem?_cons_succ] at v0 v1; clear hO8)
              | (go_at_call 16; refine htd.mono ?_; clear htd; rintro e w11 ⟨y11, ad11, cap11, rfl, hLo, hLw⟩; have hal : Below w11.heap.size w11 (w11.alloc (.cells #[.string ⟨snap.toArray⟩, .slice ad11 recs.length cap11] 28)) := (Below.refl w11.heap.size w11).alloc (Nat.le_refl _) _; have hLF := hLw.box; obtain ⟨adQ, capQ, hbQ, hLQ⟩ := hLF.take (List.mem_cons_of_mem _ (List.mem_singleton.2 rfl)); have e0 := cell_of_row _ _ 0 _ _ _ hbQ; have e1 := cell_of_row _ _ 1 _ _ _ hbQ; simp only [List.getElem?_toArray, List.getElem?_cons_zero, List.getElem?_cons_succ] at e0 e1; have hsm := hLQ.sameB hLo.few (List.mem_cons_of_mem _ List.mem_cons_self) List.mem_cons_self; have HLQ : Hid _ := hLQ; have HLO : Hid _ := hLo.below hal; clear hLo hLw hLF hLQ hbQ hal)
              | (go_at_call 15; refine hsm.mono ?_; clear hsm; rintro e w12 ⟨rfl, hb12⟩; have hrk := (HLQ.out.below hb12).roomB)
              | (go_at_call 14; refine hrk.mono ?_; clear hrk; rintro e w13 ⟨rfl, hb13⟩; have hrj := ((HLO.out.below hb12).below hb13).roomB)
              | (go_at_call 14; refine hrj.mono ?_; clear hrj; rintro e w14 ⟨rfl, hb14⟩)
              | fail)
            go_roundw
            case rel => exact ⟨k + 1, y11, g, a, snap, recs, rfl, by go_num, by omega, by omega, by omega, (((HLQ.out.below hb12).below hb13).below hb14).drop (fun c hc => List.mem_cons_of_mem _ hc) (fun v e => absurd e (by simp))⟩
            case measure => simp [intOf]; omega
    · rcases (show ¬ (k : Int) < (l.length : Int) ∨ ((k : Int) < (l.length : Int) ∧ ¬ (k : Int) < 60) by omega) with q0 | ⟨q0, q1⟩
      all_goals
        have hbl := hL.bel
        clear hL
        go_wp2
        go_ret
        exact ⟨rfl, hbl⟩
end Go.Proofs
