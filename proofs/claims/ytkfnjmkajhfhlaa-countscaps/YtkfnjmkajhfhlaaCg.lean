/-
  A book: Receipt, Leave, Counts, Event.
-/
import Derived.Test.YtkfnjmkajhfhlaaCf
import Derived.Deep.AppendLies
namespace Go.Ct
/-- Behind a receipt, or a leave, at a place. -/
def rcpt (s : St) (u r : ByteArray) (k : Nat) : St := s.page r u k (fun x => if x ≤ k then none else s.nt r u x)
end Go.Ct
namespace Go.Proofs
open Go.RowKit Go.Wi Go.Ct
theorem Ct.fnd_le {w : World} {b n : Nat} {s : St} {g : Gh} (h : Try.Bx w b s n g) (r e : ByteArray) : fnd s r e ≤ 5000 := by
  by_cases h0 : fnd s r e = 0
  · omega
  · have := (fnd_get h0).2.2.1
    have := h.len
    omega
set_option maxHeartbeats 1000000 in
set_option maxRecDepth 20000 in
theorem Try.receipt_any {w : World} {b n : Nat} {s : St} {g : Gh} (h : Try.Bx w b s n g) (hn : n + 2 < maxLen) (u r e : ByteArray) (he : e.size ≤ maxLen) (hr : r.size ≤ maxLen) (hu : u.size ≤ maxLen) :
    Calls Try.prog 14 #[.pointer (some ⟨b, 0, none⟩), .string u, .string r, .string e] w fun z w' => z = .returned (.bool (decide (s.mr r u < (fnd s r e : Nat)))) ∧ Try.BChg w w' b (if s.mr r u < (fnd s r e : Nat) then rcpt s u r (fnd s r e) else s) (n + 2) g := by
  have hfd := Try.find_any h r e he
  have hmk := Try.mark_any h u r hr hu
  have hpg := Try.page_any h hn u r hr hu
  have hk5 := Ct.fnd_le h r e
  have H : Hid _ := h
  unfold rcpt
  generalize fnd s r e = k at *
  generalize hm : s.mr r u = m at *
  clear h
  by_cases hle : (k : Int) ≤ m
  · have q1 : ¬ m < (k : Int) := by omega
    simp only [q1, if_false, decide_false]
    go_enter Try.func14, Try.ntmps14
    go_wp2_with (first
      | (go_at_call 17; refine hfd.mono ?_; clear hfd; rintro z w2 ⟨rfl, rfl⟩)
      | (go_at_call 22; refine hmk.mono ?_; clear hmk; rintro z w3 ⟨rfl, rfl⟩)
      | fail)
    go_ret
    exact ⟨rfl, Try.BChg.refl (H.out.mono (by omega))⟩
  · have q1 : m < (k : Int) := by omega
    simp only [q1, if_true, decide_true]
    go_enter Try.func14, Try.ntmps14
    go_wp2_with (first
      | (go_at_call 17; refine hfd.mono ?_; clear hfd; rintro z w2 ⟨rfl, rfl⟩)
      | (go_at_call 22; refine hmk.mono ?_; clear hmk; rintro z w3 ⟨rfl, rfl⟩)
      | (go_at_call 19; refine hpg.mono ?_; clear hpg; rintro z w5 ⟨p, g5, rfl, hB5, hH5, hT5, hW5⟩; have hrd := Try.read_any (hB5.pg r u p hH5) (by omega) (k : Int) (by refine WalkArith.wf_i64 ?_; omega); have HB5 : Hid _ := hB5; have HT5 : Hid _ := hT5; have HW5 : Hid _ := hW5; clear hB5 hT5 hW5)
      | (go_at_call 23; refine hrd.mono ?_; clear hrd; rintro z w6 ⟨⟨v6, rfl⟩, hc6⟩)
      | fail)
    go_ret
    refine ⟨rfl, Try.BChg.trans (w1 := w5) (g1 := g5) HT5.out HW5.out ?_⟩
    obtain ⟨g6, hB6, hT6, hW6⟩ := HB5.out.setPage hH5 (n' := n + 2) (by omega) hc6
    exact ⟨⟨g6, hB6, hT6⟩, hW6⟩
set_option maxHeartbeats 1000000 in
set_option maxRecDepth 20000 in
theorem Try.leave_any {w : World} {b n : Nat} {s : St} {g : Gh} (h : Try.Bx w b s n g) (hn : n + 2 < maxLen) (u r : ByteArray) (hr : r.size ≤ maxLen) (hu : u.size ≤ maxLen) :
    Calls Try.prog 15 #[.pointer (some ⟨b, 0, none⟩), .string u, .string r] w fun z w' => (∃ v, z = .returned v) ∧ Try.BChg w w' b (if s.ev.length = 0 then s else rcpt s u r s.ev.length) (n + 2) g := by
  have hpg := Try.page_any h hn u r hr hu
  have hk5 := h.len
  have H : Hid _ := h
  have c0 : w.cell? ⟨b, 0, none⟩ = some g.sv := cell_of_row _ _ 0 _ _ _ h.bl
  obtain ⟨ad, cap, hsv⟩ : ∃ ad cap, g.sv = .slice ad s.ev.length cap := by
    rcases h.st.2 with ⟨h0, h1⟩ | ⟨v, cap, cur, h1, _⟩
    · exact ⟨none, 0, by rw [h0, h1]⟩
    · exact ⟨_, cap, h1⟩
  rw [hsv] at c0
  unfold rcpt
  generalize s.ev.length = k at *
  clear h hsv
  by_cases h0 : k = 0
  · subst h0
    simp only [if_true]
    go_enter Try.func15, Try.ntmps15
    go_wp2
    go_end0
    exact ⟨⟨_, rfl⟩, Try.BChg.refl (H.out.mono (by omega))⟩
  · have q1 : (0 : Int) < (k : Int) := by omega
    simp only [h0, if_false]
    go_enter Try.func15, Try.ntmps15
    go_wp2_with (first
      | (go_at_call 19; refine hpg.mono ?_; clear hpg; rintro z w5 ⟨p, g5, rfl, hB5, hH5, hT5, hW5⟩; have hrd := Try.read_any (hB5.pg r u p hH5) (by omega) (k : Int) (by refine WalkArith.wf_i64 ?_; omega); have HB5 : Hid _ := hB5; have HT5 : Hid _ := hT5; have HW5 : Hid _ := hW5; clear hB5 hT5 hW5)
      | (go_at_call 23; refine hrd.mono ?_; clear hrd; rintro z w6 ⟨⟨v6, rfl⟩, hc6⟩)
      | fail)
    go_end0
    refine ⟨⟨_, rfl⟩, Try.BChg.trans (w1 := w5) (g1 := g5) HT5.out HW5.out ?_⟩
    obtain ⟨g6, hB6, hT6, hW6⟩ := HB5.out.setPage hH5 (n' := n + 2) (by omega) hc6
    exact ⟨⟨g6, hB6, hT6⟩, hW6⟩
set_option maxHeartbeats 1000000 in
set_option maxRecDepth 20000 in
theorem Try.counts_any {w : World} {b n : Nat} {s : St} {g : Gh} (h : Try.Bx w b s n g) (hn : n ≤ 1000000000) (u r : ByteArray) (hr : r.size ≤ maxLen) (hu : u.size ≤ maxLen) :
    Calls Try.prog 13 #[.pointer (some ⟨b, 0, none⟩), .string u, .string r] w fun z w' => ∃ L M : List Int, z = .returned (.tuple #[.int .i64 (min (L.length : Int) 99), .int .i64 (min (M.length : Int) 99)]) ∧ L.Nodup ∧ (∀ x, x ∈ L ↔ (s.nt r u x).isSome) ∧ M.Nodup ∧ (∀ x, x ∈ M ↔ s.nt r u x = some true) ∧ Below w.heap.size w w' := by
  have c2 : w.cell? ⟨b, 2, none⟩ = some (.map (some g.br)) := cell_of_row _ _ 2 _ _ _ h.bl
  obtain ⟨h1, h2⟩ := h.looks r u hr hu
  cases hH : g.H r u with
  | none =>
    rw [hH] at h2
    have hno := (h.no r u hH).2
    clear h
    go_enter Try.func13, Try.ntmps13
    go_wp2
    go_ret2
    exact ⟨[], [], rfl, by simp, by simp [hno], by simp, by simp [hno], Below.refl _ _⟩
  | some p =>
    rw [hH] at h2
    have hP := h.pg r u p hH
    have c3 : w.cell? ⟨p, 1, none⟩ = some (.map (g.N r u)) := cell_of_row _ _ 1 _ _ _ hP.bl
    obtain ⟨L, hL1, hL2, hL3, hlen⟩ := (hP.mp.keep (w' := w.drew) fun _ _ => rfl).list Try.uNotes
    obtain ⟨M, ⟨hM1, hM2⟩, hM3⟩ := Try.fin_of hP.mp
    have c4 : w.cell? ⟨p, 2, none⟩ = some (.int .i64 (M.length : Nat)) := by
      rw [← cntT_eq hM1 hM2]
      exact cell_of_row _ _ 2 _ _ _ hP.bl
    have HM1 : Hid _ := hM1
    have HM2 : Hid (∀ x, x ∈ M ↔ s.nt r u x = some true) := hM2
    have hm9 : (M.length : Int) ≤ 1000000000 := by omega
    have HL1 : Hid _ := hL1
    have HL2 : Hid (∀ x, x ∈ L ↔ (s.nt r u x).isSome) := fun x => by rw [hL2 x]; simp
    generalize hl : L.length = l at *
    have hl0 : (0 : Int) ≤ (l : Int) := by omega
    clear h hP hL1 hL2 hM1 hM2 hM3
    go_enter Try.func13, Try.ntmps13
    go_wp2
    go_region
    all_goals try go_wp2
    all_goals
      go_ret2
      refine ⟨L, M, ?_, HL1.out, HL2.out, HM1.out, HM2.out, ⟨rfl, rfl, rfl, Nat.le_refl _, fun _ _ => rfl⟩⟩
      rw [hl]
      first | rw [show min (l : Int) 99 = (l : Int) by omega] | rw [show min (l : Int) 99 = 99 by omega]
      first | rw [show min (M.length : Int) 99 = (M.length : Int) by omega] | rw [show min (M.length : Int) 99 = 99 by omega]
      rfl
theorem Try.info_entry : (Try.prog.info? 49).map (fun i => (i.zero, i.size, i.bytes)) = some (some (.agg #[.string ⟨#[]⟩, .string ⟨#[]⟩, .bool false]), 3, 40) := by kernel_rfl
theorem Try.uEntries : Try.prog.underlying 45 = some (.slice 49) := by kernel_rfl
/-- An event more. -/
theorem Try.Bx.addEv {w w' : World} {b n : Nat} {s : St} {g : Gh} (h : Try.Bx w b s n g) {r e : ByteArray} (hp : place s.ev e = none) (hl : s.ev.length < 5000) {sv : Value} {gb : Nat} (hsv : sv.ownBlock = some gb) (hgb : g.sv.ownBlock = some gb ∨ w.heap.size ≤ gb)
    (hb : w'.heap[b]? = some (.cells #[sv, .map (some g.bp), .map (some g.br)] 47 (0, 0))) (hrow : w'.ownsRow 0 49 3 sv (s.ev.length + 1) (evC (s.ev ++ [(r, e, false)])))
    (hM : Mp Try.kS w' (some g.bp) (n + 1) (upd (fun e => (place s.ev e).map intP) e (some (intP (s.ev.length + 1))))) (hk : ∀ y, y < w.heap.size → y ≠ b → g.sv.ownBlock ≠ some y → y ≠ g.bp → w'.heap[y]? = w.heap[y]?) :
    Try.Bx w' b (s.add r e) (n + 1) { g with sv := sv, T := fun y => if y = gb then .row else g.T y } := by
  have lo : ∀ y t, y < w.heap.size → g.T y = t → t ≠ .row → (if y = gb then Tg.row else g.T y) = t := fun y t hy ht hne => by
    rw [if_neg]
    · exact ht
    · intro e1
      rcases hgb with e2 | e2
      · exact hne (by rw [← ht, e1, h.tr gb e2])
      · omega
  have hsame : ∀ y t, y < w.heap.size → g.T y = t → t ≠ .row → t ≠ .book → t ≠ .places → w'.heap[y]? = w.heap[y]? := fun y t hy ht h1 h2 h3 => hk y hy (fun e => h2 (by rw [← ht, e, h.tb])) (fun e => h1 (by rw [← ht, h.tr y e])) (fun e => h3 (by rw [← ht, e, h.tp]))
  constructor
  · exact hb
  · simpa [St.add] using hrow
  · refine hM.cong fun y => ?_
    simp only [St.add, place_app]
    by_cases ey : y = e
    · subst ey; simp [hp]
    · rw [upd_ne _ _ ey]
      have : ¬ (e = y) := fun q => ey q.symm
      simp [this]
  · exact (h.rm.keep fun y e => by injection e with e; subst e; exact hsame _ _ (h.rm.lt rfl) h.tm (by simp) (by simp) (by simp)).mono (by omega)
  · intro r' y e
    exact ((h.us r' y e).keep fun z e1 => by injection e1 with e1; subst e1; exact hsame _ _ ((h.us r' _ e).lt rfl) (h.tu r' _ e) (by simp) (by simp) (by simp)).mono (by omega)
  · intro r' u p e
    have := (h.pg r' u p e).keep (w' := w') (hsame _ _ (h.pg r' u p e).lt (h.tg r' u p e) (by simp) (by simp) (by simp)) fun y e1 => hsame _ _ (h.notesLt e1) (h.tn r' u y e1) (by simp) (by simp) (by simp)
    exact ⟨this.bl, this.mp.mono (by omega)⟩
  · exact h.no
  · exact h.gh
  · exact h.nn
  · exact lo b _ (block_lt h.bl) h.tb (by simp)
  · intro y e1
    simp only at e1
    rw [hsv] at e1; injection e1 with e1
    simp [e1]
  · exact lo _ _ (h.pl.lt rfl) h.tp (by simp)
  · exact lo _ _ (h.rm.lt rfl) h.tm (by simp)
  · intro r' y e1; exact lo _ _ ((h.us r' y e1).lt rfl) (h.tu r' y e1) (by simp)
  · intro r' u p e1; exact lo _ _ (h.pg r' u p e1).lt (h.tg r' u p e1) (by simp)
  · intro r' u y e1; exact lo _ _ (h.notesLt e1) (h.tn r' u y e1) (by simp)
  · simp [St.add]; omega
set_option maxHeartbeats 1000000 in
set_option maxRecDepth 20000 in
theorem Try.event_known {w : World} {b n : Nat} {s : St} {g : Gh} (h : Try.Bx w b s n g) (r e : ByteArray) (he : e.size ≤ maxLen) {k : Nat} (hp : place s.ev e = some k) :
    Calls Try.prog 8 #[.pointer (some ⟨b, 0, none⟩), .string r, .string e] w fun z w' => z = .returned (.tuple #[.int .i64 0, .int .i64 110]) ∧ w' = w := by
  have c1 : w.cell? ⟨b, 1, none⟩ = some (.map (some g.bp)) := cell_of_row _ _ 1 _ _ _ h.bl
  have hlk : (Instr.lookup 43 (.map (some g.bp)) (.string e) false).run Try.prog w = .ok (((place s.ev e).map intP).getD (.int .i64 0)) w := h.pl.look Try.uPlaces (Try.zInt w) (x := e) he
  rw [hp] at hlk
  simp only [Option.map_some, Option.getD_some, intP] at hlk
  have hk := (place_get hp).1
  have q1 : (0 : Int) < (k : Int) := by omega
  clear h
  go_enter Try.func8, Try.ntmps8
  go_wp2
  go_ret2
  exact ⟨rfl, rfl⟩
set_option maxHeartbeats 1000000 in
set_option maxRecDepth 20000 in
theorem Try.event_full {w : World} {b n : Nat} {s : St} {g : Gh} (h : Try.Bx w b s n g) (r e : ByteArray) (he : e.size ≤ maxLen) (hp : place s.ev e = none) (hl : s.ev.length = 5000) :
    Calls Try.prog 8 #[.pointer (some ⟨b, 0, none⟩), .string r, .string e] w fun z w' => z = .returned (.tuple #[.int .i64 0, .int .i64 111]) ∧ w' = w := by
  have c1 : w.cell? ⟨b, 1, none⟩ = some (.map (some g.bp)) := cell_of_row _ _ 1 _ _ _ h.bl
  have c0 : w.cell? ⟨b, 0, none⟩ = some g.sv := cell_of_row _ _ 0 _ _ _ h.bl
  have hlk : (Instr.lookup 43 (.map (some g.bp)) (.string e) false).run Try.prog w = .ok (((place s.ev e).map intP).getD (.int .i64 0)) w := h.pl.look Try.uPlaces (Try.zInt w) (x := e) he
  rw [hp] at hlk
  simp only [Option.map_none, Option.getD_none] at hlk
  obtain ⟨ad, cap, hsv⟩ : ∃ ad cap, g.sv = .slice ad s.ev.length cap := by
    rcases h.st.2 with ⟨h0, h1⟩ | ⟨v, cap, cur, h1, _⟩
    · exact ⟨none, 0, by rw [h0, h1]⟩
    · exact ⟨_, cap, h1⟩
  rw [hsv, hl] at c0
  clear h
  go_enter Try.func8, Try.ntmps8
  go_wp2
  go_ret2
  exact ⟨rfl, rfl⟩
set_option maxHeartbeats 1000000 in
set_option maxRecDepth 20000 in
theorem Try.event_new {w : World} {b n : Nat} {s : St} {g : Gh} (h : Try.Bx w b s n g) (hn : n + 1 < maxLen) (r e : ByteArray) (he : e.size ≤ maxLen) (hp : place s.ev e = none) (hl : s.ev.length < 5000) :
    Calls Try.prog 8 #[.pointer (some ⟨b, 0, none⟩), .string r, .string e] w fun z w' => z = .returned (.tuple #[.int .i64 ((s.ev.length : Int) + 1), .int .i64 0]) ∧ Try.BChg w w' b (s.add r e) (n + 1) g := by
  obtain ⟨i0, hi0, hz0, hz1, hz2⟩ := info_parts Try.info_entry
  have c1 : w.cell? ⟨b, 1, none⟩ = some (.map (some g.bp)) := cell_of_row _ _ 1 _ _ _ h.bl
  have c0 : w.cell? ⟨b, 0, none⟩ = some g.sv := cell_of_row _ _ 0 _ _ _ h.bl
  have f0 : w.frozen? ⟨b, 0, none⟩ = false := frozen_of_row _ _ 0 _ _ h.bl
  have hlk : (Instr.lookup 43 (.map (some g.bp)) (.string e) false).run Try.prog w = .ok (((place s.ev e).map intP).getD (.int .i64 0)) w := h.pl.look Try.uPlaces (Try.zInt w) (x := e) he
  rw [hp] at hlk
  simp only [Option.map_none, Option.getD_none] at hlk
  obtain ⟨ad, cap, hsv⟩ : ∃ ad cap, g.sv = .slice ad s.ev.length cap := by
    rcases h.st.2 with ⟨h0, h1⟩ | ⟨v, cap, cur, h1, _⟩
    · exact ⟨none, 0, by rw [h0, h1]⟩
    · exact ⟨_, cap, h1⟩
  have hbl := block_lt h.bl
  have hob : g.sv.ownBlock ≠ some b := fun e1 => by have := h.tr b e1; rw [h.tb] at this; cases this
  have hpb : g.bp ≠ b := fun e1 => by have := h.tp; rw [e1, h.tb] at this; cases this
  have hpr : g.sv.ownBlock ≠ some g.bp := fun e1 => by have := h.tr _ e1; rw [h.tp] at this; cases this
  have hpl := h.pl.lt rfl
  have hrow0 := h.st
  rw [hsv] at c0 hob hpr hrow0
  have HROW : Hid (w.ownsRow 0 49 3 (.slice ad s.ev.length cap) s.ev.length (evC s.ev)) := hrow0
  have H : Hid _ := h
  have q1 : ¬ ((s.ev.length : Int) = 5000) := by omega
  generalize hll : s.ev.length = l at *
  have HPB : Hid _ := hpb
  have HPR : Hid _ := hpr
  have HOB : Hid _ := hob
  have HSV : Hid _ := hsv
  clear h hrow0 hpb hpr hob hsv
  go_enter Try.func8, Try.ntmps8
  go_wp2_with (first
    | (at_builtin; refine wpList_append_lies _ rfl _ _ 45 rfl 0 49 i0 _ 3 40 Try.uEntries hi0 hz0 hz1 hz2 rfl (by omega) (.slice ad l cap) l (evC s.ev) rfl (HROW.out.alloc _) ⟨w.heap.size, 0, none⟩ 1 1 [.string r, .string e, .bool false] rfl rfl (World.news_of_block (cs := #[.string r, .string e, .bool false]) (t := 49) (fr := (0, 0)) (heap_alloc_new w _)) (by simp [Value.oneCell']) (by omega) (by unfold maxLen; omega) (by omega) (by simp) (w.heap.size + 1) (by simp) ?_; intro gb cap2 w2 hown2 hgrow2 hgb2 hlt2; have f02 : w2.frozen? ⟨b, 0, none⟩ = false := (hgrow2.frozen_far _ (by simp; omega) (Ne.symm HOB.out)).trans ((((Below.refl w.heap.size w).alloc (Nat.le_refl _) _).frozen (p := ⟨b, 0, none⟩) hbl).trans f0); have c02 : w2.cell? ⟨b, 0, none⟩ = some (.slice ad l cap) := (hgrow2.cell_far _ (by simp; omega) (Ne.symm HOB.out)).trans ((((Below.refl w.heap.size w).alloc (Nat.le_refl _) _).cell (p := ⟨b, 0, none⟩) hbl).trans c0); have c12 : w2.cell? ⟨b, 1, none⟩ = some (.map (some g.bp)) := (hgrow2.cell_far _ (by simp; omega) (Ne.symm HOB.out)).trans ((((Below.refl w.heap.size w).alloc (Nat.le_refl _) _).cell (p := ⟨b, 1, none⟩) hbl).trans c1);
        obtain ⟨w4, hrun4, hM4, htu4⟩ := (H.out.pl.keep (w' := w2.setCell ⟨b, 0, none⟩ (.slice (some ⟨gb, 0, none⟩) (l + 1) cap2)) (fun x hx => by injection hx with hx; subst hx; exact (Below.heap_setCell _ ⟨b, 0, none⟩ _ _ HPB.out).trans ((hgrow2.block _ (by simp; omega) (Ne.symm HPR.out)).trans (Ct.alloc_old _ hpl)))).store Try.uPlaces (by omega) (x := e) he (intP (l + 1));
        have hr4 : (Instr.mapUpdate 43 (.map (some g.bp)) (.string e) (.int .i64 ((l : Int) + 1))).run Try.prog (w2.setCell ⟨b, 0, none⟩ (.slice (some ⟨gb, 0, none⟩) (l + 1) cap2)) = .ok () w4 := hrun4; have HM4 : Hid _ := hM4; have HG4 : Hid _ := htu4.grown; have HO2 : Hid _ := hown2; have HG2 : Hid _ := hgrow2; have HGB : Hid _ := hgb2; clear hM4 htu4 hrun4 hown2 hgrow2 hgb2)
    | fail)
  go_ret2
  have hsv := HSV.out
  have hg2 := HG2.out
  have hb2 : w2.heap[b]? = some (.cells #[.slice ad l cap, .map (some g.bp), .map (some g.br)] 47 (0, 0)) := by
    have := H.out.bl
    rw [hsv] at this
    exact (hg2.block b (by simp; omega) (Ne.symm HOB.out)).trans ((Ct.alloc_old _ hbl).trans this)
  have hb3 := heap_setCell_same w2 b 0 _ _ (.slice (some ⟨gb, 0, none⟩) (l + 1) cap2) hb2
  have hgb4 : g.sv.ownBlock = some gb ∨ w.heap.size ≤ gb := by
    rcases HGB.out with e1 | e1
    · exact .inl (by rw [hsv]; exact e1)
    · exact .inr (by omega)
  have hgbb : gb ≠ b := fun e1 => by
    rcases HGB.out with e2 | e2
    · exact HOB.out (by rw [e2, e1])
    · omega
  have hgbp : gb ≠ g.bp := fun e1 => by
    rcases HGB.out with e2 | e2
    · exact HPR.out (by rw [e2, e1])
    · omega
  have hs4 : w.heap.size ≤ w2.heap.size := by have := hg2.size; simp at this; omega
  have hg4 : (w2.setCell ⟨b, 0, none⟩ (.slice (some ⟨gb, 0, none⟩) (l + 1) cap2)).grownBy w4 (some g.bp) := HG4.out
  have hB := H.out.addEv (w' := w4) (r := r) (e := e) hp (by omega) (sv := .slice (some ⟨gb, 0, none⟩) (l + 1) cap2) (gb := gb) rfl hgb4
    ((hg4.block b (by simp; omega) (fun e1 => HPB.out (by injection e1 with e1; exact e1.symm))).trans hb3)
    (by
      rw [hll, evC_app]
      refine (ownsRow_setCell_other HO2.out (a := ⟨b, 0, none⟩) (fun e1 => hgbb (by simpa [Value.ownBlock] using e1)) _).kept hg4 (.inr fun e1 => hgbp (by simpa [Value.ownBlock] using e1)))
    (by rw [hll]; exact HM4.out)
    (fun y hy h1 h2 h3 => (hg4.block y (by simp; omega) (fun e1 => h3 (by injection e1))).trans ((Below.heap_setCell _ ⟨b, 0, none⟩ _ _ h1).trans ((hg2.block y (by simp; omega) (fun e1 => h2 (by rw [hsv]; exact e1.symm))).trans (Ct.alloc_old _ hy))))
  refine ⟨by simp, ⟨⟨_, hB, fun y e1 => ?_⟩, ?_⟩⟩
  · simp only at e1
    by_cases ey : y = gb
    · rcases hgb4 with e2 | e2
      · exact .inl (by rw [ey, H.out.tr gb e2]; simp)
      · exact .inr (by omega)
    · rw [if_neg ey] at e1; exact .inl e1
  · refine ((((Wo.refl _ w).alloc _).grown hg2 fun y e1 => .inl (by rw [H.out.tr y (by rw [hsv]; exact e1)]; simp)).setCell b 0 _ (.inl (by rw [H.out.tb]; simp))).grown hg4 fun y e1 => .inl (by injection e1 with e1; rw [← e1, H.out.tp]; simp)
end Go.Proofs
