/-
  A book: what is forgotten; Redact.
-/
import Derived.Test.YtkfnjmkajhfhlaaCi
namespace Go.Ct
theorem evC_set : ∀ {l : List Ev} {i : Nat} {x : Ev}, l[i]? = some x → (evC l).set (i * 3 + 2) (.bool true) = evC (l.set i (x.1, x.2.1, true))
  | [], i, x, h => by simp at h
  | y :: l, 0, x, h => by
    simp at h; subst h
    simp [evC]
  | y :: l, i + 1, x, h => by
    have h1 : l[i]? = some x := by simpa using h
    have e : ∀ z : Ev, ∀ m : List Ev, evC (z :: m) = [.string z.1, .string z.2.1, .bool z.2.2] ++ evC m := fun _ _ => rfl
    rw [List.set_cons_succ, e, e, ← evC_set h1, List.set_append_right _ _ (by simp; omega)]
    congr 2
    simp
    omega
/-- Behind a redaction's walk through a room: the users that are not left have none at place k. -/
def forg (s : St) (r : ByteArray) (k : Int) (left : ByteArray → Bool) : St :=
  { s with nt := fun r' u' => if r' = r ∧ left u' = false then upd (s.nt r' u') k none else s.nt r' u' }
def redct (s : St) (r e : ByteArray) (i : Nat) : St := forg { s with ev := s.ev.set i (r, e, true) } r ((i : Int) + 1) (fun _ => false)
end Go.Ct
namespace Go.Proofs
open Go.RowKit Go.Wi Go.Ct
section
variable {w w' : World} {b n : Nat} {s : St} {g : Gh}
theorem Try.Bx.cong {s' : St} (h : Try.Bx w b s n g) (he : s'.ev = s.ev) (hm : s'.mr = s.mr) (hn : s'.nt = s.nt) : Try.Bx w b s' n g := by
  cases s; cases s'
  simp only at he hm hn
  subst he hm hn
  exact h
/-- An event taken back. -/
theorem Try.Bx.setBack (h : Try.Bx w b s n g) {i : Nat} {r e : ByteArray} {t : Bool} (hi : s.ev[i]? = some (r, e, t)) {v cap : Nat} (hsv : g.sv = .slice (some ⟨v, 0, none⟩) s.ev.length cap) :
    Try.Bx (w.setCell ⟨v, i * 3 + 2, none⟩ (.bool true)) b { s with ev := s.ev.set i (r, e, true) } n g := by
  have hT : g.T v = .row := h.tr v (by rw [hsv]; rfl)
  have hk : ∀ y t, g.T y = t → t ≠ .row → (w.setCell ⟨v, i * 3 + 2, none⟩ (.bool true)).heap[y]? = w.heap[y]? := fun y t h1 h2 => Below.heap_setCell w ⟨v, i * 3 + 2, none⟩ _ _ (fun e1 => h2 (by rw [← h1, e1]; exact hT))
  have hil : i < s.ev.length := (List.getElem?_eq_some_iff.1 hi).1
  have hp : ∀ x, place (s.ev.set i (r, e, true)) x = place s.ev x := fun x => place_names _ _ (by
    apply List.ext_getElem?
    intro j
    simp only [List.getElem?_map, List.getElem?_set]
    by_cases hj : i = j
    · subst hj
      rw [hi]
      simp [hil]
    · simp [hj]) x
  constructor
  · exact (hk b _ h.tb (by simp)).trans h.bl
  · refine ⟨by rw [evC_len], ?_⟩
    rcases h.st.2 with ⟨h0, h1⟩ | ⟨y, cp, cur, h1, h2, h3, h4, h5, h6, h7⟩
    · rw [hsv] at h0; cases h0
    · rw [hsv] at h1
      injection h1 with e1 e2 e3
      injection e1 with e1
      injection e1 with e1
      subst e1 e3
      refine .inr ⟨v, cap, _, by rw [hsv]; simp, h2, heap_setCell_same w v (i * 3 + 2) cur 49 _ h3, by simpa using h4, h5, by simpa using h6, ?_⟩
      simp only [List.length_set]
      rw [← evC_set hi, ← h7]
      simp [List.take_set]
  · exact (h.pl.keep fun y e1 => by injection e1 with e1; subst e1; exact hk _ _ h.tp (by simp)).cong fun x => by simp only [hp]
  · exact h.rm.keep fun y e1 => by injection e1 with e1; subst e1; exact hk _ _ h.tm (by simp)
  · intro r' x e1; exact (h.us r' x e1).keep fun y e2 => by injection e2 with e2; subst e2; exact hk _ _ (h.tu r' _ e1) (by simp)
  · intro r' u p e1; exact (h.pg r' u p e1).keep (hk _ _ (h.tg r' u p e1) (by simp)) fun y e2 => hk _ _ (h.tn r' u y e2) (by simp)
  · exact h.no
  · exact h.gh
  · exact h.nn
  · exact h.tb
  · exact h.tr
  · exact h.tp
  · exact h.tm
  · exact h.tu
  · exact h.tg
  · exact h.tn
  · simpa using h.len
/-- What was written on a page; whose blocks are is as it was. -/
theorem Try.Bx.setPage2 (h : Try.Bx w b s n g) {r u : ByteArray} {p : Nat} {m : Int} {f : Int → Option Bool} (hH : g.H r u = some p) {o' : Option Nat} (hP : Try.Pg w' p o' n m f) (ho' : o' = g.N r u ∨ o' = none) (hw : ∀ y, y < w.heap.size → y ≠ p → g.N r u ≠ some y → w'.heap[y]? = w.heap[y]?) :
    Try.Bx w' b (s.page r u m f) n { g with N := upd2 g.N r u o' } := by
  have hT := h.tg r u p hH
  have hsame : ∀ y t, y < w.heap.size → g.T y = t → t ≠ .page r u → t ≠ .notes r u → w'.heap[y]? = w.heap[y]? := fun y t hy ht h1 h2 => hw y hy (fun e => h1 (by rw [← ht, e]; exact hT)) (fun e => h2 (by rw [← ht]; exact h.tn r u y e))
  constructor
  · exact (hsame b _ (block_lt h.bl) h.tb (by simp) (by simp)).trans h.bl
  · exact h.row_keep fun y e => hsame y _ (h.rowLt e) (h.tr y e) (by simp) (by simp)
  · exact h.pl.keep fun y e => by injection e with e; subst e; exact hsame _ _ (h.pl.lt rfl) h.tp (by simp) (by simp)
  · exact h.rm.keep fun y e => by injection e with e; subst e; exact hsame _ _ (h.rm.lt rfl) h.tm (by simp) (by simp)
  · intro r' y e
    exact (h.us r' y e).keep fun z e1 => by injection e1 with e1; subst e1; exact hsame _ _ ((h.us r' _ e).lt rfl) (h.tu r' _ e) (by simp) (by simp)
  · intro r' u' q e
    by_cases er : r' = r ∧ u' = u
    · obtain ⟨rfl, rfl⟩ := er
      simp only at e
      rw [hH] at e; injection e with e; subst e
      simp only [upd2_same, St.page, and_self, if_true]
      exact hP
    · have := (h.pg r' u' q e).keep (w' := w') (hsame _ _ (h.pg r' u' q e).lt (h.tg r' u' q e) (fun e1 => er (by injection e1 with e1 e2; exact ⟨e1, e2⟩)) (by simp)) fun y e1 => hsame _ _ (h.notesLt e1) (h.tn r' u' y e1) (by simp) (fun e2 => er (by injection e2 with e2 e3; exact ⟨e2, e3⟩))
      simp only [upd2_ne _ _ er, St.page, er, if_false]
      exact this
  · intro r' u' e
    by_cases er : r' = r ∧ u' = u
    · obtain ⟨rfl, rfl⟩ := er; simp only at e; rw [hH] at e; cases e
    · simp only [St.page, er, if_false]; exact h.no r' u' e
  · exact h.gh
  · intro r' u' e
    by_cases er : r' = r ∧ u' = u
    · obtain ⟨rfl, rfl⟩ := er; simp only at e; rw [hH] at e; cases e
    · simp only [upd2_ne _ _ er]; exact h.nn r' u' e
  · exact h.tb
  · exact h.tr
  · exact h.tp
  · exact h.tm
  · exact h.tu
  · exact h.tg
  · intro r' u' y e
    by_cases er : r' = r ∧ u' = u
    · obtain ⟨rfl, rfl⟩ := er
      simp only [upd2_same] at e
      rcases ho' with e1 | e1
      · exact h.tn r' u' y (by rw [← e1]; exact e)
      · rw [e1] at e; cases e
    · simp only [upd2_ne _ _ er] at e
      exact h.tn r' u' y e
  · exact h.len
/-- A page that is empty, taken out. -/
theorem Try.Bx.dropPage (h : Try.Bx w b s n g) {r u : ByteArray} {x : Nat} (hG : g.G r = some x) (hm : s.mr r u = 0) (hn : ∀ k, s.nt r u k = none) (hM : Mp Try.kS w' (some x) n (upd (fun u => (g.H r u).map ptrP) u none)) (hk : ∀ y, y < w.heap.size → y ≠ x → w'.heap[y]? = w.heap[y]?) :
    Try.Bx w' b s n { g with H := upd2 g.H r u none, N := upd2 g.N r u none } := by
  have hT := h.tu r x hG
  have hsame : ∀ y t, y < w.heap.size → g.T y = t → t ≠ .users r → w'.heap[y]? = w.heap[y]? := fun y t hy ht hne => hk y hy fun e => hne (by rw [← ht, e]; exact hT)
  constructor
  · exact (hsame b _ (block_lt h.bl) h.tb (by simp)).trans h.bl
  · exact h.row_keep fun y e => hsame y _ (h.rowLt e) (h.tr y e) (by simp)
  · exact h.pl.keep fun y e => by injection e with e; subst e; exact hsame _ _ (h.pl.lt rfl) h.tp (by simp)
  · exact h.rm.keep fun y e => by injection e with e; subst e; exact hsame _ _ (h.rm.lt rfl) h.tm (by simp)
  · intro r' y e
    by_cases er : r' = r
    · subst er
      simp only at e
      rw [hG] at e; injection e with e; subst e
      exact hM.cong fun u' => by by_cases eu : u' = u <;> simp [upd, upd2, eu]
    · have := (h.us r' y e).keep (w' := w') fun z e1 => by injection e1 with e1; subst e1; exact hsame _ _ ((h.us r' _ e).lt rfl) (h.tu r' _ e) (by simp [er])
      exact this.cong fun u' => by simp only; rw [upd2_ne _ _ (fun e => er e.1)]
  · intro r' u' q e
    by_cases er : r' = r ∧ u' = u
    · obtain ⟨rfl, rfl⟩ := er
      simp only [upd2_same] at e; cases e
    · simp only [upd2_ne _ _ er] at e ⊢
      exact (h.pg r' u' q e).keep (w' := w') (hsame _ _ (h.pg r' u' q e).lt (h.tg r' u' q e) (by simp)) fun y e1 => hsame _ _ (h.notesLt e1) (h.tn r' u' y e1) (by simp)
  · intro r' u' e
    by_cases er : r' = r ∧ u' = u
    · obtain ⟨rfl, rfl⟩ := er; exact ⟨hm, hn⟩
    · simp only [upd2_ne _ _ er] at e; exact h.no r' u' e
  · intro r' u' e
    by_cases er : r' = r ∧ u' = u
    · obtain ⟨rfl, rfl⟩ := er; exact upd2_same _ _ _ _
    · simp only [upd2_ne _ _ er]; exact h.gh r' u' e
  · intro r' u' e
    by_cases er : r' = r ∧ u' = u
    · obtain ⟨rfl, rfl⟩ := er; exact upd2_same _ _ _ _
    · simp only [upd2_ne _ _ er] at e ⊢; exact h.nn r' u' e
  · exact h.tb
  · exact h.tr
  · exact h.tp
  · exact h.tm
  · exact h.tu
  · intro r' u' q e
    by_cases er : r' = r ∧ u' = u
    · obtain ⟨rfl, rfl⟩ := er; simp only [upd2_same] at e; cases e
    · simp only [upd2_ne _ _ er] at e; exact h.tg r' u' q e
  · intro r' u' y e
    by_cases er : r' = r ∧ u' = u
    · obtain ⟨rfl, rfl⟩ := er; simp only [upd2_same] at e; cases e
    · simp only [upd2_ne _ _ er] at e; exact h.tn r' u' y e
  · exact h.len
/-- A room of which nobody has a page, taken out. -/
theorem Try.Bx.dropRoom (h : Try.Bx w b s n g) {r : ByteArray} (hH : ∀ u, g.H r u = none) (hM : Mp Try.kS w' (some g.br) n (upd (fun r => (g.G r).map mapP) r none)) (hk : ∀ y, y < w.heap.size → y ≠ g.br → w'.heap[y]? = w.heap[y]?) :
    Try.Bx w' b s n { g with G := upd g.G r none } := by
  have hsame : ∀ y t, y < w.heap.size → g.T y = t → t ≠ .rooms → w'.heap[y]? = w.heap[y]? := fun y t hy ht hne => hk y hy fun e => hne (by rw [← ht, e]; exact h.tm)
  constructor
  · exact (hsame b _ (block_lt h.bl) h.tb (by simp)).trans h.bl
  · exact h.row_keep fun y e => hsame y _ (h.rowLt e) (h.tr y e) (by simp)
  · exact h.pl.keep fun y e => by injection e with e; subst e; exact hsame _ _ (h.pl.lt rfl) h.tp (by simp)
  · exact hM.cong fun y => by by_cases e : y = r <;> simp [upd, e]
  · intro r' y e
    by_cases er : r' = r
    · subst er; simp at e
    · simp only [upd_ne _ _ er] at e
      exact (h.us r' y e).keep fun z e1 => by injection e1 with e1; subst e1; exact hsame _ _ ((h.us r' _ e).lt rfl) (h.tu r' _ e) (by simp)
  · intro r' u p e
    exact (h.pg r' u p e).keep (w' := w') (hsame _ _ (h.pg r' u p e).lt (h.tg r' u p e) (by simp)) fun y e1 => hsame _ _ (h.notesLt e1) (h.tn r' u y e1) (by simp)
  · exact h.no
  · intro r' u e
    by_cases er : r' = r
    · subst er; exact hH u
    · simp only [upd_ne _ _ er] at e; exact h.gh r' u e
  · exact h.nn
  · exact h.tb
  · exact h.tr
  · exact h.tp
  · exact h.tm
  · intro r' y e
    by_cases er : r' = r
    · subst er; simp at e
    · simp only [upd_ne _ _ er] at e; exact h.tu r' y e
  · exact h.tg
  · exact h.tn
  · exact h.len
end
theorem Ct.forg_nt (s : St) (r : ByteArray) (k : Int) (left : ByteArray → Bool) (r' u' : ByteArray) : (forg s r k left).nt r' u' = if r' = r ∧ left u' = false then upd (s.nt r' u') k none else s.nt r' u' := rfl
theorem Ct.forg_step {s : St} {r u : ByteArray} {k : Int} {left : ByteArray → Bool} (hl : left u = true) : (forg s r k left).page r u ((forg s r k left).mr r u) (upd ((forg s r k left).nt r u) k none) = forg s r k (fun y => left y && decide (y ≠ u)) := by
  have e1 : (forg s r k left).nt r u = s.nt r u := by rw [Ct.forg_nt, if_neg]; simp [hl]
  unfold St.page
  rw [e1]
  simp only [forg, St.mk.injEq, true_and]
  constructor
  · funext r' u'
    by_cases h : r' = r ∧ u' = u
    · obtain ⟨rfl, rfl⟩ := h; simp
    · rw [if_neg h]
  · funext r' u'
    by_cases h : r' = r ∧ u' = u
    · obtain ⟨rfl, rfl⟩ := h; simp
    · rw [if_neg h]
      by_cases hr : r' = r
      · have hu : u' ≠ u := fun e => h ⟨hr, e⟩
        simp [hr, hu]
      · simp [hr]
theorem Try.forget_mid {w2 w3 w4 : World} {b n it p cnt : Nat} {s : St} {g g' : Gh} {r u : ByteArray} {k : Int} {left : ByteArray → Bool} {o4 : Option Nat} (hB2 : Try.Bx w2 b (forg s r k left) n g') (hGG : g'.G = g.G) (hrg2 : Rg Try.kS w2 (g.G r) it n (fun u => (g'.H r u).map ptrP) (fun y => left y && decide (y ≠ u)) cnt)
    (hT : ∀ y, g'.T y ≠ .no → y < it) (hit : it < w2.heap.size) (hlx : left u = true) (hHp : g'.H r u = some p) (hg3 : Wo (fun x => x = p ∨ g'.N r u = some x) w2 w3) (hs3 : w3.heap.size = w2.heap.size) (hP4 : Try.Pg w4 p o4 n ((forg s r k left).mr r u) (upd ((forg s r k left).nt r u) k none)) (ho4 : o4 = g'.N r u ∨ o4 = none) (hw4 : Wo (fun x => x = p) w3 w4) :
    Try.Bx w4 b (forg s r k (fun y => left y && decide (y ≠ u))) n { g' with N := upd2 g'.N r u o4 } ∧ Rg Try.kS w4 (g.G r) it n (fun u => (g'.H r u).map ptrP) (fun y => left y && decide (y ≠ u)) cnt := by
  have hTp := hB2.tg r u p hHp
  have hk : ∀ y, y < w2.heap.size → y ≠ p → g'.N r u ≠ some y → w4.heap[y]? = w2.heap[y]? := fun y hy h1 h2 => (hw4.block y (by omega) h1).trans (hg3.block y hy (fun e => e.elim h1 h2))
  refine ⟨?_, hrg2.keep (fun x e => ?_) (hk it hit (fun e => ?_) (fun e => ?_))⟩
  · have := hB2.setPage2 hHp hP4 ho4 hk
    rw [Ct.forg_step hlx] at this
    exact this
  · have hx : g'.T x = .users r := hB2.tu r x (by rw [hGG]; exact e)
    have hxl := hrg2.mp.lt e
    refine hk x hxl (fun e1 => ?_) (fun e1 => ?_)
    · rw [e1, hTp] at hx; cases hx
    · rw [hB2.tn r u x e1] at hx; cases hx
  · have := hT p (by rw [hTp]; simp)
    omega
  · have := hT it (by rw [hB2.tn r u it e]; simp)
    omega
set_option maxHeartbeats 4000000 in
set_option maxRecDepth 20000 in
theorem Try.forget_any {w : World} {b n : Nat} {s : St} {g : Gh} (h : Try.Bx w b s n g) (hnm : n ≤ maxLen) (r : ByteArray) (hr : r.size ≤ maxLen) (k : Int) (hk : (Lit.int .i64 k).wf = true) :
    Calls Try.prog 24 #[.pointer (some ⟨b, 0, none⟩), .string r, .int .i64 k] w fun z w' => (∃ v, z = .returned v) ∧ Try.BChg w w' b (forg s r k (fun _ => false)) n g := by
  have heq := fun W q => run_eql_map_nil (P := Try.prog) W 59 3 56 q Try.uNotes
  have c2 : w.cell? ⟨b, 2, none⟩ = some (.map (some g.br)) := cell_of_row _ _ 2 _ _ _ h.bl
  have h1 := (h.looks r r hr hr).1
  have hus : Mp Try.kS w (g.G r) n (fun u => (g.H r u).map ptrP) := by
    cases hG : g.G r with
    | none => exact (Mp.nil Try.kS w n).cong fun u => by simp [h.gh r u hG]
    | some x => exact h.us r x hG
  have hbl := block_lt h.bl
  obtain ⟨w1, cnt1, hr1, hg1, hgr1, hs1⟩ := hus.range Try.uPages
  have hb1 : Below w.heap.size w w1 := (Below.refl w.heap.size w).grown hgr1 (Nat.le_refl _) (fun k hk => by cases hk)
  have hB1 := h.below hb1
  have hst : forg s r k (fun u => (g.H r u).isSome) = s := by
    unfold forg
    have : (fun r' u' => if r' = r ∧ (g.H r u').isSome = false then upd (s.nt r' u') k none else s.nt r' u') = s.nt := funext fun r' => funext fun u' => by
      by_cases hh : r' = r ∧ (g.H r u').isSome = false
      · rw [if_pos hh]
        obtain ⟨rfl, h2⟩ := hh
        have h3 : g.H r' u' = none := by cases hx : g.H r' u' <;> simp_all
        funext x
        by_cases hx : x = k
        · subst hx; simp [(h.no r' u' h3).2]
        · rw [upd_ne _ _ hx]
      · rw [if_neg hh]
    rw [this]
  have HST : Hid _ := hst
  have HVU : Hid (∀ (g' : Gh) x v, (fun u => (g'.H r u).map ptrP) x = some v → ∃ c, v = Value.pointer (some ⟨c, 0, none⟩) ∧ g'.H r x = some c) := fun g' u v hv => by
    cases hx : g'.H r u with
    | none => simp [hx] at hv
    | some y => simp [hx, ptrP] at hv; exact ⟨y, hv.symm, rfl⟩
  have H : Hid _ := h
  have HG : Hid _ := hg1
  have HB1 : Hid _ := hB1
  have HW1 : Hid (Below w.heap.size w w1) := hb1
  have HKW : Hid (∀ q : Unit, (Lit.int .i64 k).wf = true) := fun _ => hk
  have HNM : Hid (n ≤ maxLen) := hnm
  clear hnm
  clear h hg1 hgr1 hb1 hB1 hus hst hk
  go_enter Try.func24, Try.ntmps24
  go_wp2
  go_loopw [] (fun wr => ∃ left cnt, ∃ g' : Gh, Try.Bx wr b (forg s r k left) n g' ∧ g'.G = g.G ∧ g'.br = g.br ∧ Rg Try.kS wr (g.G r) w.heap.size n (fun u => (g'.H r u).map ptrP) left cnt ∧ (∀ y, g'.T y ≠ .no → g.T y ≠ .no ∧ y < w.heap.size) ∧ Wo (fun y => g.T y ≠ .no) w wr ∧ w.heap.size < wr.heap.size) (fun wr => leftIn wr (g.G r) w.heap.size)
  case atStart =>
    refine ⟨fun u => (g.H r u).isSome, cnt1, { g with T := fun x => if x < w.heap.size then g.T x else .no }, ?_, rfl, rfl, ?_, fun y e => ?_, Wo.ofBelow HW1.out, by omega⟩
    rotate_left
    · have := HG.out
      simp only [Option.isSome_map] at this
      exact this
    · simp only at e
      by_cases hy : y < w.heap.size
      · rw [if_pos hy] at e; exact ⟨e, hy⟩
      · rw [if_neg hy] at e; exact absurd rfl e
    · have := HB1.out
      rw [← HST.out] at this
      exact this
  case round =>
    obtain ⟨left, cnt, g', hB, hGG, hbr, hrg, hT, hW, hsz⟩ := hrel
    clear HG HB1 HW1 c2 hr1 h1
    have hcm := hrg.left_eq
    have HGG : Hid _ := hGG
    have HBR : Hid _ := hbr
    have HB : Hid _ := hB
    have HT : Hid _ := hT
    have HW : Hid _ := hW
    clear hGG hbr hB hT hW
    go_wp2_with (first
      | (at_next; refine wpNextV (fun s => .string s) (fun _ => rfl) (fun p => .pointer (some ⟨p, 0, none⟩)) (fun u p => g'.H r u = some p) (HVU.out g') rfl _ rfl rfl hrg ?_ ?_)
      | fail)
    · intro hl
      have hlf : left = fun _ => false := funext hl
      have hB := HB.out
      rw [hlf] at hB
      have c3 : wr.cell? ⟨b, 2, none⟩ = some (.map (some g.br)) := by have := cell_of_row _ _ 2 _ _ _ hB.bl; rw [← HBR.out]; exact this
      obtain ⟨L, hL1, hL2, _, hlen⟩ := hrg.mp.list Try.uPages
      by_cases hl0 : L.length = 0
      · have hL : L = [] := List.eq_nil_of_length_eq_zero hl0
        have hH0 : ∀ u, g'.H r u = none := fun u => by
          have := hL2 u
          rw [hL] at this
          cases hx : g'.H r u with
          | none => rfl
          | some v => simp [hx] at this
        rw [hl0] at hlen
        obtain ⟨w4, hdel, hM4, hg4, hs4, _⟩ := hB.rm.drop Try.uRooms (x := r) hr
        have hdel2 : ∀ ty, (Builtin.delete_ #[44, 9] ty #[.map (some g.br), .string r]).run Try.prog wr = .ok (.tuple #[]) w4 := by rw [← HBR.out]; exact hdel
        have hB4 := hB.dropRoom hH0 hM4 (fun y hy hne => hg4.block y hy (fun e => hne (by injection e)))
        have hW4 : Wo (fun y => g.T y ≠ .no) w w4 := HW.out.grown hg4 fun y e => .inl (by injection e with e; rw [← e]; exact (HT.out _ (by rw [hB.tm]; simp)).1)
        have HB4 : Hid _ := hB4
        have HW4 : Hid _ := hW4
        clear hrg hB hL1 hL2 hM4 hg4 hB4 hW4 hdel hH0 hcm hlf
        go_wp2
        go_end0
        exact ⟨⟨_, rfl⟩, ⟨⟨_, HB4.out, fun y e => .inl (HT.out y e).1⟩, HW4.out⟩⟩
      · have q1 : ¬ ((L.length : Nat) : Int) = 0 := by omega
        generalize L.length = l at *
        have HB4 : Hid _ := hB
        clear hrg hB hL1 hL2 hcm hlf
        go_wp2
        go_end0
        exact ⟨⟨_, rfl⟩, ⟨⟨_, HB4.out, fun y e => .inl (HT.out y e).1⟩, HW.out⟩⟩
    · intro u p w2 cnt2 hok hlx hHp hrg2 hlt hg2 hs2 hen
      have hlt2 : ∀ y, y < w.heap.size → w2.heap[y]? = wr.heap[y]? := fun y hy => hg2.block y (by omega) (fun e => by injection e with e; omega)
      have hB2 : Try.Bx w2 b (forg s r k left) n g' := HB.out.keep fun y e => hlt2 y (HT.out y e).2
      have hW2 : Wo (fun y => g.T y ≠ .no) w w2 := HW.out.grown hg2 fun y e => .inr (by injection e with e; omega)
      have hP := hB2.pg r u p hHp
      have hpne := hP.ne
      have hTp := hB2.tg r u p hHp
      have hpl : p < w.heap.size := (HT.out p (by rw [hTp]; simp)).2
      have hok2 : ∀ y, g'.N r u = some y → y < w.heap.size := fun y e => (HT.out y (by rw [hB2.tn r u y e]; simp)).2
      have c4 : w2.cell? ⟨p, 1, none⟩ = some (.map (g'.N r u)) := cell_of_row _ _ 1 _ _ _ hP.bl
      have htk := Try.take_any hP HNM.out k (HKW.out ())
      have hGx : ∀ x, g.G r = some x → g'.T x = .users r := fun x e => hB2.tu r x (by rw [HGG.out]; exact e)
      have hu2 : u.size ≤ maxLen := hok
      have HB2 : Hid _ := hB2
      have HW2 : Hid _ := hW2
      have HRG2 : Hid _ := hrg2
      have HGX : Hid _ := hGx
      have HOK2 : Hid _ := hok2
      have HCM : Hid _ := hcm
      have HPNE : Hid _ := hpne
      have HU2 : Hid (∀ q : Unit, u.size ≤ maxLen) := fun _ => hu2
      clear hrg hcm hlt2 hB2 hW2 hP hrg2 hg2 hGx hok2 hpne hu2 hok
      go_wp2_with (first
        | (go_at_call 25; refine htk.mono ?_; clear htk; rintro z w3 ⟨⟨v3, rfl⟩, hP3, hg3, hs3⟩; have htd := Try.tidy_any hP3; have HG3 : Hid (Wo (fun x => x = p ∨ g'.N r u = some x) w2 w3) := hg3; clear hP3 hg3)
        | (go_at_call 26; refine htd.mono ?_; clear htd; rintro z w4 ⟨⟨v4, rfl⟩, o4, hP4, ho4, hn4, hw4, hs4⟩; have d0 : w4.cell? ⟨p, 0, none⟩ = some (.int .i64 ((forg s r k left).mr r u)) := cell_of_row _ _ 0 _ _ _ hP4.bl; have d1 : w4.cell? ⟨p, 1, none⟩ = some (.map o4) := cell_of_row _ _ 1 _ _ _ hP4.bl; have HP4 : Hid _ := hP4; have HO4 : Hid _ := ho4; have HN4 : Hid _ := hn4; have HW4 : Hid _ := hw4; clear hP4 ho4 hn4 hw4; obtain ⟨hB4, hrg4⟩ := Try.forget_mid HB2.out HGG.out (by simpa using HRG2.out) (fun y e => (HT.out y e).2) (by omega) hlx hHp HG3.out hs3 HP4.out HO4.out HW4.out; obtain ⟨w5, cnt5, hdelU, hrg5, hle5, hg5, hs5, _⟩ := hrg4.drop Try.uPages (x := u) (HU2.out ()); have hdelV : ∀ ty, (Builtin.delete_ #[58, 9] ty #[.map (g.G r), .string u]).run Try.prog w4 = .ok (.tuple #[]) w5 := hdelU; have HB4 : Hid _ := hB4; have HRG4 : Hid _ := hrg4; have HRG5 : Hid _ := hrg5; have HG5 : Hid _ := hg5; clear hdelU hB4 hrg4 hrg5 hg5)
        | fail)
      · have hm0 : (forg s r k left).mr r u = 0 := by assumption
        have ho0 : o4 = none := by
          have h7 : o4.isNone = true := by assumption
          cases o4 with
          | none => rfl
          | some _ => cases h7
        have hW5t : Wo (fun y => g.T y ≠ .no) w w4 := (HW2.out.step (fun y e => .inl (e.elim (fun e => by rw [e]; exact (HT.out p (by rw [HB2.out.tg r u p hHp]; simp)).1) (fun e => (HT.out y (by rw [HB2.out.tn r u y e]; simp)).1))) HG3.out).step (fun y e => .inl (by rw [e]; exact (HT.out p (by rw [HB2.out.tg r u p hHp]; simp)).1)) HW4.out
        obtain ⟨x, hx⟩ : ∃ x, g.G r = some x := by
          cases hG : g.G r with
          | none =>
            have := HB2.out.gh r u (by rw [HGG.out]; exact hG)
            rw [hHp] at this; cases this
          | some x => exact ⟨x, rfl⟩
        have hTx : g.T x ≠ .no := (HT.out x (by rw [HGX.out x hx]; simp)).1
        have hM5 := HRG5.out.mp
        have hg5 := HG5.out
        rw [hx] at hM5 hg5
        have hn0 : ∀ q, (forg s r k (fun y => left y && decide (y ≠ u))).nt r u q = none := fun q => by
          have h8 := HN4.out.1 ho0 q
          have e1 : (forg s r k left).nt r u = s.nt r u := by rw [Ct.forg_nt, if_neg]; simp [hlx]
          rw [e1] at h8
          rw [Ct.forg_nt, if_pos (by simp)]
          exact h8
        have hB5 := HB4.out.dropPage (w' := w5) (r := r) (u := u) (x := x) (by rw [← hx]; exact congrFun HGG.out r) hm0 hn0 hM5 (fun y hy hne => hg5.block y hy (fun e => hne (by injection e)))
        have hW5 : Wo (fun y => g.T y ≠ .no) w w5 := hW5t.grown hg5 fun y e => .inl (by injection e with e; rw [← e]; exact hTx)
        have hrg5 := HRG5.out
        have el : (fun y => left y && decide (y ≠ u) && decide (y ≠ u)) = fun y => left y && decide (y ≠ u) := funext fun y => by by_cases e : y = u <;> simp [e]
        have ef : upd (fun u => (g'.H r u).map ptrP) u none = fun u' => ((upd2 g'.H r u none) r u').map ptrP := funext fun y => by by_cases e : y = u <;> simp [upd, upd2, e]
        rw [el, ef] at hrg5
        refine ⟨⟨_, cnt5, _, hB5, HGG.out, HBR.out, hrg5, HT.out, hW5, by omega⟩, ?_⟩
        rw [hrg5.left_eq, HCM.out]
        omega
      all_goals
        have hW5t : Wo (fun y => g.T y ≠ .no) w w4 := (HW2.out.step (fun y e => .inl (e.elim (fun e => by rw [e]; exact (HT.out p (by rw [HB2.out.tg r u p hHp]; simp)).1) (fun e => (HT.out y (by rw [HB2.out.tn r u y e]; simp)).1))) HG3.out).step (fun y e => .inl (by rw [e]; exact (HT.out p (by rw [HB2.out.tg r u p hHp]; simp)).1)) HW4.out
        refine ⟨⟨_, cnt2, _, HB4.out, HGG.out, HBR.out, HRG4.out, HT.out, hW5t, by omega⟩, ?_⟩
        rw [HRG4.out.left_eq, HCM.out]
        omega
set_option maxHeartbeats 1000000 in
set_option maxRecDepth 20000 in
theorem Try.redact_no {w : World} {b n : Nat} {s : St} {g : Gh} (h : Try.Bx w b s n g) (r e : ByteArray) (he : e.size ≤ maxLen) (hf : fnd s r e = 0 ∨ ∃ i, fnd s r e = i + 1 ∧ s.ev[i]? = some (r, e, true)) :
    Calls Try.prog 16 #[.pointer (some ⟨b, 0, none⟩), .string r, .string e] w fun z w' => z = .returned (.bool false) ∧ w' = w := by
  have hfd := Try.find_any h r e he
  rcases hf with hf | ⟨i, hf, hi⟩
  · rw [hf] at hfd
    clear h
    go_enter Try.func16, Try.ntmps16
    go_wp2_with (first
      | (go_at_call 17; refine hfd.mono ?_; clear hfd; rintro z w2 ⟨rfl, rfl⟩)
      | fail)
    go_ret
    exact ⟨rfl, rfl⟩
  · rw [hf, show ((i + 1 : Nat) : Int) = (i : Int) + 1 by omega] at hfd
    have hil := (List.getElem?_eq_some_iff.1 hi).1
    have hlen := h.len
    obtain ⟨v, cap, hsv, _, _, _, e3, _⟩ := h.evAt hi
    have c0 : w.cell? ⟨b, 0, none⟩ = some g.sv := cell_of_row _ _ 0 _ _ _ h.bl
    rw [hsv] at c0
    generalize s.ev.length = l at *
    have q1 : (i : Int) < (l : Int) := by omega
    have q2 : ¬ ((i : Int) + 1 = 0) := by omega
    clear h hsv hi hf
    simp only at e3
    go_enter Try.func16, Try.ntmps16
    go_wp2_with (first
      | (go_at_call 17; refine hfd.mono ?_; clear hfd; rintro z w2 ⟨rfl, rfl⟩)
      | fail)
    go_ret
    exact ⟨rfl, rfl⟩
set_option maxHeartbeats 1000000 in
set_option maxRecDepth 20000 in
theorem Try.redact_ok {w : World} {b n : Nat} {s : St} {g : Gh} (h : Try.Bx w b s n g) (hnm : n ≤ maxLen) (r e : ByteArray) (he : e.size ≤ maxLen) (hr : r.size ≤ maxLen) (i : Nat) (hf : fnd s r e = i + 1) (hi : s.ev[i]? = some (r, e, false)) :
    Calls Try.prog 16 #[.pointer (some ⟨b, 0, none⟩), .string r, .string e] w fun z w' => z = .returned (.bool true) ∧ Try.BChg w w' b (redct s r e i) n g := by
  have hfd := Try.find_any h r e he
  rw [hf, show ((i + 1 : Nat) : Int) = (i : Int) + 1 by omega] at hfd
  have hil := (List.getElem?_eq_some_iff.1 hi).1
  have hlen := h.len
  obtain ⟨v, cap, hsv, hTv, _, _, e3, f3⟩ := h.evAt hi
  have c0 : w.cell? ⟨b, 0, none⟩ = some g.sv := cell_of_row _ _ 0 _ _ _ h.bl
  have hfo := Try.forget_any (h.setBack hi hsv) hnm r hr ((i : Int) + 1) (by refine WalkArith.wf_i64 ?_; omega)
  have hw2 : Wo (fun y => g.T y ≠ .no) w (w.setCell ⟨v, i * 3 + 2, none⟩ (.bool true)) := (Wo.refl _ w).setCell v _ _ (.inl (by rw [hTv]; simp))
  rw [hsv] at c0
  unfold redct
  have HW2 : Hid _ := hw2
  generalize s.ev.length = l at *
  have q1 : (i : Int) < (l : Int) := by omega
  have q2 : ¬ ((i : Int) + 1 = 0) := by omega
  have hbv : b ≠ v := fun e1 => by rw [← e1, h.tb] at hTv; cases hTv
  clear h hsv hi hf hTv hw2
  simp only at e3
  go_enter Try.func16, Try.ntmps16
  go_wp2_with (first
    | (go_at_call 17; refine hfd.mono ?_; clear hfd; rintro z w2 ⟨rfl, rfl⟩)
    | (go_at_call 24; refine hfo.mono ?_; clear hfo; rintro z w3 ⟨⟨v3, rfl⟩, hc3⟩)
    | fail)
  go_ret
  exact ⟨rfl, Try.BChg.trans (fun y e => .inl e) HW2.out hc3⟩
theorem Try.redactNo_f {B : Nat} {w : World} {b n : Nat} {s : St} (h : Try.Bf B w b s n) (r e : ByteArray) (he : e.size ≤ maxLen) (hf : fnd s r e = 0 ∨ ∃ i, fnd s r e = i + 1 ∧ s.ev[i]? = some (r, e, true)) :
    Calls Try.prog 16 #[.pointer (some ⟨b, 0, none⟩), .string r, .string e] w fun z w' => z = .returned (.bool false) ∧ w' = w := by
  obtain ⟨g, h1, h2, h3⟩ := h
  exact Try.redact_no h1 r e he hf
theorem Try.redact_f {B : Nat} {w : World} {b n : Nat} {s : St} (h : Try.Bf B w b s n) (hnm : n ≤ maxLen) (r e : ByteArray) (he : e.size ≤ maxLen) (hr : r.size ≤ maxLen) (i : Nat) (hf : fnd s r e = i + 1) (hi : s.ev[i]? = some (r, e, false)) :
    Calls Try.prog 16 #[.pointer (some ⟨b, 0, none⟩), .string r, .string e] w fun z w' => z = .returned (.bool true) ∧ Try.Bf B w' b (redct s r e i) n ∧ Below B w w' := by
  obtain ⟨g, h1, h2, h3⟩ := h
  exact (Try.redact_ok h1 hnm r e he hr i hf hi).mono fun z w' ⟨h4, h5⟩ => ⟨h4, h5.floor h2 h3⟩
end Go.Proofs
