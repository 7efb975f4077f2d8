/-
  A book: a user's page, found or made; what is written on it.
-/
import Derived.Test.YtkfnjmkajhfhlaaCd
namespace Go.Ct
def upd2 (f : ByteArray → ByteArray → Option Nat) (r u : ByteArray) (o : Option Nat) : ByteArray → ByteArray → Option Nat := fun r' u' => if r' = r ∧ u' = u then o else f r' u'
theorem upd2_same (f : ByteArray → ByteArray → Option Nat) (r u : ByteArray) (o : Option Nat) : upd2 f r u o r u = o := by simp [upd2]
theorem upd2_ne (f : ByteArray → ByteArray → Option Nat) {r u r' u' : ByteArray} (o : Option Nat) (h : ¬ (r' = r ∧ u' = u)) : upd2 f r u o r' u' = f r' u' := by simp [upd2, h]
end Go.Ct
namespace Go.Proofs
open Go.RowKit Go.Wi Go.Ct
section
variable {w w' : World} {b n : Nat} {s : St} {g : Gh}
theorem Try.Bx.row_keep (h : Try.Bx w b s n g) (hk : ∀ x, g.sv.ownBlock = some x → w'.heap[x]? = w.heap[x]?) : w'.ownsRow 0 49 3 g.sv s.ev.length (evC s.ev) := by
  refine ⟨h.st.1, ?_⟩
  rcases h.st.2 with h0 | ⟨x, cap, cur, h1, h2, h3, h4⟩
  · exact .inl h0
  · exact .inr ⟨x, cap, cur, h1, h2, (hk x (by rw [h1]; rfl)).trans h3, h4⟩
/-- A room more, of which nobody has a page. -/
theorem Try.Bx.addUsers (h : Try.Bx w b s n g) {r : ByteArray} (hG : g.G r = none) {x : Nat} (hx : w.heap.size ≤ x) (hM : Mp Try.kS w' (some g.br) (n + 1) (upd (fun r => (g.G r).map mapP) r (some (mapP x)))) (hU : Mp Try.kS w' (some x) (n + 1) (fun _ => none))
    (hk : ∀ y, y < w.heap.size → y ≠ g.br → w'.heap[y]? = w.heap[y]?) : Try.Bx w' b s (n + 1) { g with G := upd g.G r (some x), T := fun y => if y = x then .users r else g.T y } := by
  have nb : ∀ t, g.T g.br ≠ t → ∀ y, g.T y = t → y ≠ g.br := fun t ht y hy e => ht (by rw [← e]; exact hy)
  have lo : ∀ y, y < w.heap.size → (if y = x then Tg.users r else g.T y) = g.T y := fun y hy => by rw [if_neg]; omega
  have hsame : ∀ y t, y < w.heap.size → g.T y = t → t ≠ .rooms → w'.heap[y]? = w.heap[y]? := fun y t hy ht hne => hk y hy (nb t (by rw [h.tm]; exact fun e => hne e.symm) y ht)
  constructor
  · exact (hsame b _ (block_lt h.bl) h.tb (by simp)).trans h.bl
  · exact h.row_keep fun y e => hsame y _ (h.rowLt e) (h.tr y e) (by simp)
  · exact (h.pl.keep fun y e => by injection e with e; subst e; exact hsame _ _ (h.pl.lt rfl) h.tp (by simp)).mono (by omega)
  · exact hM.cong fun y => by by_cases e : y = r <;> simp [upd, e]
  · intro r' y e
    by_cases er : r' = r
    · subst er
      simp at e; subst e
      exact hU.cong fun u => by simp [h.gh r' u hG]
    · simp only [upd_ne _ _ er] at e
      exact ((h.us r' y e).keep fun z e1 => by injection e1 with e1; subst e1; exact hsame _ _ ((h.us r' _ e).lt rfl) (h.tu r' _ e) (by simp)).mono (by omega)
  · intro r' u p e
    have := (h.pg r' u p e).keep (w' := w') (hsame _ _ (h.pg r' u p e).lt (h.tg r' u p e) (by simp)) fun y e1 => hsame _ _ (h.notesLt e1) (h.tn r' u y e1) (by simp)
    exact ⟨this.bl, this.mp.mono (by omega)⟩
  · exact h.no
  · intro r' u e
    by_cases er : r' = r
    · subst er; simp at e
    · simp only [upd_ne _ _ er] at e
      exact h.gh r' u e
  · exact h.nn
  · simp only [lo b (block_lt h.bl)]; exact h.tb
  · intro y e; simp only [lo y (h.rowLt e)]; exact h.tr y e
  · simp only [lo _ (h.pl.lt rfl)]; exact h.tp
  · simp only [lo _ (h.rm.lt rfl)]; exact h.tm
  · intro r' y e
    by_cases er : r' = r
    · subst er; simp at e; simp [e]
    · simp only [upd_ne _ _ er] at e
      simp only [lo y ((h.us r' y e).lt rfl)]; exact h.tu r' y e
  · intro r' u p e; simp only [lo p (h.pg r' u p e).lt]; exact h.tg r' u p e
  · intro r' u y e; simp only [lo y (h.notesLt e)]; exact h.tn r' u y e
  · exact h.len
/-- A page more, on which nothing stands. -/
theorem Try.Bx.addPage (h : Try.Bx w b s n g) {r u : ByteArray} {x p : Nat} (hG : g.G r = some x) (hH : g.H r u = none) (hp : w.heap.size ≤ p) (hM : Mp Try.kS w' (some x) (n + 1) (upd (fun u => (g.H r u).map ptrP) u (some (ptrP p)))) (hP : w'.heap[p]? = some (.cells #[.int .i64 0, .map none, .int .i64 0] 61 (0, 0)))
    (hk : ∀ y, y < w.heap.size → y ≠ x → w'.heap[y]? = w.heap[y]?) : Try.Bx w' b s (n + 1) { g with H := upd2 g.H r u (some p), T := fun y => if y = p then .page r u else g.T y } := by
  have hT := h.tu r x hG
  have lo : ∀ y, y < w.heap.size → (if y = p then Tg.page r u else g.T y) = g.T y := fun y hy => by rw [if_neg]; omega
  have hsame : ∀ y t, y < w.heap.size → g.T y = t → t ≠ .users r → w'.heap[y]? = w.heap[y]? := fun y t hy ht hne => hk y hy fun e => hne (by rw [← ht, e]; exact hT)
  constructor
  · exact (hsame b _ (block_lt h.bl) h.tb (by simp)).trans h.bl
  · exact h.row_keep fun y e => hsame y _ (h.rowLt e) (h.tr y e) (by simp)
  · exact (h.pl.keep fun y e => by injection e with e; subst e; exact hsame _ _ (h.pl.lt rfl) h.tp (by simp)).mono (by omega)
  · exact (h.rm.keep fun y e => by injection e with e; subst e; exact hsame _ _ (h.rm.lt rfl) h.tm (by simp)).mono (by omega)
  · intro r' y e
    by_cases er : r' = r
    · subst er
      rw [hG] at e; injection e with e; subst e
      exact hM.cong fun u' => by by_cases eu : u' = u <;> simp [upd, upd2, eu]
    · have := (h.us r' y e).keep (w' := w') fun z e1 => by injection e1 with e1; subst e1; exact hsame _ _ ((h.us r' _ e).lt rfl) (h.tu r' _ e) (by simp [er])
      exact (this.mono (by omega)).cong fun u' => by simp only; rw [upd2_ne _ _ (fun e => er e.1)]
  · intro r' u' q e
    by_cases er : r' = r ∧ u' = u
    · obtain ⟨rfl, rfl⟩ := er
      simp only [upd2_same] at e; injection e with e; subst e
      refine ⟨?_, ?_⟩
      · rw [cntT_zero (fun k => by rw [(h.no r' u' hH).2 k]; simp)]
        simp only [h.nn r' u' hH, (h.no r' u' hH).1]; exact hP
      · exact ⟨.inl ⟨h.nn r' u' hH, fun k => by simp [(h.no r' u' hH).2 k]⟩⟩
    · simp only [upd2_ne _ _ er] at e
      have := (h.pg r' u' q e).keep (w' := w') (hsame _ _ (h.pg r' u' q e).lt (h.tg r' u' q e) (by simp)) fun y e1 => hsame _ _ (h.notesLt e1) (h.tn r' u' y e1) (by simp)
      exact ⟨this.bl, this.mp.mono (by omega)⟩
  · intro r' u' e
    by_cases er : r' = r ∧ u' = u
    · obtain ⟨rfl, rfl⟩ := er; simp only [upd2_same] at e; cases e
    · simp only [upd2_ne _ _ er] at e; exact h.no r' u' e
  · intro r' u' e
    by_cases er : r' = r ∧ u' = u
    · obtain ⟨rfl, rfl⟩ := er; simp only at e; rw [hG] at e; cases e
    · simp only [upd2_ne _ _ er]; exact h.gh r' u' e
  · intro r' u' e
    by_cases er : r' = r ∧ u' = u
    · obtain ⟨rfl, rfl⟩ := er; simp only [upd2_same] at e; cases e
    · simp only [upd2_ne _ _ er] at e; exact h.nn r' u' e
  · simp only [lo b (block_lt h.bl)]; exact h.tb
  · intro y e; simp only [lo y (h.rowLt e)]; exact h.tr y e
  · simp only [lo _ (h.pl.lt rfl)]; exact h.tp
  · simp only [lo _ (h.rm.lt rfl)]; exact h.tm
  · intro r' y e; simp only [lo y ((h.us r' y e).lt rfl)]; exact h.tu r' y e
  · intro r' u' q e
    by_cases er : r' = r ∧ u' = u
    · obtain ⟨rfl, rfl⟩ := er
      simp only [upd2_same] at e; injection e with e; subst e
      simp
    · simp only [upd2_ne _ _ er] at e
      simp only [lo q (h.pg r' u' q e).lt]; exact h.tg r' u' q e
  · intro r' u' y e; simp only [lo y (h.notesLt e)]; exact h.tn r' u' y e
  · exact h.len
/-- What was written on a page. -/
theorem Try.Bx.setPage (h : Try.Bx w b s n g) {r u : ByteArray} {p n' : Nat} {m : Int} {f : Int → Option Bool} (hH : g.H r u = some p) (hn : n ≤ n') (hc : Try.PChg w w' p (g.N r u) n' m f) :
    ∃ g', Try.Bx w' b (s.page r u m f) n' g' ∧ (∀ y, g'.T y ≠ .no → g.T y ≠ .no ∨ w.heap.size ≤ y) ∧ Wo (fun y => g.T y ≠ .no) w w' := by
  obtain ⟨o', hP, ho'⟩ := hc.ex
  have hT := h.tg r u p hH
  have hsame : ∀ y t, y < w.heap.size → g.T y = t → t ≠ .page r u → t ≠ .notes r u → w'.heap[y]? = w.heap[y]? := fun y t hy ht h1 h2 => hc.wo.block y hy fun e => by
    rcases e with e | e
    · exact h1 (by rw [← ht, e]; exact hT)
    · exact h2 (by rw [← ht]; exact h.tn r u y e)
  have lo : ∀ y, y < w.heap.size → (if w.heap.size ≤ y ∧ o' = some y then Tg.notes r u else g.T y) = g.T y := fun y hy => by rw [if_neg]; omega
  refine ⟨{ g with N := upd2 g.N r u o', T := fun y => if w.heap.size ≤ y ∧ o' = some y then .notes r u else g.T y }, ?_, fun y e => ?_, hc.wo.mono fun y e => ?_⟩
  · constructor
    · exact (hsame b _ (block_lt h.bl) h.tb (by simp) (by simp)).trans h.bl
    · exact h.row_keep fun y e => hsame y _ (h.rowLt e) (h.tr y e) (by simp) (by simp)
    · exact (h.pl.keep fun y e => by injection e with e; subst e; exact hsame _ _ (h.pl.lt rfl) h.tp (by simp) (by simp)).mono hn
    · exact (h.rm.keep fun y e => by injection e with e; subst e; exact hsame _ _ (h.rm.lt rfl) h.tm (by simp) (by simp)).mono hn
    · intro r' y e
      exact ((h.us r' y e).keep fun z e1 => by injection e1 with e1; subst e1; exact hsame _ _ ((h.us r' _ e).lt rfl) (h.tu r' _ e) (by simp) (by simp)).mono hn
    · intro r' u' q e
      by_cases er : r' = r ∧ u' = u
      · obtain ⟨rfl, rfl⟩ := er
        simp only at e
        rw [hH] at e; injection e with e; subst e
        simp only [upd2_same, St.page, and_self, if_true]
        exact hP
      · have := (h.pg r' u' q e).keep (w' := w') (hsame _ _ (h.pg r' u' q e).lt (h.tg r' u' q e) (fun e1 => er (by injection e1 with e1 e2; exact ⟨e1, e2⟩)) (by simp)) fun y e1 => hsame _ _ (h.notesLt e1) (h.tn r' u' y e1) (by simp) (fun e2 => er (by injection e2 with e2 e3; exact ⟨e2, e3⟩))
        simp only [upd2_ne _ _ er, St.page, er, if_false]
        exact ⟨this.bl, this.mp.mono hn⟩
    · intro r' u' e
      by_cases er : r' = r ∧ u' = u
      · obtain ⟨rfl, rfl⟩ := er; simp only at e; rw [hH] at e; cases e
      · simp only [St.page, er, if_false]; exact h.no r' u' e
    · exact h.gh
    · intro r' u' e
      by_cases er : r' = r ∧ u' = u
      · obtain ⟨rfl, rfl⟩ := er; simp only at e; rw [hH] at e; cases e
      · simp only [upd2_ne _ _ er]; exact h.nn r' u' e
    · simp only [lo b (block_lt h.bl)]; exact h.tb
    · intro y e; simp only [lo y (h.rowLt e)]; exact h.tr y e
    · simp only [lo _ (h.pl.lt rfl)]; exact h.tp
    · simp only [lo _ (h.rm.lt rfl)]; exact h.tm
    · intro r' y e; simp only [lo y ((h.us r' y e).lt rfl)]; exact h.tu r' y e
    · intro r' u' q e; simp only [lo q (h.pg r' u' q e).lt]; exact h.tg r' u' q e
    · intro r' u' y e
      by_cases er : r' = r ∧ u' = u
      · obtain ⟨rfl, rfl⟩ := er
        simp only [upd2_same] at e
        rcases ho' y e with e1 | e1
        · simp only [lo y (h.notesLt e1)]; exact h.tn r' u' y e1
        · simp [e1, e]
      · simp only [upd2_ne _ _ er] at e
        simp only [lo y (h.notesLt e)]; exact h.tn r' u' y e
    · exact h.len
  · by_cases hy : w.heap.size ≤ y
    · exact .inr hy
    · refine .inl fun e1 => e ?_
      simp only [lo y (by omega)]; exact e1
  · rcases e with e | e
    · rw [e, hT]; simp
    · rw [h.tn r u y e]; simp
end
end Go.Proofs
