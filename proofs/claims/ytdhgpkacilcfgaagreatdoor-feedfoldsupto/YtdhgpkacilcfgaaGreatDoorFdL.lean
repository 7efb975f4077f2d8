/-
  FEED: put, of a shelf.
-/
import Derived.Test.YtdhgpkacilcfgaaGreatDoorFdK
namespace Go.Fd
/-- The kept sheets: the last 51. -/
def trim (S : List (List Cn)) : List (List Cn) := if 51 < S.length then S.tail else S
end Go.Fd
namespace Go.Proofs
open Go.RowKit Go.Wi Go.Fd Go.Sort
theorem Fd.cs_sl {w : World} {V : Value} {l : List Cn} (h : Cs w V l) : ∃ x : Sl, V = slV x := by
  obtain ⟨ad, cap, rfl⟩ := h.is
  exact ⟨(ad, l.length, cap), rfl⟩
set_option maxRecDepth 20000 in
set_option maxHeartbeats 1000000 in
theorem Tryz.put_no {w : World} {own : Nat → Prop} {sb N : Nat} {S : List (List Cn)} (h : Tryz.Sf w own sb N S) {V : Value} {x : List Cn} (hx : Cs w V x) (hl : x.length ≤ 4398046511104) (hno : N = 9007199254740991 ∨ x = S.getLast h.pos) :
    Calls Tryz.prog 19 #[.pointer (some ⟨sb, 0, none⟩), V] w fun e w' => e = .returned (.bool false) ∧ ∃ q, w' = w.drewN q := by
  obtain ⟨g, cap, v, h1, h2, h3, h4⟩ := h.last
  have c0 : w.cell? ⟨sb, 0, none⟩ = some (.int .i64 N) := cell_of_row w sb 0 _ _ _ h1
  by_cases hN : N = 9007199254740991
  · subst hN
    clear h1 h2 h3 h4 hno
    go_enter Tryz.func19, Tryz.ntmps19
    go_wp2
    go_ret
    exact ⟨rfl, 0, rfl⟩
  · have hxl : x = S.getLast h.pos := hno.resolve_left hN
    have q0 : ¬ ((N : Int) = 9007199254740991) := by omega
    have q1 : ((N : Int) == 9007199254740991) = false := by simpa using q0
    have hp := Tryz.present_any h
    have HX : Hid (Cs w V x) := hx
    have HL : Hid (x.length ≤ 4398046511104) := hl
    have HE : Hid (x = S.getLast h.pos) := hxl
    clear h1 h2 h3 h4 hno hx hl hxl
    go_enter Tryz.func19, Tryz.ntmps19
    go_wp2_with (first
      | (go_at_call 24; refine hp.mono ?_; clear hp; rintro e w1 ⟨v1, rfl, k1, k2, q, rfl⟩)
      | (go_at_call 37; refine (Tryz.equal_any (w := w.drewN q) (HX.out.keep fun _ _ => rfl) (k1.keep fun _ _ => rfl) HL.out).mono ?_; rw [decide_eq_true HE.out]; rintro e w2 ⟨rfl, q2, rfl⟩)
      | fail)
    go_ret
    exact ⟨rfl, _, rfl⟩
/-- The shelf behind it. -/
theorem Tryz.Sf.build {w w' : World} {own own' : Nat → Prop} {sb N g g' cap' : Nat} {S S' : List (List Cn)} {vs vs' : List Sl} {xs : Sl} {x : List Cn} (hx : Cs w (slV xs) x) (hV : ∀ k, (slV xs).ownBlock = some k → k < w.heap.size ∧ ¬ own k)
    (hT : ∀ k, own k → k < w.heap.size) (h6 : ∀ j (hj : j < vs.length) (hs : j < S.length), Cs w (slV vs[j]) S[j] ∧ ∀ k, (slV vs[j]).ownBlock = some k → own k ∧ k ≠ sb ∧ k ≠ g) (_hvs : vs.length = S.length) (hosb : own sb) (hog : own g) (hg' : g' = g ∨ w.heap.size ≤ g')
    (hU : ∀ k, k < w.heap.size → k ≠ sb → k ≠ g → w'.heap[k]? = w.heap[k]?)
    (hb : w'.heap[sb]? = some (.cells #[.int .i64 (N : Nat), .slice (some ⟨g', 0, none⟩) S'.length cap'] 58 (0, 0))) (hrow : w'.ownsRow 0 48 1 (.slice (some ⟨g', 0, none⟩) S'.length cap') S'.length (vs'.map slV)) (hgs : g ≠ sb)
    (hS' : ∀ j (hj : j < vs'.length) (hs : j < S'.length), (vs'[j] = xs ∧ S'[j] = x) ∨ ∃ i, ∃ (hi : i < vs.length) (hi' : i < S.length), vs'[j] = vs[i] ∧ S'[j] = S[i])
    (ho : ∀ k, own' k ↔ (own k ∨ (slV xs).ownBlock = some k ∨ (w.heap.size ≤ k ∧ k < w'.heap.size))) (hsz : w.heap.size ≤ w'.heap.size) (hlen : S'.length = min N 50 + 1) (hmost : N ≤ 9007199254740991) (hfew : ∀ s ∈ S', s.length ≤ 4398046511104) : Tryz.Sf w' own' sb N S' := by
  have hg2 : g' < w'.heap.size := (hrow.lt g' rfl).2
  refine ⟨⟨g', cap', vs', hb, hrow, (ho _).2 (.inl hosb), ?_, ?_, fun j hj hs => ?_⟩, fun k hk => ?_, hlen, hmost, hfew⟩
  · rcases hg' with e | e
    · rw [e]; exact (ho _).2 (.inl hog)
    · exact (ho _).2 (.inr (.inr ⟨e, hg2⟩))
  · rcases hg' with e | e
    · rw [e]; exact hgs
    · have := hT sb hosb; omega
  · rcases hS' j hj hs with ⟨e1, e2⟩ | ⟨i, hi, hi', e1, e2⟩
    · rw [e1, e2]
      have hk : ∀ k, (slV xs).ownBlock = some k → k ≠ sb ∧ k ≠ g ∧ k < w.heap.size := fun k e => ⟨fun e' => (hV k e).2 (e' ▸ hosb), fun e' => (hV k e).2 (e' ▸ hog), (hV k e).1⟩
      refine ⟨hx.keep fun k e => hU k (hk k e).2.2 (hk k e).1 (hk k e).2.1, fun k e => ⟨(ho _).2 (.inr (.inl e)), (hk k e).1, ?_⟩⟩
      rcases hg' with e' | e'
      · rw [e']; exact (hk k e).2.1
      · have := (hk k e).2.2; omega
    · rw [e1, e2]
      obtain ⟨k1, k2⟩ := h6 i hi hi'
      refine ⟨k1.keep fun k e => hU k (hT k (k2 k e).1) (k2 k e).2.1 (k2 k e).2.2, fun k e => ⟨(ho _).2 (.inl (k2 k e).1), (k2 k e).2.1, ?_⟩⟩
      rcases hg' with e' | e'
      · rw [e']; exact (k2 k e).2.2
      · have := hT k (k2 k e).1; omega
  · rcases (ho k).1 hk with e | e | e
    · exact Nat.lt_of_lt_of_le (hT k e) hsz
    · exact Nat.lt_of_lt_of_le (hV k e).1 hsz
    · exact e.2
set_option maxRecDepth 20000 in
set_option maxHeartbeats 500000 in
theorem Tryz.put_yes {w : World} {own : Nat → Prop} {sb N : Nat} {S : List (List Cn)} (h : Tryz.Sf w own sb N S) {V : Value} {x : List Cn} (hx : Cs w V x) (hV : ∀ k, V.ownBlock = some k → k < w.heap.size ∧ ¬ own k) (hl : x.length ≤ 4398046511104) (hN : N ≠ 9007199254740991) (hne : x ≠ S.getLast h.pos) :
    Calls Tryz.prog 19 #[.pointer (some ⟨sb, 0, none⟩), V] w fun e w' => e = .returned (.bool true) ∧ Tryz.Sf w' (fun k => own k ∨ V.ownBlock = some k ∨ (w.heap.size ≤ k ∧ k < w'.heap.size)) sb (N + 1) (trim (S ++ [x])) ∧ Wo own w w' := by
  have q0 : ¬ ((N : Int) = 9007199254740991) := by omega
  have q1 : ((N : Int) == 9007199254740991) = false := by simpa using q0
  have hmost := h.most
  have hp := Tryz.present_any h
  have hlen := h.len
  have HX : Hid (Cs w V x) := hx
  have HL : Hid (x.length ≤ 4398046511104) := hl
  have HE : Hid (x ≠ S.getLast h.pos) := hne
  have HV : Hid _ := hV
  have HF : Hid (∀ s ∈ S, s.length ≤ 4398046511104) := h.few
  have HT : Hid (∀ k, own k → k < w.heap.size) := h.lt
  obtain ⟨xa, xc, rfl⟩ := hx.is
  obtain ⟨g, cap, vs, h1, h2, h3, h4, h5, h6⟩ := h.ex
  have c0 : w.cell? ⟨sb, 0, none⟩ = some (.int .i64 N) := cell_of_row w sb 0 _ _ _ h1
  have H1 : Hid _ := h1
  have H2 : Hid _ := h2
  have H3 : Hid (own sb ∧ own g ∧ g ≠ sb) := ⟨h3, h4, h5⟩
  have H6 : Hid (∀ j (hj : j < vs.length) (hs : j < S.length), Cs w (slV vs[j]) S[j] ∧ ∀ k, (slV vs[j]).ownBlock = some k → own k ∧ k ≠ sb ∧ k ≠ g) := h6
  clear h1 h2 h3 h4 h5 h6 hx hl hne hV
  go_enter Tryz.func19, Tryz.ntmps19
  go_upto_region 3 with (first
    | (go_at_call 24; refine hp.mono ?_; clear hp; rintro e w1 ⟨v1, rfl, k1, k2, q, rfl⟩)
    | (go_at_call 37; refine (Tryz.equal_any (w := w.drewN q) (HX.out.keep fun _ _ => rfl) (k1.keep fun _ _ => rfl) HL.out).mono ?_; rw [decide_eq_false HE.out]; rintro e w2 ⟨rfl, q2, rfl⟩)
    | fail)
  have wo1 : Wo own w (w.drewN (q + q2)) := (Wo.refl own w).drewN _
  have b0 : (w.drewN (q + q2)).heap[sb]? = some (.cells #[.int .i64 N, .slice (some ⟨g, 0, none⟩) S.length cap] 58 (0, 0)) := H1.out
  have r0 : (w.drewN (q + q2)).ownsRow 0 48 1 (.slice (some ⟨g, 0, none⟩) S.length cap) S.length (vs.map slV) := Fd.row_keep H2.out fun _ _ => rfl
  have u0 : ∀ k : Nat, (w.drewN (q + q2)).heap[k]? = w.heap[k]? := fun _ => rfl
  have z0 : (w.drewN (q + q2)).heap.size = w.heap.size := rfl
  clear c0 k1 k2 H1 H2
  generalize w.drewN (q + q2) = wA at *
  have c0 : wA.cell? ⟨sb, 0, none⟩ = some (.int .i64 N) := cell_of_row wA sb 0 _ _ _ b0
  have f0 := frozen_of_row wA sb 0 _ _ b0
  go_upto_region 4 with (fail)
  have b1 : (wA.setCell ⟨sb, 0, none⟩ (.int .i64 ((N : Int) + 1))).heap[sb]? = some (.cells #[.int .i64 ((N : Int) + 1), .slice (some ⟨g, 0, none⟩) S.length cap] 58 (0, 0)) := heap_setCell_same wA sb 0 _ _ _ b0
  have u1 : ∀ k, k ≠ sb → (wA.setCell ⟨sb, 0, none⟩ (.int .i64 ((N : Int) + 1))).heap[k]? = w.heap[k]? := fun k hk => (Below.heap_setCell wA ⟨sb, 0, none⟩ _ k (fun e => hk (by simpa using e))).trans (u0 k)
  have z1 : (wA.setCell ⟨sb, 0, none⟩ (.int .i64 ((N : Int) + 1))).heap.size = w.heap.size := by simp [z0]
  have wo2 := wo1.setCell sb 0 (.int .i64 ((N : Int) + 1)) (.inl H3.out.1)
  have r1 : (wA.setCell ⟨sb, 0, none⟩ (.int .i64 ((N : Int) + 1))).ownsRow 0 48 1 (.slice (some ⟨g, 0, none⟩) S.length cap) S.length (vs.map slV) := Fd.row_keep r0 fun k e => by cases e; rw [u1 g H3.out.2.2, u0]
  clear c0 f0 b0 r0
  generalize wA.setCell ⟨sb, 0, none⟩ (.int .i64 ((N : Int) + 1)) = wB at *
  have c1 : wB.cell? ⟨sb, 1, none⟩ = some (.slice (some ⟨g, 0, none⟩) S.length cap) := cell_of_row wB sb 1 _ _ _ b1
  have HR : Hid (∀ T, (wB.alloc (.cells #[Value.slice xa x.length xc] T)).ownsRow 0 48 1 (.slice (some ⟨g, 0, none⟩) S.length cap) S.length (vs.map slV)) := fun T => Fd.row_past r1 ((Below.refl _ _).alloc (Nat.le_refl _) _) (Nat.le_refl _)
  have hSl : S.length ≤ 51 := by omega
  have HVs : Hid (vs.length = S.length) := by have := r1.1; show _ = _; simpa using this
  clear r1
  have HB1 : Hid _ := b1
  have HZ1 : Hid (wB.heap.size = w.heap.size) := z1
  have HU1 : Hid (∀ k, k ≠ sb → wB.heap[k]? = w.heap[k]?) := u1
  have hgs := H3.out.2.2
  clear b1 z1 u1 u0 z0 wo1
  have HLen : Hid (S.length = min N 50 + 1) := hlen
  clear hlen
  go_upto_region 5 with (first
    | (at_builtin; refine Tryz.appSh (x := (xa, x.length, xc)) rfl _ _ rfl (HR.out 48) rfl (heap_alloc_new _ _) rfl (by omega) ?_; intro ad2 cap2 w2 hr2 hg2 hw2; have c2 : w2.cell? ⟨sb, 1, none⟩ = some (.slice (some ⟨g, 0, none⟩) S.length cap) := cell_of_row w2 sb 1 _ _ _ ((hg2.block sb (by simp; rw [HZ1.out]; exact Nat.lt_succ_of_lt (HT.out sb H3.out.1)) (fun e => hgs (by cases e; rfl))).trans ((heap_alloc_old _ _ (by rw [HZ1.out]; exact HT.out sb H3.out.1)).trans HB1.out)); have f2 : w2.frozen? ⟨sb, 1, none⟩ = false := frozen_of_row w2 sb 1 _ _ ((hg2.block sb (by simp; rw [HZ1.out]; exact Nat.lt_succ_of_lt (HT.out sb H3.out.1)) (fun e => hgs (by cases e; rfl))).trans ((heap_alloc_old _ _ (by rw [HZ1.out]; exact HT.out sb H3.out.1)).trans HB1.out)))
    | fail)
  obtain ⟨g2, rfl⟩ : ∃ g2, ad2 = some ⟨g2, 0, none⟩ := by
    rcases hr2.2 with ⟨e, e0⟩ | ⟨g2, cap', cur, e, _⟩
    · omega
    · injection e with e1
      exact ⟨g2, e1⟩
  have hsb : sb < w.heap.size := HT.out sb H3.out.1
  have hb2 : w2.heap[sb]? = some (.cells #[.int .i64 ((N : Int) + 1), .slice (some ⟨g, 0, none⟩) S.length cap] 58 (0, 0)) := (hg2.block sb (by simp; rw [HZ1.out]; exact Nat.lt_succ_of_lt hsb) (fun e => hgs (by cases e; rfl))).trans ((heap_alloc_old _ _ (by rw [HZ1.out]; exact hsb)).trans HB1.out)
  have b3 := heap_setCell_same w2 sb 1 _ _ (.slice (some ⟨g2, 0, none⟩) (S.length + 1) cap2) hb2
  have hg2' : g2 = g ∨ w.heap.size ≤ g2 := by
    rcases hw2 with e | e
    · exact .inl (by cases e; rfl)
    · have := e g2 rfl
      simp [HZ1.out] at this
      exact .inr (by omega)
  have hg2s : g2 ≠ sb := by
    rcases hg2' with e | e
    · rw [e]; exact hgs
    · omega
  have u3 : ∀ k, k < w.heap.size → k ≠ sb → k ≠ g → (w2.setCell ⟨sb, 1, none⟩ (.slice (some ⟨g2, 0, none⟩) (S.length + 1) cap2)).heap[k]? = w.heap[k]? := fun k h1 h2 h3 =>
    (Below.heap_setCell w2 ⟨sb, 1, none⟩ _ k (fun e => h2 (by simpa using e))).trans ((hg2.block k (by simp; rw [HZ1.out]; exact Nat.lt_succ_of_lt h1) (fun e => h3 (by cases e; rfl))).trans ((heap_alloc_old _ _ (by rw [HZ1.out]; exact h1)).trans (HU1.out k h2)))
  have wo3 : Wo own w (w2.setCell ⟨sb, 1, none⟩ (.slice (some ⟨g2, 0, none⟩) (S.length + 1) cap2)) := ((wo2.alloc _).grown hg2 (fun k e => by cases e; exact .inl H3.out.2.1)).setCell sb 1 _ (.inl H3.out.1)
  have r3 : (w2.setCell ⟨sb, 1, none⟩ (.slice (some ⟨g2, 0, none⟩) (S.length + 1) cap2)).ownsRow 0 48 1 (.slice (some ⟨g2, 0, none⟩) (S.length + 1 : Nat) cap2) (S.length + 1) ((vs ++ [(xa, x.length, xc)]).map slV) := Fd.row_keep hr2 fun k e => by cases e; exact Below.heap_setCell w2 ⟨sb, 1, none⟩ _ g2 (fun e => hg2s (by simpa using e))
  clear hr2 hg2 hw2 c2 f2 hb2 HB1 HU1 HR wo2 c1
  generalize w2.setCell ⟨sb, 1, none⟩ (.slice (some ⟨g2, 0, none⟩) (S.length + 1) cap2) = w3 at *
  have c3 : w3.cell? ⟨sb, 1, none⟩ = some (.slice (some ⟨g2, 0, none⟩) (S.length + 1) cap2) := cell_of_row w3 sb 1 _ _ _ b3
  have HB3 : Hid (w3.heap[sb]? = some (.cells #[.int .i64 ((N : Int) + 1), .slice (some ⟨g2, 0, none⟩) (S.length + 1) cap2] 58 (0, 0))) := b3
  have HU3 : Hid (∀ k, k < w.heap.size → k ≠ sb → k ≠ g → w3.heap[k]? = w.heap[k]?) := u3
  have HR3 : Hid (w3.ownsRow 0 48 1 (.slice (some ⟨g2, 0, none⟩) (S.length + 1 : Nat) cap2) (S.length + 1) ((vs ++ [(xa, x.length, xc)]).map slV)) := r3
  have HW3 : Hid (Wo own w w3) := wo3
  clear b3 u3 r3 wo3 HZ1
  by_cases hfull : S.length = 51
  · have k1 : (51 : Int) < (S.length : Int) + 1 := by omega
    have k2 : 51 < (S ++ [x]).length := by simp; omega
    have HTr : Hid (trim (S ++ [x]) = (S ++ [x]).tail) := by show _ = _; rw [trim, if_pos k2]
    clear k2
    obtain ⟨v0, vr, rfl⟩ : ∃ v0 vr, vs = v0 :: vr := by
      cases vs with
      | nil => have := HVs.out; simp at this; omega
      | cons a b => exact ⟨a, b, rfl⟩
    have hd := Tryz.delete_first (x := v0) (r := vr ++ [(xa, x.length, xc)]) HR3.out
    have hvr : (vr ++ [(xa, x.length, xc)]).length = S.length := by have := HVs.out; simp at this ⊢; omega
    rw [hvr] at hd
    clear hvr
    have HSB : Hid (sb < w3.heap.size) := Nat.lt_of_lt_of_le hsb HW3.out.size
    have hNN : (51 : Int) < (S.length : Int) + 1 := k1
    have K51 : Hid (S.length = 51) := hfull
    clear hfull hSl hsb
    go_upto_region 6 with (fail)
    go_wp2_with (first
      | (go_at_call 38; refine hd.mono ?_; clear hd; rintro e w4 ⟨rfl, hr4, hw4⟩; have b4 : w4.heap[sb]? = some (.cells #[.int .i64 ((N : Int) + 1), .slice (some ⟨g2, 0, none⟩) (S.length + 1) cap2] 58 (0, 0)) := (hw4.block sb HSB.out (fun e => hg2s e.symm)).trans HB3.out; have c4 := cell_of_row w4 sb 1 _ _ _ b4; have f4 := frozen_of_row w4 sb 1 _ _ b4)
      | fail)
    go_ret
    have b5 := heap_setCell_same w4 sb 1 _ _ (.slice (some ⟨g2, 0, none⟩) S.length cap2) b4
    have hlx : (S ++ [x]).tail.length = S.length := by simp
    have hvl := HVs.out
    have hso : ∀ k, k ≠ sb → (w4.setCell ⟨sb, 1, none⟩ (.slice (some ⟨g2, 0, none⟩) S.length cap2)).heap[k]? = w4.heap[k]? := fun k hk => Below.heap_setCell w4 ⟨sb, 1, none⟩ _ k (fun e => hk (by simpa using e))
    have wo5 : Wo own w (w4.setCell ⟨sb, 1, none⟩ (.slice (some ⟨g2, 0, none⟩) S.length cap2)) := (HW3.out.step (fun k e => by
      rcases hg2' with e' | e'
      · exact .inl (by rw [e, e']; exact H3.out.2.1)
      · exact .inr (by rw [e]; exact e')) hw4).setCell sb 1 _ (.inl H3.out.1)
    refine ⟨rfl, ?_, wo5⟩
    rw [HTr.out]
    refine Tryz.Sf.build (own := own) (g := g) (g' := g2) (S := S) (vs := v0 :: vr) (vs' := vr ++ [(xa, x.length, xc)]) (xs := (xa, x.length, xc)) (x := x) HX.out HV.out HT.out H6.out HVs.out H3.out.1 H3.out.2.1 hg2' (fun k h1 h2 h3 => (hso k h2).trans ((hw4.block k (Nat.lt_of_lt_of_le h1 HW3.out.size) (fun e => ?_)).trans (HU3.out k h1 h2 h3))) (by rw [hlx]; exact b5) (by rw [hlx]; exact Fd.row_keep hr4 fun k e => by cases e; exact hso g2 hg2s) hgs (fun j hj hs => ?_) (fun k => Iff.rfl) wo5.size (by rw [hlx]; have := HLen.out; have := K51.out; omega) (by omega) ?_
    · rcases hg2' with e' | e'
      · exact h3 (by rw [e, e'])
      · omega
    · have hSl : S.length = vr.length + 1 := by simp at hvl; omega
      by_cases e : j < vr.length
      · refine .inr ⟨j + 1, by simp; omega, by omega, ?_, ?_⟩
        · rw [List.getElem_append_left e]; simp
        · rw [List.getElem_tail, List.getElem_append_left (by omega)]
      · have e' : j = vr.length := by simp at hj; omega
        subst e'
        refine .inl ⟨by simp, ?_⟩
        rw [List.getElem_tail, List.getElem_append_right (by omega)]
        simp
    · intro s hs
      rcases List.mem_append.1 (List.mem_of_mem_tail hs) with e | e
      · exact HF.out s e
      · simp at e; rw [e]; exact HL.out
  · have k1 : ¬ (51 : Int) < (S.length : Int) + 1 := by omega
    have k2 : ¬ 51 < (S ++ [x]).length := by simp; omega
    have HTr : Hid (trim (S ++ [x]) = S ++ [x]) := by show _ = _; rw [trim, if_neg k2]
    clear k2
    go_wp2
    go_ret
    refine ⟨rfl, ?_, HW3.out⟩
    rw [HTr.out]
    have hlx : (S ++ [x]).length = S.length + 1 := by simp
    refine Tryz.Sf.build (own := own) (g := g) (g' := g2) (S := S) (vs := vs) (vs' := vs ++ [(xa, x.length, xc)]) (xs := (xa, x.length, xc)) (x := x) HX.out HV.out HT.out H6.out HVs.out H3.out.1 H3.out.2.1 hg2' HU3.out (by rw [hlx]; exact HB3.out) (by rw [hlx]; exact HR3.out) hgs (fun j hj hs => ?_) (fun k => Iff.rfl) HW3.out.size (by rw [hlx, HLen.out]; have := HLen.out; omega) (by omega) ?_
    · by_cases e : j < vs.length
      · exact .inr ⟨j, e, by rw [← HVs.out]; exact e, List.getElem_append_left e, List.getElem_append_left (by rw [← HVs.out]; exact e)⟩
      · have e' : j = vs.length := by simp at hj; omega
        subst e'
        refine .inl ⟨by simp, ?_⟩
        have := HVs.out
        simp [List.getElem_append_right, this]
    · intro s hs
      rcases List.mem_append.1 hs with e | e
      · exact HF.out s e
      · simp at e; rw [e]; exact HL.out
end Go.Proofs
