/-
  The document's reader: Many, NewReader.
-/
import Derived.Test.YtghpbagmpgphfaaWqD
namespace Go.Proofs
open Go.RowKit Go.Wi
theorem Wi.cnt_bad (s : Rs) (a : Nat) (h : s.cnt.2.f = some a) : s.cnt.1 = 0 := by
  obtain ⟨t, p, f⟩ := s
  cases f with
  | some b => rfl
  | none =>
    simp only [Rs.cnt] at h ⊢
    split
    · rename_i n k e
      rw [e] at h
      cases h
    · rfl
/-- What Many answers. -/
def Wi.many (s : Rs) (most : Int) : Nat × Rs := if most < 0 ∨ most < (s.cnt.1 : Int) then (0, s.cnt.2.fail s.p) else (s.cnt.1, s.cnt.2)
set_option maxHeartbeats 2000000 in
theorem Try.xMany_any {w : World} {own : Nat → Prop} {x : Nat} {s : Rs} (h : Try.Xd w own x s) (most : Int) (hm1 : -9223372036854775808 ≤ most) (hm2 : most ≤ 9223372036854775807) :
    Calls Try.prog 26 #[.pointer (some ⟨x, 0, none⟩), .int .i64 most] w fun e w' => (∃ ok, e = .returned (.tuple #[.int .i64 ((Wi.many s most).1 : Nat), .bool ok])) ∧ Try.XChg own w w' x (Wi.many s most).2 := by
  obtain ⟨V, hx, -⟩ := h.ex
  have c1 : w.cell? ⟨x, 1, none⟩ = some (.int .i64 (s.p : Int)) := cell_of_row w x 1 _ _ _ hx
  have hc := Try.xCount_any h
  have hn := (s.cnt_in h.inn).2.2
  have hb := Wi.cnt_bad s
  have HM : Hid (Wi.many s most = if most < 0 ∨ most < (s.cnt.1 : Int) then (0, s.cnt.2.fail s.p) else (s.cnt.1, s.cnt.2)) := rfl
  clear h hx
  generalize s.p = p0 at *
  obtain ⟨r, hr⟩ : ∃ r, s.cnt.2 = r := ⟨_, rfl⟩
  rw [hr] at hc hb HM
  generalize s.cnt.1 = n at *
  generalize Wi.many s most = M at *
  clear hr
  cases hf : r.f with
  | some a =>
    have hn0 : n = 0 := hb a hf
    subst hn0
    have HF : Hid (r.fail p0 = r) := by show _ = _; unfold Rs.fail; rw [hf]
    have HM1 : Hid (M = (0, r)) := by
      show M = _
      rw [HM.out, HF.out]
      split <;> rfl
    have HFF : Hid (r.f = some a) := hf
    have q : (0 : Int) ≤ (a : Int) := by omega
    clear hf hb hn
    go_enter Try.func26, Try.ntmps26
    go_wp2_with (first
          | (go_at_call 34; refine hc.mono ?_; clear hc; rintro e2 w2 ⟨rfl, hx2⟩; have HX : Hid (Try.XChg own w w2 x r) := hx2; have d2 : w2.cell? ⟨x, 2, none⟩ = some (.int .i64 (a : Int)) := (by obtain ⟨V, k1, -⟩ := hx2.rd.ex; have k2 := cell_of_row w2 x 2 _ _ _ k1; rw [HFF.out] at k2; exact k2); clear hx2) | fail)
    go_ret2
    exact ⟨⟨false, by rw [HM1.out]; rfl⟩, by rw [HM1.out]; exact HX.out⟩
  | none =>
    have HFF : Hid (r.f = none) := hf
    clear hf hb
    by_cases hlow : most < 0 ∨ most < (n : Int)
    · have HM1 : Hid (M = (0, r.fail p0)) := HM.out.trans (if_pos hlow)
      have hfl := fun (W : World) (hW : Try.XChg own w W x r) => Try.xFails_any hW.rd p0
      by_cases h0 : most < 0
      · have q0 : decide (most < 0) = true := decide_eq_true h0
        clear hlow
        go_enter Try.func26, Try.ntmps26
        go_wp2_with (first
          | (go_at_call 34; refine hc.mono ?_; clear hc; rintro e2 w2 ⟨rfl, hx2⟩; have HX : Hid (Try.XChg own w w2 x r) := hx2; have hf2 := hfl w2 hx2; have d2 : w2.cell? ⟨x, 2, none⟩ = some (.int .i64 (-1)) := (by obtain ⟨V, k1, -⟩ := hx2.rd.ex; have k2 := cell_of_row w2 x 2 _ _ _ k1; rw [HFF.out] at k2; exact k2); clear hx2 hfl)
          | (go_at_call 35; refine hf2.mono ?_; clear hf2; rintro e3 w3 ⟨⟨v3, rfl⟩, hx3⟩; have HX3 : Hid (Try.XChg own w w3 x (r.fail p0)) := HX.out.trans hx3; clear hx3)
          | fail)
        go_ret2
        exact ⟨⟨false, by rw [HM1.out]; rfl⟩, by rw [HM1.out]; exact HX3.out⟩
      · have h1 : most < (n : Int) := by omega
        have e1 : IntKind.u64.wrap most = most := by rw [IntKind.wrap_u64]; omega
        clear hlow
        go_enter Try.func26, Try.ntmps26
        go_wp2_with (first
          | (go_at_call 34; refine hc.mono ?_; clear hc; rintro e2 w2 ⟨rfl, hx2⟩; have HX : Hid (Try.XChg own w w2 x r) := hx2; have hf2 := hfl w2 hx2; have d2 : w2.cell? ⟨x, 2, none⟩ = some (.int .i64 (-1)) := (by obtain ⟨V, k1, -⟩ := hx2.rd.ex; have k2 := cell_of_row w2 x 2 _ _ _ k1; rw [HFF.out] at k2; exact k2); clear hx2 hfl)
          | (go_at_call 35; refine hf2.mono ?_; clear hf2; rintro e3 w3 ⟨⟨v3, rfl⟩, hx3⟩; have HX3 : Hid (Try.XChg own w w3 x (r.fail p0)) := HX.out.trans hx3; clear hx3)
          | fail)
        go_ret2
        exact ⟨⟨false, by rw [HM1.out]; rfl⟩, by rw [HM1.out]; exact HX3.out⟩
    · have HM1 : Hid (M = (n, r)) := HM.out.trans (if_neg hlow)
      have h0 : ¬ most < 0 := fun e => hlow (.inl e)
      have h1 : ¬ most < (n : Int) := fun e => hlow (.inr e)
      have e1 : IntKind.u64.wrap most = most := by rw [IntKind.wrap_u64]; omega
      have e2 : IntKind.i64.wrap (n : Int) = (n : Int) := by rw [IntKind.wrap_i64]; omega
      clear hlow
      go_enter Try.func26, Try.ntmps26
      go_wp2_with (first
          | (go_at_call 34; refine hc.mono ?_; clear hc; rintro e2 w2 ⟨rfl, hx2⟩; have HX : Hid (Try.XChg own w w2 x r) := hx2; have d2 : w2.cell? ⟨x, 2, none⟩ = some (.int .i64 (-1)) := (by obtain ⟨V, k1, -⟩ := hx2.rd.ex; have k2 := cell_of_row w2 x 2 _ _ _ k1; rw [HFF.out] at k2; exact k2); clear hx2) | fail)
      go_ret2
      exact ⟨⟨true, by rw [HM1.out]; rfl⟩, by rw [HM1.out]; exact HX.out⟩
theorem Wi.bs_up {w w' : World} {v : Value} {b : List UInt8} (h : Bs w v b) (g : Below w.heap.size w w') : Bs w' v b := by
  obtain ⟨ad, cap, rfl, hc, hn, h1⟩ := h.ex
  refine ⟨ad, cap, rfl, hc, hn, ?_⟩
  rcases h1 with h1 | ⟨gg, o, rfl, hg, h1⟩
  · exact .inl h1
  · exact .inr ⟨gg, o, rfl, Nat.lt_of_lt_of_le hg g.size, fun j u hu => (g.cell (p := ⟨gg, o + j, none⟩) hg).trans (h1 j u hu)⟩
set_option maxHeartbeats 1000000 in
theorem Try.xNew_any {w : World} {v : Value} {l : List UInt8} (h : Bs w v l) (hlen : l.length ≤ 140737488355328) :
    Calls Try.prog 6 #[v] w fun e w' => ∃ x, e = .returned (.pointer (some ⟨x, 0, none⟩)) ∧ Try.Xd w' (fun k => w.heap.size ≤ k ∧ k < w'.heap.size) x ⟨l, 0, none⟩ ∧ Below w.heap.size w w' := by
  have Hlen : Hid (l.length ≤ 140737488355328) := hlen
  have hb1 : Below w.heap.size w (w.alloc (.cells #[.slice none 0 0, .int .i64 0, .int .i64 (-1)] 61)) := (Below.refl _ w).alloc (Nat.le_refl _) _
  have hB1 := Wi.bs_up h hb1
  have hn1 := heap_alloc_new w (.cells #[.slice none 0 0, .int .i64 0, .int .i64 (-1)] 61)
  clear hlen h
  go_enter Try.func6, Try.ntmps6
  go_wp2_with (first | (at_builtin; refine Try.appCopy rfl _ _ rfl hB1 rfl rfl Hlen.out ?_; intro ad1 cap1 w1 hown hb; have hrow := (hb.block w.heap.size (by simp)).trans hn1; have c0 := cell_of_row w1 w.heap.size 0 _ _ _ hrow; have f0 : w1.frozen? ⟨w.heap.size, 0, none⟩ = false := frozen_of_row _ _ 0 _ _ hrow; have HB : Hid (Below _ _ w1) := hb; have HO : Hid (World.ownsRow w1 _ _ _ _ _ _) := hown; clear hb hown) | fail)
  go_ret
  have hsz := HB.out.size
  simp at hsz
  have hx2 := heap_setCell_same w1 w.heap.size 0 _ 61 (.slice ad1 l.length cap1) hrow
  have hot : ∀ k, k ≠ w.heap.size → (w1.setCell ⟨w.heap.size, 0, none⟩ (.slice ad1 l.length cap1)).heap[k]? = w1.heap[k]? := fun k hk => Below.heap_setCell w1 ⟨w.heap.size, 0, none⟩ _ k hk
  have hlt : ∀ k, (Value.slice ad1 l.length cap1).ownBlock = some k → w.heap.size < k ∧ k < w1.heap.size := fun k e => by
    have := HO.out.lt k e
    simp at this
    omega
  refine ⟨w.heap.size, rfl, ⟨⟨_, hx2, (Bs.ofRow HO.out).keep fun k e => hot k (by have := hlt k e; omega), ?_, ?_⟩, ⟨Nat.le_refl _, by simp; omega⟩, fun k e => e.2, Nat.zero_le _, Hlen.out⟩, ?_⟩
  · intro e
    have := hlt _ e
    omega
  · intro k e
    have := hlt k e
    exact ⟨by omega, by simpa using this.2⟩
  · exact (hb1.trans (HB.out.mono (by simp))).setCell (Nat.le_refl _) _
end Go.Proofs
