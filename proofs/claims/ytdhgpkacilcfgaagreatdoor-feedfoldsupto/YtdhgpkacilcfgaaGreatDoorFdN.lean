/-
  FEED: Put, of a hub.
-/
import Derived.Test.YtdhgpkacilcfgaaGreatDoorFdM
namespace Go.Proofs
open Go.RowKit Go.Wi Go.Fd Go.Sort Go.Ct Go.ChangeMaps
/-- A user's shelf, or an empty one. -/
theorem Tryz.shelf_any {w : World} {own : ByteArray → Nat → Prop} {p : ByteArray → Nat} {hb mb n : Nat} {F : ByteArray → Option Sh} (h : Tryz.Hb w own p hb mb n F) (u : ByteArray) (hu : u.size ≤ maxLen) :
    Calls Tryz.prog 18 #[.pointer (some ⟨hb, 0, none⟩), .string u] w fun e w' => ∃ sb, ∃ own0 : Nat → Prop, e = .returned (.pointer (some ⟨sb, 0, none⟩)) ∧ Tryz.Sf w' own0 sb ((F u).getD sh0).1 ((F u).getD sh0).2 ∧ (∀ k, own0 k → own u k ∨ w.heap.size ≤ k) ∧ (∀ k, own u k → own0 k) ∧ (∀ k, own0 k → ¬ own u k → F u = none) ∧ Below w.heap.size w w' := by
  cases hF : F u with
  | none =>
    refine (Tryz.shelf_no h u hu hF).mono ?_
    rintro e w' ⟨sb, rfl, hS, hB⟩
    exact ⟨sb, _, rfl, hS, fun k e => .inr e.1, fun k e => absurd e (h.no u k hF), fun _ _ _ => rfl, hB⟩
  | some s =>
    refine (Tryz.shelf_yes h u hu hF).mono ?_
    rintro e w' ⟨rfl, rfl⟩
    exact ⟨p u, own u, rfl, h.sh u s hF, fun k e => .inl e, fun k e => e, fun k e e' => absurd e e', Below.refl _ _⟩
theorem Fd.turned_wo {w w' : World} {b : Nat} {own : Nat → Prop} (h : w.mapTurned w' b) (ho : own b) : Wo own w w' ∧ ∀ k, k ≠ b → w'.heap[k]? = w.heap[k]? := by
  obtain ⟨es, clock, es', clock', h1, rfl⟩ := h
  have e : ∀ k, k ≠ b → (setBlock w b (.map es' clock')).heap[k]? = w.heap[k]? := fun k hk => by simp [setBlock, Ne.symm hk]
  exact ⟨⟨rfl, rfl, rfl, by simp [setBlock], fun k _ hk => e k fun e' => hk (e' ▸ ho)⟩, e⟩
theorem Tryz.Hb.more {w : World} {own : ByteArray → Nat → Prop} {p : ByteArray → Nat} {hb mb n n' : Nat} {F : ByteArray → Option Sh} (h : Tryz.Hb w own p hb mb n F) (hn : n ≤ n') : Tryz.Hb w own p hb mb n' F := ⟨h.bl, h.mp.mono hn, h.sh, h.no, h.ne, h.off, h.one⟩
theorem Fd.putS_some {s s' : Sh} {x : List Cn} (h : putS s x = some s') (hp : s.2 ≠ []) : s.1 ≠ 9007199254740991 ∧ x ≠ s.2.getLast hp ∧ s' = (s.1 + 1, trim (s.2 ++ [x])) := by
  unfold putS at h
  split at h
  · cases h
  · rename_i hc
    refine ⟨fun e => hc (.inl e), fun e => hc (.inr ?_), (Option.some.inj h).symm⟩
    rw [List.getLast?_eq_some_getLast hp, e]
set_option maxRecDepth 20000 in
set_option maxHeartbeats 500000 in
theorem Tryz.put_any {w : World} {own : ByteArray → Nat → Prop} {p : ByteArray → Nat} {hb mb n : Nat} {F : ByteArray → Option Sh} (h : Tryz.Hb w own p hb mb n F) (u : ByteArray) (hu : u.size ≤ maxLen) (hn : n < 1000000) {V : Value} {l : List Cn} (hl : Cs w V l) (hV : ∀ k, V.ownBlock = some k → k < w.heap.size) (hll : l.length ≤ 4398046511104) :
    Calls Tryz.prog 7 #[.pointer (some ⟨hb, 0, none⟩), .string u, V] w fun e w' => e = .returned (.tuple #[]) ∧ ∃ own' p', Tryz.Hb w' own' p' hb mb (n + 1) (putF F u (sheet l)) ∧ Wo (Fd.All own hb mb) w w' ∧ ∀ y k, own' y k → own y k ∨ w.heap.size ≤ k := by
  have hs := Tryz.shelf_any h u hu
  have HH : Hid (Tryz.Hb w own p hb mb n F) := h
  have HL : Hid (Cs w V l ∧ (∀ k, V.ownBlock = some k → k < w.heap.size) ∧ l.length ≤ 4398046511104) := ⟨hl, hV, hll⟩
  have HU : Hid (u.size ≤ maxLen) := hu
  clear h hl hV hll hu
  go_enter Tryz.func7, Tryz.ntmps7
  go_upto_region 1 with (first
    | (go_at_call 18; refine hs.mono ?_; clear hs; rintro e w1 ⟨sb, own0, rfl, hS, ho1, ho2, ho3, hb1⟩)
    | fail)
  have hso := Tryz.sheetOf_any (HL.out.1.below hb1 HL.out.2.1) (fun k e => Nat.lt_of_lt_of_le (HL.out.2.1 k e) hb1.size) HL.out.2.2
  have HS : Hid (Tryz.Sf w1 own0 sb ((F u).getD sh0).1 ((F u).getD sh0).2) := hS
  have HO : Hid ((∀ k, own0 k → own u k ∨ w.heap.size ≤ k) ∧ (∀ k, own u k → own0 k) ∧ (∀ k, own0 k → ¬ own u k → F u = none)) := ⟨ho1, ho2, ho3⟩
  have HB1 : Hid (Below w.heap.size w w1) := hb1
  clear hS ho1 ho2 ho3 hb1
  cases hp : putS ((F u).getD sh0) (sheet l) with
  | none =>
    have HP : Hid (putS ((F u).getD sh0) (sheet l) = none) := hp
    clear hp
    go_wp2_with (first
      | (go_at_call 20; refine hso.mono ?_; clear hso; rintro e w2 ⟨V2, rfl, hr2, hb2⟩)
      | (go_at_call 19; refine (Tryz.put_no (HS.out.below hb2 (Nat.le_refl _)) (Cs.ofRow hr2) (by have := sheet_len l; have := HL.out.2.2; omega) ?_).mono ?_; have hpp := HP.out; unfold putS at hpp; split at hpp; rename_i hc; rcases hc with hc | hc; exact .inl hc; right; rw [List.getLast?_eq_some_getLast HS.out.pos] at hc; exact (Option.some.inj hc).symm; cases hpp; rintro e w3 ⟨rfl, q, rfl⟩)
      | fail)
    go_end0
    have hb3 : Below w.heap.size w (w2.drewN q) := belowN (HB1.out.trans (hb2.mono HB1.out.size)) q
    have e : putF F u (sheet l) = F := by unfold putF; rw [HP.out]
    rw [e]
    exact ⟨rfl, own, p, (HH.out.more (Nat.le_succ n)).below hb3 (Nat.le_refl _), Wo.ofBelow hb3, fun y k e => .inl e⟩
  | some s' =>
    have HP : Hid (putS ((F u).getD sh0) (sheet l) = some s') := hp
    clear hp
    go_upto_region 2 with (first
      | (go_at_call 20; refine hso.mono ?_; clear hso; rintro e w2 ⟨V2, rfl, hr2, hb2⟩)
      | (go_at_call 19; obtain ⟨hp1, hp2, hp3⟩ := Fd.putS_some HP.out HS.out.pos; refine (Tryz.put_yes (HS.out.below hb2 (Nat.le_refl _)) (Cs.ofRow hr2) (fun k e => ⟨(hr2.lt k e).2, fun e' => absurd (HS.out.lt k e') (Nat.not_lt.2 (hr2.lt k e).1)⟩) (by have := sheet_len l; have := HL.out.2.2; omega) hp1 hp2).mono ?_; rintro e w3 ⟨rfl, hS3, hw3⟩)
      | fail)
    have HV2 : Hid (∀ k, V2.ownBlock = some k → w1.heap.size ≤ k ∧ k < w2.heap.size) := fun k e => hr2.lt k e
    have hb02 : Below w.heap.size w w2 := HB1.out.trans (hb2.mono HB1.out.size)
    have hn0 : ∀ k, k < w.heap.size → ¬ own u k → ¬ own0 k := fun k h1 h2 h3 => by rcases HO.out.1 k h3 with e | e; exact h2 e; omega
    have u3 : ∀ k, k < w.heap.size → ¬ own u k → w3.heap[k]? = w.heap[k]? := fun k h1 h2 => (hw3.block k (Nat.lt_of_lt_of_le h1 hb02.size) (hn0 k h1 h2)).trans (hb02.block k h1)
    have hhb := HH.out.lt hb (.inl rfl)
    have hmb := HH.out.lt mb (.inr (.inl rfl))
    have b3 := (u3 hb hhb (fun e => (HH.out.off u hb e).1 rfl)).trans HH.out.bl
    have c3 : w3.cell? ⟨hb, 0, none⟩ = some (.map (some mb)) := cell_of_row w3 hb 0 _ _ _ b3
    obtain ⟨w4, hrun, hM4, htu⟩ := (HH.out.mp.keep (w' := w3) fun b e => by injection e with e; subst e; exact u3 mb hmb (fun e => (HH.out.off u mb e).2.1 rfl)).store Tryz.uShelves (by unfold maxLen; omega) (x := u) HU.out (Fd.ptrS sb)
    have hr4 : (Instr.mapUpdate 42 (.map (some mb)) (.string u) (.pointer (some ⟨sb, 0, none⟩))).run Tryz.prog w3 = .ok () w4 := hrun
    have hwo4 := Fd.turned_wo (own := Fd.All own hb mb) htu (.inr (.inl rfl))
    have H4 : Hid (Mp Tryz.kS w4 (some mb) (n + 1) (upd (fun u => (F u).map fun _ => Fd.ptrS (p u)) u (some (Fd.ptrS sb))) ∧ Wo (Fd.All own hb mb) w3 w4 ∧ ∀ k, k ≠ mb → w4.heap[k]? = w3.heap[k]?) := ⟨hM4, hwo4.1, hwo4.2⟩
    have H3 : Hid (Tryz.Sf w3 (fun k => own0 k ∨ V2.ownBlock = some k ∨ (w2.heap.size ≤ k ∧ k < w3.heap.size)) sb (((F u).getD sh0).1 + 1) (trim (((F u).getD sh0).2 ++ [sheet l])) ∧ Wo own0 w2 w3) := ⟨hS3, hw3⟩
    have HU3 : Hid (∀ k, k < w.heap.size → ¬ own u k → w3.heap[k]? = w.heap[k]?) := u3
    have HB3 : Hid (w3.heap[hb]? = some (.cells #[.map (some mb)] 44 (0, 0))) := b3
    have HB2 : Hid (Below w.heap.size w w2) := hb02
    have HS12 : Hid (w1.heap.size ≤ w2.heap.size) := hb2.size
    clear hr2 hb2 hS3 hw3 u3 b3 hM4 htu hrun hwo4 hb02 hn0
    go_wp2
    go_end0
    have HP3 := (Fd.putS_some HP.out HS.out.pos).2.2
    have e : putF F u (sheet l) = fun y => if y = u then some s' else F y := by unfold putF; rw [HP.out]
    rw [e]
    have hs34 : w3.heap.size ≤ w4.heap.size := H4.out.2.1.size
    have hs3 : w.heap.size ≤ w3.heap.size := Nat.le_trans HB2.out.size H3.out.2.size
    refine ⟨rfl, fun y k => if y = u then own u k ∨ (w.heap.size ≤ k ∧ k < w4.heap.size) else own y k, fun y => if y = u then sb else p y, ⟨?_, ?_, ?_, ?_, HH.out.ne, ?_, ?_⟩, ?_, ?_⟩
    · rw [H4.out.2.2 hb HH.out.ne]; exact HB3.out
    · refine H4.out.1.cong fun y => ?_
      by_cases hy : y = u
      · subst hy; simp [upd]
      · simp [upd, hy]
    · intro y s hs
      by_cases hy : y = u
      · subst hy
        simp only [if_pos] at hs ⊢
        cases hs
        rw [HP3]
        refine (H3.out.1.keep (w' := w4) fun k hk => H4.out.2.2 k fun e => ?_).mono (fun k hk => ?_) (fun k hk => ?_)
        · subst e
          rcases hk with hk | hk | hk
          · rcases HO.out.1 _ hk with e | e
            · exact (HH.out.off _ _ e).2.1 rfl
            · omega
          · have := (HV2.out _ hk).1; have := HB1.out.size; omega
          · have := HB2.out.size; omega
        · rcases hk with hk | hk | hk
          · rcases HO.out.1 _ hk with e | e
            · exact .inl e
            · have h1 := HS.out.lt k hk; have := HS12.out; have := H3.out.2.size; exact .inr ⟨e, by omega⟩
          · have h1 := HV2.out _ hk; have := HB1.out.size; have := H3.out.2.size; exact .inr ⟨by omega, by omega⟩
          · have := HB2.out.size; exact .inr ⟨by omega, by omega⟩
        · rcases hk with hk | hk
          · have := (HH.out.off _ _ hk).2.2; omega
          · exact hk.2
      · simp only [if_neg hy] at hs ⊢
        refine (HH.out.sh y s hs).keep fun k hk => ?_
        have ho := HH.out.off y k hk
        rw [H4.out.2.2 k ho.2.1]
        exact HU3.out k ho.2.2 fun e => hy (HH.out.one y u k hk e)
    · intro y k hs hk
      by_cases hy : y = u
      · simp [hy] at hs
      · simp only [if_neg hy] at hs hk
        exact HH.out.no y k hs hk
    · intro y k hk
      by_cases hy : y = u
      · subst hy
        simp only [if_pos] at hk
        rcases hk with hk | hk
        · have := HH.out.off _ _ hk; exact ⟨this.1, this.2.1, by omega⟩
        · exact ⟨by omega, by omega, hk.2⟩
      · simp only [if_neg hy] at hk
        have := HH.out.off _ _ hk
        exact ⟨this.1, this.2.1, by omega⟩
    · intro y z k h1 h2
      by_cases hy : y = u <;> by_cases hz : z = u
      · rw [hy, hz]
      · subst hy
        simp only [if_pos, if_neg hz] at h1 h2
        rcases h1 with h1 | h1
        · exact HH.out.one _ _ k h1 h2
        · have := (HH.out.off _ _ h2).2.2; omega
      · subst hz
        simp only [if_pos, if_neg hy] at h1 h2
        rcases h2 with h2 | h2
        · exact HH.out.one _ _ k h1 h2
        · have := (HH.out.off _ _ h1).2.2; omega
      · simp only [if_neg hy, if_neg hz] at h1 h2
        exact HH.out.one _ _ k h1 h2
    · refine ((Wo.ofBelow HB2.out).step (fun k e => ?_) H3.out.2).trans H4.out.2.1
      rcases HO.out.1 k e with e | e
      · exact .inl (.inr (.inr ⟨u, e⟩))
      · exact .inr e
    · intro y k hk
      by_cases hy : y = u
      · simp only [if_pos hy] at hk
        rcases hk with hk | hk
        · exact .inl (by rw [hy]; exact hk)
        · exact .inr hk.1
      · simp only [if_neg hy] at hk
        exact .inl hk
end Go.Proofs
