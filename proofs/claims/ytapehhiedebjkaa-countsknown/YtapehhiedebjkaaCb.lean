/-
  A page: a mark, and notes.
-/
import Derived.Test.YtapehhiedebjkaaCa
import Derived.Test.YtapehhiedebjkaaVc
import Derived.Deep.RegionHeld3
import Derived.Deep.DeepCutAuto
namespace Go.Proofs
open Go.RowKit Go.Wi Go.Ct
noncomputable def Try.kI : Ky Try.prog 3 Int := intKy Try.underlying3
noncomputable def Try.kS : Ky Try.prog 9 ByteArray := strKy Try.underlying9
theorem Try.uNotes : Try.prog.underlying 59 = some (.map 3 56) := by kernel_rfl
theorem Try.uPages : Try.prog.underlying 58 = some (.map 9 52) := by kernel_rfl
theorem Try.uRooms : Try.prog.underlying 44 = some (.map 9 58) := by kernel_rfl
theorem Try.uPlaces : Try.prog.underlying 43 = some (.map 9 3) := by kernel_rfl
theorem Try.zInt (w : World) : (zeroValue 3).run Try.prog w = .ok (.int .i64 0) w := by kernel_rfl
theorem Try.zPage (w : World) : (zeroValue 52).run Try.prog w = .ok (.pointer none) w := by kernel_rfl
theorem Try.zPages (w : World) : (zeroValue 58).run Try.prog w = .ok (.map none) w := by kernel_rfl
/-- A page in memory. -/
structure Try.Pg (w : World) (p : Nat) (o : Option Nat) (n : Nat) (m : Int) (f : Int → Option Bool) : Prop where
  bl : w.heap[p]? = some (.cells #[.int .i64 m, .map o] 61 (0, 0))
  mp : Mp Try.kI w o n (fun k => (f k).map noteV)
section
variable {w w' : World} {p : Nat} {o : Option Nat} {n : Nat} {m : Int} {f : Int → Option Bool}
theorem Try.Pg.ne (h : Try.Pg w p o n m f) : o ≠ some p := fun e => by
  rcases h.mp.ex with ⟨h1, _⟩ | ⟨b, D, h1, ⟨es, c, h2, _⟩, _⟩
  · rw [h1] at e; cases e
  · rw [h1] at e; injection e with e; subst e
    rw [h.bl] at h2; cases h2
theorem Try.Pg.keep (h : Try.Pg w p o n m f) (hp : w'.heap[p]? = w.heap[p]?) (ho : ∀ b, o = some b → w'.heap[b]? = w.heap[b]?) : Try.Pg w' p o n m f :=
  ⟨hp.trans h.bl, h.mp.keep ho⟩
theorem Try.Pg.lt (h : Try.Pg w p o n m f) : p < w.heap.size := block_lt h.bl
/-- What a call that writes on a page leaves. -/
structure Try.PChg (w w' : World) (p : Nat) (o : Option Nat) (n : Nat) (m : Int) (f : Int → Option Bool) : Prop where
  ex : ∃ o', Try.Pg w' p o' n m f ∧ ∀ b, o' = some b → o = some b ∨ w.heap.size ≤ b
  wo : Wo (fun x => x = p ∨ o = some x) w w'
end
theorem Ct.alloc_old {w : World} {x : Nat} (o : Obj) (h : x < w.heap.size) : (w.alloc o).heap[x]? = w.heap[x]? := (World.grownBy_alloc w o none).block x h (by simp)
set_option maxHeartbeats 1000000 in
set_option maxRecDepth 20000 in
theorem Try.put_any {w : World} {p : Nat} {o : Option Nat} {n : Nat} {m : Int} {f : Int → Option Bool} (h : Try.Pg w p o n m f) (hn : n < maxLen) (k : Int) (hk : (Lit.int .i64 k).wf = true) (hb : Bool) :
    Calls Try.prog 20 #[.pointer (some ⟨p, 0, none⟩), .int .i64 k, noteV hb] w fun e w' => (∃ v, e = .returned v) ∧ Try.PChg w w' p o (n + 1) m (upd f k (some hb)) := by
  have hmm := @run_makeMap Try.prog
  have heq := fun W r => run_eql_map_nil (P := Try.prog) W 59 3 56 r Try.uNotes
  have c0 : w.cell? ⟨p, 0, none⟩ = some (.int .i64 m) := cell_of_row _ _ 0 _ _ _ h.bl
  have c1 : w.cell? ⟨p, 1, none⟩ = some (.map o) := cell_of_row _ _ 1 _ _ _ h.bl
  have f1 : w.frozen? ⟨p, 1, none⟩ = false := frozen_of_row _ _ 1 _ _ h.bl
  have hpl := h.lt
  have hf : ∀ x, upd (fun k => (f k).map noteV) k (some (noteV hb)) x = (upd f k (some hb) x).map noteV := fun x => by
    by_cases e : x = k
    · subst e; simp
    · rw [upd_ne _ _ e, upd_ne _ _ e]
  cases o with
  | none =>
    have e2 := heap_setCell_same w p 1 #[.int .i64 m, .map none] 61 (.map (some (w.heap.size + 1))) h.bl
    obtain ⟨W0, hW0⟩ : ∃ W0, W0 = (w.setCell ⟨p, 1, none⟩ (.map (some (w.heap.size + 1)))).alloc (.cells #[.bool hb] 56) := ⟨_, rfl⟩
    have hs0 : W0.heap.size = w.heap.size + 1 := by rw [hW0]; simp
    have hp0 : W0.heap[p]? = some (.cells #[.int .i64 m, .map (some (w.heap.size + 1))] 61 (0, 0)) := by rw [hW0, Ct.alloc_old _ (by simpa using hpl)]; exact e2
    have hw0 : Wo (fun x => x = p ∨ none = some x) w W0 := by rw [hW0]; exact ((Wo.refl _ w).setCell p 1 _ (.inl (.inl rfl))).alloc _
    obtain ⟨W3, hrun, hM3, htu⟩ := ((Mp.made Try.kI W0).keep (w' := (W0.alloc (.map #[] 0)).drew) fun x hx => rfl).store Try.uNotes (by unfold maxLen; omega) (x := k) hk (noteV hb)
    have hr : (Instr.mapUpdate 59 (.map (some (w.heap.size + 1))) (.int .i64 k) (.agg #[.bool hb])).run Try.prog ((((w.setCell ⟨p, 1, none⟩ (.map (some (w.heap.size + 1)))).alloc (.cells #[.bool hb] 56)).alloc (.map #[] 0)).drew) = .ok () W3 := by
      rw [hs0, hW0] at hrun; exact hrun
    have hf0 : ∀ x, f x = none := fun x => by
      rcases h.mp.ex with ⟨_, h1⟩ | ⟨b, D, h1, _⟩
      · simpa using h1 x
      · cases h1
    have hM4 := (hM3.cong (f' := fun x => (upd f k (some hb) x).map noteV) (fun x => by rw [← hf x]; simp [upd, hf0])).mono (n' := n + 1) (by omega)
    have hg := htu.grown
    rw [hs0] at hM4 hg
    have hp3 := (hg.block p (by simp [hs0]; omega) (fun e => by injection e with e; omega)).trans ((Ct.alloc_old (w := W0) (.map #[] 0) (by omega)).trans hp0)
    have hw3 : Wo (fun x => x = p ∨ none = some x) w W3 := (hw0.alloc _).drew.grown hg fun x e => .inr (by injection e with e; omega)
    have HM : Hid _ := hM4
    have HP : Hid _ := hp3
    have HW : Hid _ := hw3
    clear h hM3 htu hf hM4 hrun e2 hg hp3 hw3 hW0 hs0 hp0 hw0
    unfold noteV at *
    go_enter Try.func20, Try.ntmps20
    go_wp2
    go_region
    go_end0
    exact ⟨⟨_, rfl⟩, ⟨⟨some (w.heap.size + 1), ⟨HP.out, HM.out⟩, fun x e => .inr (by injection e with e; omega)⟩, HW.out⟩⟩
  | some b =>
    have hne := h.ne
    have hbl := h.mp.lt rfl
    obtain ⟨W3, hrun, hM3, htu⟩ := (h.mp.keep (w' := (w.alloc (.cells #[.bool hb] 56)).drew) fun x hx => by injection hx with hx; subst hx; exact Ct.alloc_old _ hbl).store Try.uNotes hn (x := k) hk (noteV hb)
    have hr : (Instr.mapUpdate 59 (.map (some b)) (.int .i64 k) (.agg #[.bool hb])).run Try.prog ((w.alloc (.cells #[.bool hb] 56)).drew) = .ok () W3 := hrun
    have hM4 := hM3.cong hf
    have HM : Hid _ := hM4
    have HT : Hid _ := htu.grown
    have H : Hid _ := h
    clear h hM3 htu hf hM4 hrun
    unfold noteV at *
    go_enter Try.func20, Try.ntmps20
    go_wp2
    go_region
    go_end0
    have hg := HT.out
    have hp3 : W3.heap[p]? = w.heap[p]? := (hg.block p (by simp; omega) (fun e => hne (by rw [e]))).trans (Ct.alloc_old _ hpl)
    refine ⟨⟨_, rfl⟩, ⟨⟨some b, ⟨hp3.trans H.out.bl, HM.out⟩, fun x e => .inl e⟩, ?_⟩⟩
    exact ((Wo.refl _ w).alloc _).drew.grown hg fun x e => .inl (.inr e)
set_option maxHeartbeats 1000000 in
set_option maxRecDepth 20000 in
theorem Try.tidy_any {w : World} {p : Nat} {o : Option Nat} {n : Nat} {m : Int} {f : Int → Option Bool} (h : Try.Pg w p o n m f) :
    Calls Try.prog 26 #[.pointer (some ⟨p, 0, none⟩)] w fun e w' => (∃ v, e = .returned v) ∧ ∃ o', Try.Pg w' p o' n m f ∧ (o' = o ∨ o' = none) ∧ (o' = none ↔ ∀ k, f k = none) ∧ Wo (fun x => x = p) w w' ∧ w'.heap.size = w.heap.size := by
  obtain ⟨L, hL1, hL2, _, hlen⟩ := h.mp.list Try.uNotes
  have c1 : w.cell? ⟨p, 1, none⟩ = some (.map o) := cell_of_row _ _ 1 _ _ _ h.bl
  have f1 : w.frozen? ⟨p, 1, none⟩ = false := frozen_of_row _ _ 1 _ _ h.bl
  by_cases hl : L.length = 0
  · have hL : L = [] := List.eq_nil_of_length_eq_zero hl
    have hf0 : ∀ k, f k = none := fun k => by
      have := hL2 k
      rw [hL] at this
      cases hk : f k with
      | none => rfl
      | some v => simp [hk] at this
    rw [hl] at hlen
    have H : Hid _ := h
    clear h hL1 hL2
    go_enter Try.func26, Try.ntmps26
    go_wp2
    go_end0
    have e2 := heap_setCell_same _ p 1 #[.int .i64 m, .map o] 61 (.map none) H.out.bl
    exact ⟨⟨_, rfl⟩, none, ⟨e2, ⟨.inl ⟨rfl, fun x => by simp [hf0]⟩⟩⟩, .inr rfl, ⟨fun _ => hf0, fun _ => rfl⟩, (Wo.refl _ w).setCell p 1 _ (.inl rfl), by simp⟩
  · have hne : ((L.length : Nat) : Int) ≠ 0 := by omega
    have hex : ¬ ∀ k, f k = none := fun hf => by
      cases L with
      | nil => exact hl rfl
      | cons x l =>
        have := (hL2 x).1 (by simp)
        simp [hf] at this
    have ho : o ≠ none := fun e => by
      rcases h.mp.ex with ⟨_, h1⟩ | ⟨b, D, h1, _⟩
      · exact hex fun k => by simpa using h1 k
      · rw [e] at h1; cases h1
    generalize L.length = l at *
    have H : Hid _ := h
    clear h hL1 hL2
    go_enter Try.func26, Try.ntmps26
    go_wp2
    go_end0
    exact ⟨⟨_, rfl⟩, o, H.out, .inl rfl, ⟨fun e => absurd e ho, fun e => absurd e hex⟩, Wo.refl _ w, rfl⟩
set_option maxHeartbeats 1000000 in
set_option maxRecDepth 20000 in
theorem Try.read_any {w : World} {p : Nat} {o : Option Nat} {n : Nat} {m : Int} {f : Int → Option Bool} (h : Try.Pg w p o n m f) (k : Int) (_hk : (Lit.int .i64 k).wf = true) :
    Calls Try.prog 24 #[.pointer (some ⟨p, 0, none⟩), .int .i64 k] w fun e w' => (∃ v, e = .returned v) ∧ Try.PChg w w' p o n k (fun x => if x ≤ k then none else f x) := by
  have c0 : w.cell? ⟨p, 0, none⟩ = some (.int .i64 m) := cell_of_row _ _ 0 _ _ _ h.bl
  have f0 : w.frozen? ⟨p, 0, none⟩ = false := frozen_of_row _ _ 0 _ _ h.bl
  have c1 : w.cell? ⟨p, 1, none⟩ = some (.map o) := cell_of_row _ _ 1 _ _ _ h.bl
  have hpl := h.lt
  have hne := h.ne
  have e2 := heap_setCell_same w p 0 #[.int .i64 m, .map o] 61 (.int .i64 k) h.bl
  obtain ⟨w1, cnt1, hr1, hg1, hgr1, hs1⟩ := (h.mp.keep (w' := w.setCell ⟨p, 0, none⟩ (.int .i64 k)) fun x hx => Below.heap_setCell _ ⟨p, 0, none⟩ _ _ (fun e => hne (by rw [hx, e]))).range Try.uNotes
  have es : (w.setCell ⟨p, 0, none⟩ (.int .i64 k)).heap.size = w.heap.size := by simp
  rw [es] at hg1 hr1 hs1
  have hp1 : w1.heap[p]? = some (.cells #[.int .i64 k, .map o] 61 (0, 0)) := (hgr1.block p (by simpa using hpl) (by simp)).trans e2
  have hw1 : Wo (fun x => x = p ∨ o = some x) w w1 := ((Wo.refl _ w).setCell p 0 (.int .i64 k) (.inl (.inl rfl))).grown hgr1 fun x e => by cases e
  have hol : ∀ b, o = some b → b < w.heap.size := fun b hb => h.mp.lt hb
  have HG : Hid _ := hg1
  have HP : Hid _ := hp1
  have HW : Hid _ := hw1
  clear h hg1 hp1 hw1 hgr1 e2 es
  go_enter Try.func24, Try.ntmps24
  go_wp2
  go_loopw [] (fun wr => ∃ left cnt, ∃ g : Int → Option Bool, Rg Try.kI wr o w.heap.size n (fun x => (g x).map noteV) left cnt ∧ (∀ x, g x = if left x = false ∧ x ≤ k then none else f x) ∧ wr.heap[p]? = some (.cells #[.int .i64 k, .map o] 61 (0, 0)) ∧ Wo (fun x => x = p ∨ o = some x) w wr ∧ w.heap.size < wr.heap.size) (fun wr => leftIn wr o w.heap.size)
  case atStart =>
    refine ⟨_, _, f, HG.out, fun x => ?_, HP.out, HW.out, by omega⟩
    cases hx : f x <;> simp
  case round =>
    obtain ⟨left, cnt, g, hrg, hg, hp, hw, hsz⟩ := hrel
    clear HG HP HW c0 f0 c1 hr1
    have hcm := hrg.left_eq
    have HGF : Hid _ := hg
    clear hg
    go_wp2_with (first
      | (at_next; refine wpNext rfl _ rfl rfl hrg ?_ ?_)
      | fail)
    · intro hl
      have hg := HGF.out
      have hgf : g = fun x => if x ≤ k then none else f x := funext fun x => by rw [hg x, hl x]; simp
      have hP : Try.Pg wr p o n k g := ⟨hp, hrg.mp⟩
      have htd := Try.tidy_any hP
      rw [hgf] at htd
      have HW : Hid _ := hw
      clear hrg hg hp hw hcm hP hgf
      go_wp2_with (first
        | (go_at_call 26; refine htd.mono ?_; clear htd; rintro e w4 ⟨⟨v, rfl⟩, o4, hp4, ho4, _, hw4, hs4⟩)
        | fail)
      go_end0
      refine ⟨⟨_, rfl⟩, ⟨⟨o4, hp4, fun b hb => .inl ?_⟩, HW.out.step (fun x e => .inl (.inl e)) hw4⟩⟩
      rcases ho4 with e | e
      · rw [← e, hb]
      · rw [e] at hb; cases hb
    · intro x v w2 cnt2 hok hlx hfx hrg2 hlt hg2 hs2 hen
      have hg := HGF.out
      have hval : Try.kI.val x = .int .i64 x := rfl
      rw [hval] at hen ⊢
      have hp2 : w2.heap[p]? = some (.cells #[.int .i64 k, .map o] 61 (0, 0)) := (hg2.block p (block_lt hp) (fun e => by injection e with e; omega)).trans hp
      have hw2 : Wo (fun x => x = p ∨ o = some x) w w2 := hw.grown hg2 fun x e => .inr (by injection e with e; omega)
      have c2 : w2.cell? ⟨p, 1, none⟩ = some (.map o) := cell_of_row _ _ 1 _ _ _ hp2
      by_cases hle : x ≤ k
      · obtain ⟨w3, cnt3, hdel, hrg3, hle3, hg3, hs3, _⟩ := hrg2.drop Try.uNotes hok
        rw [hval] at hdel
        have hp3 : w3.heap[p]? = some (.cells #[.int .i64 k, .map o] 61 (0, 0)) := (hg3.block p (block_lt hp2) (fun e => hne e.symm)).trans hp2
        have hw3 : Wo (fun x => x = p ∨ o = some x) w w3 := hw2.grown hg3 fun x e => .inl (.inr e)
        have hrel : ∃ left cnt, ∃ g : Int → Option Bool, Rg Try.kI w3 o w.heap.size n (fun x => (g x).map noteV) left cnt ∧ (∀ x, g x = if left x = false ∧ x ≤ k then none else f x) ∧ w3.heap[p]? = some (.cells #[.int .i64 k, .map o] 61 (0, 0)) ∧ Wo (fun x => x = p ∨ o = some x) w w3 ∧ w.heap.size < w3.heap.size := by
          have : (fun y => (upd g x none y).map noteV) = upd (fun y => (g y).map noteV) x none := funext fun y => by by_cases e : y = x <;> simp [upd, e]
          rw [← this] at hrg3
          refine ⟨_, _, upd g x none, hrg3, fun y => ?_, hp3, hw3, by omega⟩
          by_cases e : y = x
          · subst e; simp [hle]
          · rw [upd_ne _ _ e, hg y]; simp [e]
        have hm3 : leftIn w3 o w.heap.size < leftIn wr o w.heap.size := by rw [hrg3.left_eq, hcm]; omega
        have HREL : Hid _ := hrel
        clear hrg hg hp hw hrg2 hg2 hp2 hw2 hrg3 hg3 hp3 hw3 hrel hcm
        go_wp2
        go_roundw
        case rel => exact HREL.out
        case measure => exact hm3
      · have hrel : ∃ left cnt, ∃ g : Int → Option Bool, Rg Try.kI w2 o w.heap.size n (fun x => (g x).map noteV) left cnt ∧ (∀ x, g x = if left x = false ∧ x ≤ k then none else f x) ∧ w2.heap[p]? = some (.cells #[.int .i64 k, .map o] 61 (0, 0)) ∧ Wo (fun x => x = p ∨ o = some x) w w2 ∧ w.heap.size < w2.heap.size := by
          refine ⟨_, _, g, hrg2, fun y => ?_, hp2, hw2, by omega⟩
          rw [hg y]
          by_cases e : y = x
          · subst e; simp [hle]
          · simp [e]
        have hm3 : leftIn w2 o w.heap.size < leftIn wr o w.heap.size := by rw [hrg2.left_eq, hcm]; omega
        have HREL : Hid _ := hrel
        clear hrg hg hp hw hrg2 hg2 hp2 hw2 hrel hcm
        go_wp2
        go_roundw
        case rel => exact HREL.out
        case measure => exact hm3
set_option maxHeartbeats 1000000 in
set_option maxRecDepth 20000 in
theorem Try.high_any {w : World} {p : Nat} {o : Option Nat} {n : Nat} {m : Int} {f : Int → Option Bool} (h : Try.Pg w p o n m f) (hn : n ≤ 1000000000) :
    Calls Try.prog 22 #[.pointer (some ⟨p, 0, none⟩)] w fun e w' => ∃ L : List Int, e = .returned (.int .i64 (L.length : Nat)) ∧ L.Nodup ∧ (∀ x, x ∈ L ↔ f x = some true) ∧ Below w.heap.size w w' := by
  have c1 : w.cell? ⟨p, 1, none⟩ = some (.map o) := cell_of_row _ _ 1 _ _ _ h.bl
  have hpl := h.lt
  obtain ⟨L0, hL1, hL2, hL3, _⟩ := h.mp.list Try.uNotes
  obtain ⟨w1, cnt1, hr1, hg1, hgr1, hs1⟩ := h.mp.range Try.uNotes
  have hol : ∀ b, o = some b → b < w.heap.size := fun b hb => h.mp.lt hb
  have HG : Hid _ := hg1
  have HB : Hid (Below w.heap.size w w1) := (Below.refl w.heap.size w).grown hgr1 (Nat.le_refl _) (fun k hk => by cases hk)
  have HL1 : Hid _ := hL1
  have HL2 : Hid _ := hL2
  clear h hg1 hgr1 hL1 hL2
  go_enter Try.func22, Try.ntmps22
  go_wp2
  go_loopw [3] (fun i wr => ∃ left cnt, ∃ L : List Int, i = .int .i64 (L.length : Nat) ∧ L.Nodup ∧ (∀ x, x ∈ L ↔ f x = some true ∧ left x = false) ∧ Rg Try.kI wr o w.heap.size n (fun x => (f x).map noteV) left cnt ∧ Below w.heap.size w wr ∧ w.heap.size < wr.heap.size) (fun _ wr => leftIn wr o w.heap.size)
  case atStart =>
    refine ⟨_, _, [], rfl, List.nodup_nil, fun x => ?_, HG.out, HB.out, by omega⟩
    cases hx : f x <;> simp
  case round =>
    obtain ⟨left, cnt, L, rfl, hnd, hL, hrg, hbel, hsz⟩ := hrel
    clear HG HB c1 hr1
    have hcm := hrg.left_eq
    have hLl : L.length ≤ 1000000000 := by
      have := List.Nodup.length_le_of_subset hnd (l₂ := L0) fun x e => (HL2.out x).2 (by simp [((hL x).1 e).1])
      omega
    have HND : Hid _ := hnd
    have HL : Hid _ := hL
    clear hnd hL
    go_wp2_with (first
      | (at_next; refine wpNext rfl _ rfl rfl hrg ?_ ?_)
      | fail)
    · intro hl
      have hlast : ∀ x, x ∈ L ↔ f x = some true := fun x => by rw [HL.out x, hl x]; simp
      have HLA : Hid _ := hlast
      clear hlast hrg hcm
      go_wp2
      go_ret
      exact ⟨L, rfl, HND.out, HLA.out, hbel⟩
    · intro x v w2 cnt2 hok hlx hfx hrg2 hlt hg2 hs2 hen
      have hval : Try.kI.val x = .int .i64 x := rfl
      rw [hval] at hen ⊢
      obtain ⟨hb, hfb, rfl⟩ : ∃ hb, f x = some hb ∧ v = .agg #[.bool hb] := by
        cases hx : f x with
        | none => simp [hx] at hfx
        | some hb => cases hb <;> simp [hx, noteV] at hfx <;> exact ⟨_, rfl, hfx.symm⟩
      have hrg3 := hrg2.keep (w' := w2.alloc (.cells #[.bool hb] 56)) (fun b hb => Ct.alloc_old _ (by have := hol b hb; omega)) (Ct.alloc_old _ (by omega))
      have hbel3 : Below w.heap.size w (w2.alloc (.cells #[.bool hb] 56)) := (hbel.grown hg2 (by omega) (fun k hk => by injection hk with hk; omega)).alloc (by omega) _
      have hm3 : leftIn (w2.alloc (.cells #[.bool hb] 56)) o w.heap.size < leftIn wr o w.heap.size := by rw [hrg3.left_eq, hcm]; omega
      have HM3 : Hid _ := hm3
      have HR3 : Hid _ := hrg3
      have HB3 : Hid _ := hbel3
      clear hrg hcm hrg2 hg2 hrg3 hbel3 hm3 hbel
      cases hb with
      | false =>
        go_wp2
        go_roundw
        case rel =>
          refine ⟨_, _, L, rfl, HND.out, fun y => ?_, HR3.out, HB3.out, by simp; omega⟩
          rw [HL.out y]
          by_cases e : y = x
          · subst e; simp [hfb]
          · simp [e]
        case measure => exact HM3.out
      | true =>
        go_wp2
        go_roundw
        case rel =>
          refine ⟨_, _, x :: L, by simp, List.nodup_cons.2 ⟨fun e => ?_, HND.out⟩, fun y => ?_, HR3.out, HB3.out, by simp; omega⟩
          · have := ((HL.out x).1 e).2
            rw [hlx] at this; cases this
          · by_cases e : y = x
            · subst e; simp [hfb]
            · rw [List.mem_cons, HL.out y]; simp [e]
        case measure => exact HM3.out
end Go.Proofs
