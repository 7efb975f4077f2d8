/-
  A page: put, read.
-/
import Derived.Test.YtkfnjmkajhfhlaaCbA
namespace Go.Proofs
open Go.RowKit Go.Wi Go.Ct
theorem Ct.upd_twice {α : Type} (f : Int → Option α) (k : Int) (u v : Option α) : upd (upd f k u) k v = upd f k v := funext fun x => by by_cases e : x = k <;> simp [upd, e]
theorem Ct.alloc_size (w : World) (o : Obj) : (w.alloc o).heap.size = w.heap.size + 1 := by simp
/-- take, within a walk over the notes. -/
theorem Try.take_in {w0 w : World} {p it : Nat} {o : Option Nat} {n : Nat} {m : Int} {g : Int → Option Bool} {left : Int → Bool} {cnt : Nat} (hr : Rg Try.kI w o it n (fun x => (g x).map noteV) left cnt) (hp : w.heap[p]? = some (.cells #[.int .i64 m, .map o, .int .i64 (cntT g : Nat)] 61 (0, 0)))
    (hw : Wo (fun x => x = p ∨ o = some x) w0 w) (hn : n ≤ maxLen) {x : Int} (hx : Try.kI.ok x) (hne : o ≠ some p) (hip : p < it) :
    ∃ w3 cnt3, Calls Try.prog 25 #[.pointer (some ⟨p, 0, none⟩), .int .i64 x] w (fun e w' => (∃ v, e = .returned v) ∧ w3 = w') ∧ Rg Try.kI w3 o it n (fun y => (upd g x none y).map noteV) (fun y => left y && decide (y ≠ x)) cnt3 ∧ cnt3 ≤ cnt ∧ w3.heap[p]? = some (.cells #[.int .i64 m, .map o, .int .i64 (cntT (upd g x none) : Nat)] 61 (0, 0)) ∧ Wo (fun x => x = p ∨ o = some x) w0 w3 ∧ w3.heap.size = w.heap.size := by
  have hl := hr.mp.look Try.uNotes (Try.zNote w) hx
  rw [Ct.look_note] at hl
  have hfn := Try.fin hr.mp
  have hle := Try.cnt_le hr.mp
  have hup : (fun y => (upd g x none y).map noteV) = upd (fun y => (g y).map noteV) x none := funext fun y => by by_cases e : y = x <;> simp [upd, e]
  have hpl := block_lt hp
  by_cases ht : g x = some true
  · rw [decide_eq_true ht] at hl
    have hdn := cntT_dn ht hfn
    rw [hdn] at hp
    have e2 := heap_setCell_same w p 2 #[.int .i64 m, .map o, .int .i64 ((cntT (upd g x none) + 1 : Nat) : Int)] 61 (.int .i64 (cntT (upd g x none) : Nat)) hp
    obtain ⟨w3, cnt3, hd, hrg, hcl, hg, hs, -⟩ := (hr.keep (w' := w.setCell ⟨p, 2, none⟩ (.int .i64 (cntT (upd g x none) : Nat))) (fun b hb => Below.heap_setCell _ ⟨p, 2, none⟩ _ _ (fun e => hne (by rw [hb, e]))) (Below.heap_setCell _ ⟨p, 2, none⟩ _ _ (fun e => by have e : it = p := e; omega))).drop Try.uNotes hx
    refine ⟨w3, cnt3, Try.take_yes hp x (by unfold maxLen at hn; omega) hl hd, by rw [hup]; exact hrg, hcl, ?_, (hw.setCell p 2 _ (.inl (.inl rfl))).grown hg fun y e => .inl (.inr e), by rw [hs]; simp⟩
    exact (hg.block p (by simpa using hpl) (Ne.symm hne)).trans e2
  · rw [decide_eq_false ht] at hl
    obtain ⟨w3, cnt3, hd, hrg, hcl, hg, hs, -⟩ := hr.drop Try.uNotes hx
    refine ⟨w3, cnt3, Try.take_no hp x hl hd, by rw [hup]; exact hrg, hcl, ?_, hw.grown hg fun y e => .inl (.inr e), hs⟩
    rw [hg.block p hpl (Ne.symm hne), hp, cntT_same ht (by simp) hfn]
set_option maxHeartbeats 1000000 in
set_option maxRecDepth 20000 in
theorem Try.read_any {w : World} {p : Nat} {o : Option Nat} {n : Nat} {m : Int} {f : Int → Option Bool} (h : Try.Pg w p o n m f) (hn : n ≤ maxLen) (k : Int) (_hk : (Lit.int .i64 k).wf = true) :
    Calls Try.prog 23 #[.pointer (some ⟨p, 0, none⟩), .int .i64 k] w fun e w' => (∃ v, e = .returned v) ∧ Try.PChg w w' p o n k (fun x => if x ≤ k then none else f x) := by
  have c0 : w.cell? ⟨p, 0, none⟩ = some (.int .i64 m) := cell_of_row _ _ 0 _ _ _ h.bl
  have f0 : w.frozen? ⟨p, 0, none⟩ = false := frozen_of_row _ _ 0 _ _ h.bl
  have c1 : w.cell? ⟨p, 1, none⟩ = some (.map o) := cell_of_row _ _ 1 _ _ _ h.bl
  have hpl := h.lt
  have hne := h.ne
  have e2 := heap_setCell_same w p 0 #[.int .i64 m, .map o, .int .i64 (cntT f : Nat)] 61 (.int .i64 k) h.bl
  obtain ⟨w1, cnt1, hr1, hg1, hgr1, hs1⟩ := (h.mp.keep (w' := w.setCell ⟨p, 0, none⟩ (.int .i64 k)) fun x hx => Below.heap_setCell _ ⟨p, 0, none⟩ _ _ (fun e => hne (by rw [hx, e]))).range Try.uNotes
  have es : (w.setCell ⟨p, 0, none⟩ (.int .i64 k)).heap.size = w.heap.size := by simp
  rw [es] at hg1 hr1 hs1
  have hp1 : w1.heap[p]? = some (.cells #[.int .i64 k, .map o, .int .i64 (cntT f : Nat)] 61 (0, 0)) := (hgr1.block p (by simpa using hpl) (by simp)).trans e2
  have hw1 : Wo (fun x => x = p ∨ o = some x) w w1 := ((Wo.refl _ w).setCell p 0 (.int .i64 k) (.inl (.inl rfl))).grown hgr1 fun x e => by cases e
  have hol : ∀ b, o = some b → b < w.heap.size := fun b hb => h.mp.lt hb
  have HG : Hid _ := hg1
  have HP : Hid _ := hp1
  have HW : Hid _ := hw1
  clear h hg1 hp1 hw1 hgr1 e2 es
  go_enter Try.func23, Try.ntmps23
  go_wp2
  go_loopw [] (fun wr => ∃ left cnt, ∃ g : Int → Option Bool, Rg Try.kI wr o w.heap.size n (fun x => (g x).map noteV) left cnt ∧ (∀ x, g x = if left x = false ∧ x ≤ k then none else f x) ∧ wr.heap[p]? = some (.cells #[.int .i64 k, .map o, .int .i64 (cntT g : Nat)] 61 (0, 0)) ∧ Wo (fun x => x = p ∨ o = some x) w wr ∧ w.heap.size < wr.heap.size) (fun wr => leftIn wr o w.heap.size)
  case atStart =>
    refine ⟨_, _, f, HG.out, fun x => ?_, HP.out, HW.out, by omega⟩
    cases hx : f x <;> simp
  case round =>
    obtain ⟨left, cnt, g, hrg, hg, hp, hw, hsz⟩ := hrel
    clear HG HP HW c0 f0 c1 hr1
    have hcm := hrg.left_eq
    have HGF : Hid _ := hg
    clear hg
    go_wp2_with (first
      | (at_next; refine wpNext rfl _ rfl rfl hrg ?_ ?_)
      | fail)
    · intro hl
      have hg := HGF.out
      have hgf : g = fun x => if x ≤ k then none else f x := funext fun x => by rw [hg x, hl x]; simp
      have hP : Try.Pg wr p o n k g := ⟨hp, hrg.mp⟩
      have htd := Try.tidy_any hP
      rw [hgf] at htd
      have HW : Hid _ := hw
      clear hrg hg hp hw hcm hP hgf
      go_wp2_with (first
        | (go_at_call 26; refine htd.mono ?_; clear htd; rintro e w4 ⟨⟨v, rfl⟩, o4, hp4, ho4, _, hw4, hs4⟩)
        | fail)
      go_end0
      refine ⟨⟨_, rfl⟩, ⟨⟨o4, hp4, fun b hb => .inl ?_⟩, HW.out.step (fun x e => .inl (.inl e)) hw4⟩⟩
      rcases ho4 with e | e
      · rw [← e, hb]
      · rw [e] at hb; cases hb
    · intro x v w2 cnt2 hok hlx hfx hrg2 hlt hg2 hs2 hen
      have hg := HGF.out
      have hval : Try.kI.val x = .int .i64 x := rfl
      rw [hval] at hen ⊢
      have hp2 : w2.heap[p]? = some (.cells #[.int .i64 k, .map o, .int .i64 (cntT g : Nat)] 61 (0, 0)) := (hg2.block p (block_lt hp) (fun e => by injection e with e; omega)).trans hp
      have hw2 : Wo (fun x => x = p ∨ o = some x) w w2 := hw.grown hg2 fun x e => .inr (by injection e with e; omega)
      have c2 : w2.cell? ⟨p, 1, none⟩ = some (.map o) := cell_of_row _ _ 1 _ _ _ hp2
      by_cases hle : x ≤ k
      · obtain ⟨w3, cnt3, htk, hrg3, hle3, hp3, hw3, hs3⟩ := Try.take_in hrg2 hp2 hw2 hn hok hne hpl
        have hm3 : leftIn w3 o w.heap.size < leftIn wr o w.heap.size := by rw [hrg3.left_eq, hcm]; omega
        have hrel : ∃ left cnt, ∃ g : Int → Option Bool, Rg Try.kI w3 o w.heap.size n (fun x => (g x).map noteV) left cnt ∧ (∀ x, g x = if left x = false ∧ x ≤ k then none else f x) ∧ w3.heap[p]? = some (.cells #[.int .i64 k, .map o, .int .i64 (cntT g : Nat)] 61 (0, 0)) ∧ Wo (fun x => x = p ∨ o = some x) w w3 ∧ w.heap.size < w3.heap.size := by
          refine ⟨_, _, upd g x none, hrg3, fun y => ?_, hp3, hw3, by omega⟩
          by_cases e : y = x
          · subst e; simp [hle]
          · rw [upd_ne _ _ e, hg y]; simp [e]
        have HREL : Hid _ := hrel
        clear hrg hg hp hw hrg2 hg2 hp2 hw2 hrg3 hp3 hw3 hrel hcm
        go_wp2_with (first
          | (go_at_call 25; refine htk.mono ?_; clear htk; rintro e9 w9 ⟨⟨v9, rfl⟩, h9⟩; have h9 := h9.symm; subst h9)
          | fail)
        go_roundw
        case rel => exact HREL.out
        case measure => exact hm3
      · have hrel : ∃ left cnt, ∃ g : Int → Option Bool, Rg Try.kI w2 o w.heap.size n (fun x => (g x).map noteV) left cnt ∧ (∀ x, g x = if left x = false ∧ x ≤ k then none else f x) ∧ w2.heap[p]? = some (.cells #[.int .i64 k, .map o, .int .i64 (cntT g : Nat)] 61 (0, 0)) ∧ Wo (fun x => x = p ∨ o = some x) w w2 ∧ w.heap.size < w2.heap.size := by
          refine ⟨_, _, g, hrg2, fun y => ?_, hp2, hw2, by omega⟩
          rw [hg y]
          by_cases e : y = x
          · subst e; simp [hle]
          · simp [e]
        have hm3 : leftIn w2 o w.heap.size < leftIn wr o w.heap.size := by rw [hrg2.left_eq, hcm]; omega
        have HREL : Hid _ := hrel
        clear hrg hg hp hw hrg2 hg2 hp2 hw2 hrel hcm
        go_wp2
        go_roundw
        case rel => exact HREL.out
        case measure => exact hm3
set_option maxHeartbeats 1000000 in
set_option maxRecDepth 20000 in
theorem Try.put_any {w : World} {p : Nat} {o : Option Nat} {n : Nat} {m : Int} {f : Int → Option Bool} (h : Try.Pg w p o n m f) (hn : n < maxLen) (k : Int) (hk : (Lit.int .i64 k).wf = true) (hb : Bool) :
    Calls Try.prog 20 #[.pointer (some ⟨p, 0, none⟩), .int .i64 k, noteV hb] w fun e w' => (∃ v, e = .returned v) ∧ Try.PChg w w' p o (n + 1) m (upd f k (some hb)) := by
  have hmm := @run_makeMap Try.prog
  have heq := fun W r => run_eql_map_nil (P := Try.prog) W 59 3 56 r Try.uNotes
  have hpl := h.lt
  have htk := Try.take_any (Try.Pg.keep (w' := w.alloc (.cells #[.bool hb] 56)) h (Ct.alloc_old _ hpl) fun b hb => Ct.alloc_old _ (h.mp.lt hb)) (Nat.le_of_lt hn) k hk
  have HB : Hid (∀ W, Wo (fun x => x = p ∨ o = some x) (w.alloc (.cells #[.bool hb] 56)) W → W.cell? ⟨w.heap.size, 0, none⟩ = some (.bool hb)) := fun W hW => by
    have e : W.heap[w.heap.size]? = (w.alloc (.cells #[.bool hb] 56)).heap[w.heap.size]? := hW.block _ (by simp) (fun e => by
      rcases e with e | e
      · omega
      · have := h.mp.lt e; omega)
    exact cell_of_row _ _ 0 _ _ _ (e.trans (heap_alloc_new w _))
  have HPL : Hid (p < w.heap.size) := hpl
  have HBL : Hid (∀ b, o = some b → b < w.heap.size) := fun b e => h.mp.lt e
  clear h hpl
  unfold noteV at *
  go_enter Try.func20, Try.ntmps20
  go_upto_region 2 with (fail)
  refine htk.mono ?_
  clear htk
  rintro e1 w1 ⟨⟨v1, rfl⟩, hp1, hw1, hs1⟩
  have HP1 : Hid (Try.Pg w1 p o n m (upd f k none)) := hp1
  have HW1 : Hid (Wo (fun x => x = p ∨ o = some x) (w.alloc (.cells #[.bool hb] 56)) w1) := hw1
  have HS1 : Hid (w1.heap.size = w.heap.size + 1) := hs1.trans (Ct.alloc_size _ _)
  clear hp1 hw1 hs1
  go_upto_region 2 with (fail)
  have k1 : w1.cell? ⟨p, 1, none⟩ = some (.map o) := cell_of_row _ _ 1 _ _ _ HP1.out.bl
  have f1 : w1.frozen? ⟨p, 1, none⟩ = false := frozen_of_row _ _ 1 _ _ HP1.out.bl
  have hpw := block_lt HP1.out.bl
  have hle := Try.cnt_le HP1.out.mp
  have e1 : IntKind.i64.wrap ((cntT (upd f k none) : Int) + 1) = ((cntT (upd f k none) + 1 : Nat) : Int) := by rw [IntKind.wrap_i64]; unfold maxLen at hn; omega
  have hHW : Wo (fun x => x = p ∨ o = some x) w w1 := ((Wo.refl _ w).alloc _).trans HW1.out
  cases o with
  | none =>
    have k2 : (w1.alloc (.map #[] 0)).cell? ⟨p, 1, none⟩ = some (.map none) := (World.cell?_of_block (w := w1) (Ct.alloc_old _ hpw)).trans k1
    have f2 : (w1.alloc (.map #[] 0)).frozen? ⟨p, 1, none⟩ = false := (World.frozen?_of_block (w := w1) (Ct.alloc_old _ hpw)).trans f1
    go_upto_region 4 with (fail)
    obtain ⟨B, hB⟩ : ∃ B, B = w1.heap.size := ⟨_, rfl⟩
    obtain ⟨W2, hW2⟩ : ∃ W2, W2 = (w1.setCell ⟨p, 1, none⟩ (.map (some B))).alloc (.map #[] 0) := ⟨_, rfl⟩
    have hsz : (w1.setCell ⟨p, 1, none⟩ (.map (some B))).heap.size = w1.heap.size := by simp
    have hBp : B ≠ p := by omega
    have hBx : B ≠ w.heap.size := by have := HS1.out; omega
    have b2 : W2.heap[p]? = some (.cells #[.int .i64 m, .map (some B), .int .i64 (cntT (upd f k none) : Nat)] 61 (0, 0)) := by
      rw [hW2]
      exact (Ct.alloc_old _ (by rw [hsz]; exact hpw)).trans (heap_setCell_same w1 p 1 #[.int .i64 m, .map none, .int .i64 (cntT (upd f k none) : Nat)] 61 (.map (some B)) HP1.out.bl)
    have hf0 : ∀ x, upd f k none x = none := fun x => by
      rcases HP1.out.mp.ex with ⟨_, h1⟩ | ⟨b, D, h1, _⟩
      · simpa using h1 x
      · cases h1
    have m2 : Mp Try.kI W2 (some B) 0 (fun x => (upd f k none x).map noteV) := by
      have h := Mp.made Try.kI (w1.setCell ⟨p, 1, none⟩ (.map (some B)))
      rw [hsz, ← hB] at h
      rw [hW2]
      exact h.cong fun x => by rw [hf0 x]; rfl
    have HW2 : Hid (Wo (fun x => x = p ∨ none = some x) w W2) := by rw [hW2]; exact (hHW.setCell p 1 _ (.inl (.inl rfl))).alloc _
    have k3 : W2.cell? ⟨w.heap.size, 0, none⟩ = some (.bool hb) := HB.out W2 (by rw [hW2]; exact (HW1.out.setCell p 1 _ (.inl (.inl rfl))).alloc _)
    have HO : Hid (∀ b, some B = some b → none = some b ∨ w.heap.size ≤ b) := fun b e => .inr (by injection e with e; have := HS1.out; omega)
    have HBO : Hid (∀ x, some B = some x → (x = p ∨ none = some x) ∨ w.heap.size ≤ x) := fun x e => .inr (by injection e with e; have := HS1.out; omega)
    rw [← hB, ← hW2]
    clear hW2 k2 f2 hf0 hHW hsz hB
    have hpB : (some p : Option Nat) ≠ some B := fun e => hBp (by injection e with e; exact e.symm)
    have hxB : (some w.heap.size : Option Nat) ≠ some B := fun e => hBx (by injection e with e; exact e.symm)
    have c1 : W2.cell? ⟨p, 1, none⟩ = some (.map (some B)) := cell_of_row _ _ 1 _ _ _ b2
    obtain ⟨W3, hrun, hM3, htu⟩ := (m2.keep (w' := W2.drew) fun x hx => rfl).store Try.uNotes (by omega) (x := k) hk (noteV hb)
    have hr : (Instr.mapUpdate 59 (.map (some B)) (.int .i64 k) (.agg #[.bool hb])).run Try.prog W2.drew = .ok () W3 := hrun
    have hg : W2.drew.grownBy W3 (some B) := htu.grown
    have hp3 : W3.heap[p]? = some (.cells #[.int .i64 m, .map (some B), .int .i64 (cntT (upd f k none) : Nat)] 61 (0, 0)) := (hg.block p (block_lt b2) hpB).trans b2
    have k4 : W3.cell? ⟨w.heap.size, 0, none⟩ = some (.bool hb) := (World.cell?_of_block (w := W2) (hg.block w.heap.size (by have := HW2.out.size; have := World.block_lt_of_cell? _ _ k3; exact this) hxB)).trans k3
    have c5 : W3.cell? ⟨p, 2, none⟩ = some (.int .i64 (cntT (upd f k none) : Nat)) := cell_of_row _ _ 2 _ _ _ hp3
    have f5 : W3.frozen? ⟨p, 2, none⟩ = false := frozen_of_row _ _ 2 _ _ hp3
    have HM : Hid (Mp Try.kI W3 (some B) (n + 1) (fun x => (upd (upd f k none) k (some hb) x).map noteV)) := (hM3.mono (by omega)).cong fun x => by by_cases e : x = k <;> simp [upd, e]
    have HG : Hid (W2.drew.grownBy W3 (some B)) := hg
    have HP3 : Hid _ := hp3
    clear hrun hM3 htu hg hp3 b2 m2 k1 f1
    unfold noteV at *
    cases hb with
    | true =>
      go_region
      go_wp2
      go_end0
      have e2 : (W3.setCell ⟨p, 2, none⟩ (.int .i64 ((cntT (upd f k none) : Int) + 1))).heap[p]? = some (.cells #[.int .i64 m, .map (some B), .int .i64 (cntT (upd (upd f k none) k (some true)) : Nat)] 61 (0, 0)) := by
        have h := heap_setCell_same W3 p 2 #[.int .i64 m, .map (some B), .int .i64 (cntT (upd f k none) : Nat)] 61 (.int .i64 ((cntT (upd f k none) : Int) + 1)) HP3.out
        rw [cntT_up (f := upd f k none) (k := k) (by simp) (Try.fin HP1.out.mp), show ((cntT (upd f k none) + 1 : Nat) : Int) = (cntT (upd f k none) : Int) + 1 by omega]
        exact h
      refine ⟨⟨_, rfl⟩, ⟨⟨some B, ⟨?_, ?_⟩, HO.out⟩, ?_⟩⟩
      · rw [← Ct.upd_twice f k none (some true)]; exact e2
      · rw [← Ct.upd_twice f k none (some true)]
        exact HM.out.keep fun x hx => Below.heap_setCell _ ⟨p, 2, none⟩ _ _ (fun e => hBp (by injection hx with hx; rw [hx]; exact e))
      · exact (HW2.out.drew.grown HG.out HBO.out).setCell p 2 _ (.inl (.inl rfl))
    | false =>
      go_region
      go_wp2
      go_end0
      refine ⟨⟨_, rfl⟩, ⟨⟨some B, ⟨?_, ?_⟩, HO.out⟩, ?_⟩⟩
      · have e3 : cntT (upd f k (some false)) = cntT (upd f k none) := by
          rw [← Ct.upd_twice f k none (some false)]
          exact cntT_same (by simp) (by simp) (Try.fin HP1.out.mp)
        rw [e3]; exact HP3.out
      · rw [← Ct.upd_twice f k none (some false)]; exact HM.out
      · exact HW2.out.drew.grown HG.out HBO.out
  | some b =>
    obtain ⟨B, hB⟩ : ∃ B, B = b := ⟨_, rfl⟩
    subst hB
    obtain ⟨W2, hW2⟩ : ∃ W2, W2 = w1 := ⟨_, rfl⟩
    subst hW2
    have hBp : B ≠ p := fun e => HP1.out.ne (by rw [e])
    have hBx : B ≠ w.heap.size := fun e => by have := HBL.out B rfl; omega
    have b2 := HP1.out.bl
    have m2 : Mp Try.kI W2 (some B) n (fun x => (upd f k none x).map noteV) := HP1.out.mp
    have HW2 : Hid (Wo (fun x => x = p ∨ some B = some x) w W2) := hHW
    have k3 : W2.cell? ⟨w.heap.size, 0, none⟩ = some (.bool hb) := HB.out W2 HW1.out
    have HO : Hid (∀ b, some B = some b → some B = some b ∨ w.heap.size ≤ b) := fun b e => .inl e
    have HBO : Hid (∀ x, some B = some x → (x = p ∨ some B = some x) ∨ w.heap.size ≤ x) := fun x e => .inl (.inr e)
    go_upto_region 4 with (fail)
    clear hHW
    have hpB : (some p : Option Nat) ≠ some B := fun e => hBp (by injection e with e; exact e.symm)
    have hxB : (some w.heap.size : Option Nat) ≠ some B := fun e => hBx (by injection e with e; exact e.symm)
    have c1 : W2.cell? ⟨p, 1, none⟩ = some (.map (some B)) := cell_of_row _ _ 1 _ _ _ b2
    obtain ⟨W3, hrun, hM3, htu⟩ := (m2.keep (w' := W2.drew) fun x hx => rfl).store Try.uNotes (by omega) (x := k) hk (noteV hb)
    have hr : (Instr.mapUpdate 59 (.map (some B)) (.int .i64 k) (.agg #[.bool hb])).run Try.prog W2.drew = .ok () W3 := hrun
    have hg : W2.drew.grownBy W3 (some B) := htu.grown
    have hp3 : W3.heap[p]? = some (.cells #[.int .i64 m, .map (some B), .int .i64 (cntT (upd f k none) : Nat)] 61 (0, 0)) := (hg.block p (block_lt b2) hpB).trans b2
    have k4 : W3.cell? ⟨w.heap.size, 0, none⟩ = some (.bool hb) := (World.cell?_of_block (w := W2) (hg.block w.heap.size (by have := HW2.out.size; have := World.block_lt_of_cell? _ _ k3; exact this) hxB)).trans k3
    have c5 : W3.cell? ⟨p, 2, none⟩ = some (.int .i64 (cntT (upd f k none) : Nat)) := cell_of_row _ _ 2 _ _ _ hp3
    have f5 : W3.frozen? ⟨p, 2, none⟩ = false := frozen_of_row _ _ 2 _ _ hp3
    have HM : Hid (Mp Try.kI W3 (some B) (n + 1) (fun x => (upd (upd f k none) k (some hb) x).map noteV)) := (hM3.mono (by omega)).cong fun x => by by_cases e : x = k <;> simp [upd, e]
    have HG : Hid (W2.drew.grownBy W3 (some B)) := hg
    have HP3 : Hid _ := hp3
    clear hrun hM3 htu hg hp3 b2 m2 k1 f1
    unfold noteV at *
    cases hb with
    | true =>
      go_region
      go_wp2
      go_end0
      have e2 : (W3.setCell ⟨p, 2, none⟩ (.int .i64 ((cntT (upd f k none) : Int) + 1))).heap[p]? = some (.cells #[.int .i64 m, .map (some B), .int .i64 (cntT (upd (upd f k none) k (some true)) : Nat)] 61 (0, 0)) := by
        have h := heap_setCell_same W3 p 2 #[.int .i64 m, .map (some B), .int .i64 (cntT (upd f k none) : Nat)] 61 (.int .i64 ((cntT (upd f k none) : Int) + 1)) HP3.out
        rw [cntT_up (f := upd f k none) (k := k) (by simp) (Try.fin HP1.out.mp), show ((cntT (upd f k none) + 1 : Nat) : Int) = (cntT (upd f k none) : Int) + 1 by omega]
        exact h
      refine ⟨⟨_, rfl⟩, ⟨⟨some B, ⟨?_, ?_⟩, HO.out⟩, ?_⟩⟩
      · rw [← Ct.upd_twice f k none (some true)]; exact e2
      · rw [← Ct.upd_twice f k none (some true)]
        exact HM.out.keep fun x hx => Below.heap_setCell _ ⟨p, 2, none⟩ _ _ (fun e => hBp (by injection hx with hx; rw [hx]; exact e))
      · exact (HW2.out.drew.grown HG.out HBO.out).setCell p 2 _ (.inl (.inl rfl))
    | false =>
      go_region
      go_wp2
      go_end0
      refine ⟨⟨_, rfl⟩, ⟨⟨some B, ⟨?_, ?_⟩, HO.out⟩, ?_⟩⟩
      · have e3 : cntT (upd f k (some false)) = cntT (upd f k none) := by
          rw [← Ct.upd_twice f k none (some false)]
          exact cntT_same (by simp) (by simp) (Try.fin HP1.out.mp)
        rw [e3]; exact HP3.out
      · rw [← Ct.upd_twice f k none (some false)]; exact HM.out
      · exact HW2.out.drew.grown HG.out HBO.out
end Go.Proofs
