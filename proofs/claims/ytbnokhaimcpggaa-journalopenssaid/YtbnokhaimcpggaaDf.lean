/-
  has, fail, blows; Alive, Blocks, Falls, Costs, Restart.
-/
import Derived.Test.YtbnokhaimcpggaaDs
namespace Go.Proofs
open Go.RowKit Go.Dk
theorem Try.has_any {w : World} {x l t : Nat} {V : Value} {s : DS} {T : List Nat} (h : Try.Mem w x l t V s T) (i : Int) :
    Calls Try.prog 20 #[.pointer (some ⟨x, 0, none⟩), .int .i64 i] w fun e w' => e = .returned (.bool (decide (0 ≤ i ∧ i < s.n))) ∧ w' = w := by
  have c0 : w.cell? ⟨x, 0, none⟩ = some (.slice (some ⟨l, 0, none⟩) s.n s.n) := h.c0 0 _ rfl
  clear h
  by_cases h1 : 0 ≤ i
  · by_cases h2 : i < s.n
    · go_enter Try.func20, Try.ntmps20
      go_wp2
      go_ret
      simp [h1, h2]
    · go_enter Try.func20, Try.ntmps20
      go_wp2
      go_ret
      simp [h2]
  · go_enter Try.func20, Try.ntmps20
    go_wp2
    go_ret
    simp
    omega
theorem Try.alive_any {w : World} {x l t : Nat} {V : Value} {s : DS} {T : List Nat} (h : Try.Mem w x l t V s T) :
    Calls Try.prog 28 #[.pointer (some ⟨x, 0, none⟩)] w fun e w' => e = .returned (.bool (!s.dead)) ∧ w' = w := by
  have c0 : w.cell? ⟨x, 3, none⟩ = some (.bool s.dead) := h.c0 3 _ rfl
  clear h
  go_enter Try.func28, Try.ntmps28
  go_wp2
  go_ret
  exact ⟨rfl, rfl⟩
theorem Try.blocks_any {w : World} {x l t : Nat} {V : Value} {s : DS} {T : List Nat} (h : Try.Mem w x l t V s T) :
    Calls Try.prog 94 #[.pointer (some ⟨x, 0, none⟩)] w fun e w' => e = .returned (.int .i64 s.n) ∧ w' = w := by
  have c0 : w.cell? ⟨x, 0, none⟩ = some (.slice (some ⟨l, 0, none⟩) s.n s.n) := h.c0 0 _ rfl
  clear h
  go_enter Try.func94, Try.ntmps94
  go_wp2
  go_ret
  exact ⟨rfl, rfl⟩
theorem Try.falls_any {w : World} {x l t : Nat} {V : Value} {s : DS} {T : List Nat} (h : Try.Mem w x l t V s T) :
    Calls Try.prog 30 #[.pointer (some ⟨x, 0, none⟩)] w fun e w' => e = .returned (.int .i64 s.falls) ∧ w' = w := by
  have c0 : w.cell? ⟨x, 10, none⟩ = some (.int .i64 s.falls) := h.c0 10 _ rfl
  clear h
  go_enter Try.func30, Try.ntmps30
  go_wp2
  go_ret
  exact ⟨rfl, rfl⟩
theorem Try.costs_any {w : World} {x l t : Nat} {V : Value} {s : DS} {T : List Nat} (h : Try.Mem w x l t V s T) :
    Calls Try.prog 26 #[.pointer (some ⟨x, 0, none⟩)] w fun e w' => e = .returned (.tuple #[.int .i64 s.wrote, .int .i64 s.synced]) ∧ ∃ n, w' = w.drewN n := by
  have c0 : w.cell? ⟨x, 8, none⟩ = some (.int .i64 s.wrote) := h.c0 8 _ rfl
  have c1 : w.cell? ⟨x, 9, none⟩ = some (.int .i64 s.synced) := h.c0 9 _ rfl
  clear h
  go_enter Try.func26, Try.ntmps26
  go_wp2
  go_quiet (fail)
  go_wp2
  go_ret2
  exact ⟨rfl, _, rfl⟩
set_option maxHeartbeats 1000000 in
theorem Try.restart_any {w : World} {x l t : Nat} {V : Value} {s : DS} {T : List Nat} (h : Try.Mem w x l t V s T) :
    Calls Try.prog 42 #[.pointer (some ⟨x, 0, none⟩)] w fun e w' => (∃ v, e = .returned v) ∧ Try.Mem w' x l t V s.restart T ∧ Dk.Wo (fun k => k = x) w w' := by
  have c3 : w.cell? ⟨x, 3, none⟩ = some (.bool s.dead) := h.c0 3 _ rfl
  have c4 : w.cell? ⟨x, 4, none⟩ = some (.bool s.fset) := h.c0 4 _ rfl
  have c5 : w.cell? ⟨x, 5, none⟩ = some (.int .i64 s.fl) := h.c0 5 _ rfl
  have c6 : w.cell? ⟨x, 6, none⟩ = some (.int .i64 s.fk) := h.c0 6 _ rfl
  have c7 : w.cell? ⟨x, 7, none⟩ = some (.int .i64 s.ft) := h.c0 7 _ rfl
  have f3 := h.f0 3
  have f4 := h.f0 4
  have f5 := h.f0 5
  have f6 := h.f0 6
  have f7 := h.f0 7
  have HH : Hid (Try.Mem w x l t V s T) := h
  clear h
  go_enter Try.func42, Try.ntmps42
  go_wp2
  go_end0
  have h1 := (((((HH.out.setF 3 (.bool false) (s' := { s with dead := false }) rfl rfl rfl rfl).setF 4 (.bool false) (s' := { s with dead := false, fset := false }) rfl rfl rfl rfl).setF 5 (.int .i64 0) (s' := { s with dead := false, fset := false, fl := 0 }) rfl rfl rfl rfl).setF 6 (.int .i64 0) (s' := { s with dead := false, fset := false, fl := 0, fk := 0 }) rfl rfl rfl rfl).setF 7 (.int .i64 0) (s' := s.restart) rfl rfl rfl rfl)
  exact ⟨⟨_, rfl⟩, h1, (((((Dk.Wo.refl (fun k => k = x) w).setCell x 3 _ (.inl rfl)).setCell x 4 _ (.inl rfl)).setCell x 5 _ (.inl rfl)).setCell x 6 _ (.inl rfl)).setCell x 7 _ (.inl rfl)⟩
/-- What the power's fall leaves of the disk's own cells. -/
theorem Try.fallen {w : World} {x l t : Nat} {s : DS} {T : List Nat} (h : Try.Mem w x l t (.slice none 0 0) s T) (hW : s.W = []) (L : List UInt8) (hL : L = s.L) (n : Nat) (hn : n = s.falls + 1) :
    Try.Mem ((((((w.setCell ⟨x, 4, none⟩ (.bool false)).setCell ⟨x, 5, none⟩ (.int .i64 0)).setCell ⟨x, 6, none⟩ (.int .i64 0)).setCell ⟨x, 7, none⟩ (.int .i64 0)).setCell ⟨x, 3, none⟩ (.bool true)).setCell ⟨x, 10, none⟩ (.int .i64 n)) x l t (.slice none 0 0) { s with L := L, W := [], dead := true, fset := false, fl := 0, fk := 0, ft := 0, falls := s.falls + 1 } T := by
  subst hL hn
  obtain ⟨n, L, W, dead, fset, fl, fk, ft, wrote, synced, falls, ct⟩ := s
  simp only at hW
  subst hW
  exact (((((h.setF 4 (.bool false) (s' := ⟨n, L, [], dead, false, fl, fk, ft, wrote, synced, falls, ct⟩) rfl rfl rfl rfl).setF 5 (.int .i64 0) (s' := ⟨n, L, [], dead, false, 0, fk, ft, wrote, synced, falls, ct⟩) rfl rfl rfl rfl).setF 6 (.int .i64 0) (s' := ⟨n, L, [], dead, false, 0, 0, ft, wrote, synced, falls, ct⟩) rfl rfl rfl rfl).setF 7 (.int .i64 0) (s' := ⟨n, L, [], dead, false, 0, 0, 0, wrote, synced, falls, ct⟩) rfl rfl rfl rfl).setF 3 (.bool true) (s' := ⟨n, L, [], true, false, 0, 0, 0, wrote, synced, falls, ct⟩) rfl rfl rfl rfl).setF 10 (.int .i64 ((falls + 1 : Nat) : Int)) (s' := ⟨n, L, [], true, false, 0, 0, 0, wrote, synced, falls + 1, ct⟩) rfl rfl rfl rfl
theorem Dk.kept_int (k : Int) (n : Nat) : min (max k 0) (n : Int) = ((kept k n : Nat) : Int) := by unfold kept; omega
theorem Dk.torn_int (k : Int) : min (max k 0) 64 = ((tornN k : Nat) : Int) := by unfold tornN; omega
theorem Dk.kept_le (k : Int) (n : Nat) : kept k n ≤ n := Nat.min_le_right _ _
theorem Dk.torn_le (k : Int) : tornN k ≤ 64 := Nat.min_le_right _ _
set_option maxHeartbeats 1000000 in
theorem Try.fail_any {w : World} {x l t : Nat} {V : Value} {s : DS} {T : List Nat} (h : Try.Mem w x l t V s T) (hT : T = Dk.lats s.n s.W) (hf : s.falls < 1000000000) (k c : Int) :
    Calls Try.prog 58 #[.pointer (some ⟨x, 0, none⟩), .agg #[.int .i64 k, .int .i64 c]] w fun e w' => (∃ v, e = .returned v) ∧ Try.Mem w' x l t (.slice none 0 0) (s.fail k c) (Dk.lats s.n []) ∧ Dk.Wo (fun k => k = x ∨ k = l ∨ k = t) w w' := by
  have c1 : w.cell? ⟨x, 1, none⟩ = some V := h.c0 1 _ rfl
  have hxw : x < w.heap.size := Dk.block_lt h.hx
  obtain ⟨ad, cap, rfl⟩ : ∃ ad cap, V = .slice ad s.W.length cap := by
    rcases h.hv.2 with ⟨e1, e2⟩ | ⟨g, cap, cur, e1, _⟩
    · exact ⟨none, 0, by rw [e1, e2]⟩
    · exact ⟨_, _, e1⟩
  obtain ⟨m, hm⟩ : ∃ m, m = kept k s.W.length := ⟨_, rfl⟩
  obtain ⟨tn, htn⟩ : ∃ tn, tn = tornN c := ⟨_, rfl⟩
  have q0 : min (max k 0) (s.W.length : Int) = (m : Int) := by rw [hm]; exact Dk.kept_int _ _
  have q1 : min (max c 0) 64 = (tn : Int) := by rw [htn]; exact Dk.torn_int _
  have hml : m ≤ s.W.length := by rw [hm]; exact Dk.kept_le _ _
  have htl : tn ≤ 64 := by rw [htn]; exact Dk.torn_le _
  have hlw : l < w.heap.size := Dk.block_lt h.hl
  have hse : ∀ W : World, W.heap = (w.alloc (.cells #[.int .i64 k, .int .i64 c] 56)).heap → Calls Try.prog 81 #[.pointer (some ⟨x, 0, none⟩), .int .i64 m] W fun e w' => (∃ v, e = .returned v) ∧ Try.Mem w' x l t (.slice ad s.W.length cap) { s with L := sink s.L (s.W.take m) } T ∧ Dk.Wo (fun k => k = l) W w' := fun W hW =>
    Try.settle_any (h.keep fun k hk => by rw [hW]; exact Below.heap_alloc w _ k (h.foot_lt k hk)) m hml
  have HT : Hid (T = Dk.lats s.n s.W) := hT
  have HM : Hid (m = kept k s.W.length) := hm
  have HTN : Hid (tn = tornN c) := htn
  have HH : Hid (Try.Mem w x l t (.slice ad s.W.length cap) s T) := h
  clear h hT hm htn
  have Hend : Hid (∀ (w3 : World) (L : List UInt8), Try.Mem w3 x l t (.slice none 0 0) { s with L := L, W := [] } (Dk.wipe T s.W) → L = failL s.L s.W k c → Dk.Wo (fun k => k = x ∨ k = l ∨ k = t) w w3 →
      Try.Mem ((((((w3.setCell ⟨x, 4, none⟩ (.bool false)).setCell ⟨x, 5, none⟩ (.int .i64 0)).setCell ⟨x, 6, none⟩ (.int .i64 0)).setCell ⟨x, 7, none⟩ (.int .i64 0)).setCell ⟨x, 3, none⟩ (.bool true)).setCell ⟨x, 10, none⟩ (.int .i64 ((s.falls : Int) + 1))) x l t (.slice none 0 0) (s.fail k c) (Dk.lats s.n []) ∧
      Dk.Wo (fun k => k = x ∨ k = l ∨ k = t) w ((((((w3.setCell ⟨x, 4, none⟩ (.bool false)).setCell ⟨x, 5, none⟩ (.int .i64 0)).setCell ⟨x, 6, none⟩ (.int .i64 0)).setCell ⟨x, 7, none⟩ (.int .i64 0)).setCell ⟨x, 3, none⟩ (.bool true)).setCell ⟨x, 10, none⟩ (.int .i64 ((s.falls : Int) + 1)))) := fun w3 L hm3 hL hw3 => by
    rw [HT.out, Dk.wipe_lats] at hm3
    refine ⟨?_, (((((hw3.setCell x 4 _ (.inl (.inl rfl))).setCell x 5 _ (.inl (.inl rfl))).setCell x 6 _ (.inl (.inl rfl))).setCell x 7 _ (.inl (.inl rfl))).setCell x 3 _ (.inl (.inl rfl))).setCell x 10 _ (.inl (.inl rfl))⟩
    subst hL
    exact Try.fallen hm3 rfl _ rfl (s.falls + 1) rfl
  have Hbox : Hid (∀ (W w1 : World), W.heap = (w.alloc (.cells #[.int .i64 k, .int .i64 c] 56)).heap → W.os = w.os → W.tape = w.tape → W.output = w.output → Dk.Wo (fun k => k = l) W w1 → w1.cell? ⟨w.heap.size, 1, none⟩ = some (.int .i64 c) ∧ Dk.Wo (fun k => k = l) w w1) := fun W w1 hW h2 h3 h4 hw => by
    have h5 := (Dk.Wo.refl (fun k => k = l) w).alloc (.cells #[.int .i64 k, .int .i64 c] 56)
    refine ⟨?_, (h5.eqv hW h2 h3 h4).trans hw⟩
    have h6 : w1.heap[w.heap.size]? = some (.cells #[.int .i64 k, .int .i64 c] 56 (0, 0)) := by
      rw [hw.block _ (by rw [hW]; simp) (by show ¬ (_ = l); omega), hW]
      exact heap_alloc_new w _
    rw [cell_of_row _ _ _ _ _ _ h6]; rfl
  by_cases hlt : m < s.W.length
  · have q2 : (m : Int) < (s.W.length : Int) := by omega
    obtain ⟨g, cap', e, -, hgw⟩ := HH.out.hv.form (by omega)
    cases e
    obtain ⟨p, hp⟩ : ∃ p, s.W[m]? = some p := ⟨_, List.getElem?_eq_getElem hlt⟩
    have hgp := HH.out.good p (List.mem_of_getElem? hp)
    obtain ⟨a, bs⟩ := p
    simp only at hgp
    have q3 : (a : Int) < (s.n : Int) := by omega
    have hwr : ∀ w1 : World, Try.Mem w1 x l t (.slice (some ⟨g, 0, none⟩) s.W.length cap) { s with L := sink s.L (s.W.take m) } T → w1.cell? ⟨g, m * 65, none⟩ = some (.int .i64 a) ∧ w1.cell? ⟨x, 0, none⟩ = some (.slice (some ⟨l, 0, none⟩) s.n s.n) ∧
        (∀ W : World, W.heap = w1.heap → ∀ ty, (Builtin.copy_ #[22, 22] ty #[.slice (some ⟨l, a * 64, none⟩) tn 64, .slice (some ⟨g, m * 65 + 1, none⟩) 64 64]).run Try.prog W = .ok (goInt (Lib.byteCells (bs.take tn)).length) (W.setCells l (a * 64) (Lib.byteCells (bs.take tn)))) := fun w1 hm1 => by
      refine ⟨by have := Dk.wcell hm1.hv hm1.good hp 0 (by omega); simpa [Dk.wrC] using this, hm1.c0 0 _ rfl, fun W hW ty => ?_⟩
      have hm' := hm1.eqv hW
      have hlb : (bs.take tn).length = tn := by rw [List.length_take, hgp.2]; omega
      refine Try.copyB W ty l (a * 64) tn 64 g (m * 65 + 1) 64 64 (bs.take tn) (by rw [hlb]; exact (Nat.min_eq_right htl).symm) (fun j v hj => ?_) (fun j hj => ?_) (fun j => frozen_of_row _ _ _ _ _ hm'.hl)
      · have hj64 := (List.getElem?_eq_some_iff.1 hj).1
        rw [Dk.byteCells_len, hlb] at hj64
        rw [show m * 65 + 1 + j = m * 65 + (j + 1) by omega, Dk.wcell hm'.hv hm'.good hp (j + 1) (by omega)]
        simp only [Lib.byteCells, List.map_take, List.getElem?_take, if_pos hj64] at hj
        simpa [Dk.wrC, Lib.byteCells] using hj
      · have h1 := hm'.lL
        rw [hlb] at hj
        rw [cell_of_row _ _ _ _ _ _ hm'.hl]
        simp only [List.getElem?_toArray]
        rw [List.getElem?_eq_getElem (by rw [Dk.byteCells_len, h1]; have := hgp.1; simp only at this ⊢; omega)]; rfl
    have Hnext : Hid (∀ w1 W : World, Try.Mem w1 x l t (.slice (some ⟨g, 0, none⟩) s.W.length cap) { s with L := sink s.L (s.W.take m) } T → W.heap = w1.heap → Try.Mem (W.setCells l (a * 64) (Lib.byteCells (bs.take tn))) x l t (.slice (some ⟨g, 0, none⟩) s.W.length cap) { s with L := failL s.L s.W k c } T) := fun w1 W hm1 hW => by
      have h1 := (hm1.eqv hW).setL a (bs.take tn) (by have := hgp.1; simp only [List.length_take] at this ⊢; omega)
      have e : put (sink s.L (s.W.take m)) a (bs.take tn) = failL s.L s.W k c := by
        unfold failL
        rw [← HM.out, List.drop_eq_getElem_cons hlt, (List.getElem?_eq_some_iff.1 hp).2, HTN.out]
      rw [← e]; exact h1
    have q5 : (tn : Int) ≤ 64 := by omega
    have q6 : (0 : Int) ≤ (tn : Int) := by omega
    clear hp hgp
    go_enter Try.func58, Try.ntmps58
    go_wp2
    go_region
    all_goals
      go_wp2_with (first
        | (go_at_call 81; refine (hse _ (by rfl)).mono ?_; clear hse; rintro e w1 ⟨⟨v, rfl⟩, hM1, hW1⟩; have d1 : w1.cell? ⟨x, 1, none⟩ = some (.slice (some ⟨g, 0, none⟩) s.W.length cap) := hM1.c0 1 _ rfl; obtain ⟨d2, hW1'⟩ := Hbox.out _ _ (by rfl) (by rfl) (by rfl) (by rfl) hW1; obtain ⟨d3, d4, hcp⟩ := hwr _ hM1; clear hW1 hwr)
        | fail)
      go_region_law (refine step_copy_runI rfl _ _ 22 22 rfl (.slice (some ⟨l, a * 64, none⟩) tn 64) (.slice (some ⟨g, m * 65 + 1, none⟩) 64 64) (by simp [Act.eval, Act.put]) (by simp [Act.eval, Act.put]) (hcp _ (by rfl) _) ?_)
      all_goals
        clear hcp
        have HM1 : Hid _ := hM1
        have HW1 : Hid (Dk.Wo (fun k => k = l) w w1) := hW1'
        clear hM1 hW1' d1 d2 d3 d4
        go_wp2_with (first
          | (go_at_call 82; refine (Try.forget_any (Hnext.out w1 _ HM1.out (by rfl))).mono ?_; rintro e w3 ⟨⟨v3, rfl⟩, hM3, hW3⟩; have e3 : w3.cell? ⟨x, 3, none⟩ = some (.bool s.dead) := hM3.c0 3 _ rfl; have g3 := hM3.f0 3; have e4 : w3.cell? ⟨x, 4, none⟩ = some (.bool s.fset) := hM3.c0 4 _ rfl; have g4 := hM3.f0 4; have e5 : w3.cell? ⟨x, 5, none⟩ = some (.int .i64 s.fl) := hM3.c0 5 _ rfl; have g5 := hM3.f0 5; have e6 : w3.cell? ⟨x, 6, none⟩ = some (.int .i64 s.fk) := hM3.c0 6 _ rfl; have g6 := hM3.f0 6; have e7 : w3.cell? ⟨x, 7, none⟩ = some (.int .i64 s.ft) := hM3.c0 7 _ rfl; have g7 := hM3.f0 7; have e10 : w3.cell? ⟨x, 10, none⟩ = some (.int .i64 s.falls) := hM3.c0 10 _ rfl; have g10 := hM3.f0 10)
          | fail)
        go_end0
        have hW4 : Dk.Wo (fun k => k = x ∨ k = l ∨ k = t) w w3 := (Dk.Wo.setCells ((HW1.out.mono (fun k e => .inr (.inl e))).eqv (by rfl) (by rfl) (by rfl) (by rfl)) l _ _ (.inl (.inr (.inl rfl)))).trans (hW3.mono (fun k e => by rcases e with e | e; exact .inl e; exact .inr (.inr e)))
        exact ⟨⟨_, rfl⟩, Hend.out w3 _ hM3 rfl hW4⟩
  · have q2 : ¬ (m : Int) < (s.W.length : Int) := by omega
    have HML : Hid (m = s.W.length) := by have : m = s.W.length := by omega
                                          exact this
    have Hnext : Hid (∀ w1 W : World, Try.Mem w1 x l t (.slice ad s.W.length cap) { s with L := sink s.L (s.W.take m) } T → W.heap = w1.heap → Try.Mem W x l t (.slice ad s.W.length cap) { s with L := failL s.L s.W k c } T) := fun w1 W hm1 hW => by
      have h1 := hm1.eqv hW
      have e : sink s.L (s.W.take m) = failL s.L s.W k c := by
        unfold failL
        rw [← HM.out, List.drop_of_length_le (by omega)]
      rw [← e]; exact h1
    go_enter Try.func58, Try.ntmps58
    go_wp2
    go_region
    all_goals
      go_wp2_with (first
        | (go_at_call 81; refine (hse _ (by rfl)).mono ?_; clear hse; rintro e w1 ⟨⟨v, rfl⟩, hM1, hW1⟩; have d1 : w1.cell? ⟨x, 1, none⟩ = some (.slice ad s.W.length cap) := hM1.c0 1 _ rfl; obtain ⟨-, hW1'⟩ := Hbox.out _ _ (by rfl) (by rfl) (by rfl) (by rfl) hW1; clear hW1)
        | (go_at_call 82; refine (Try.forget_any (Hnext.out w1 _ hM1 (by rfl))).mono ?_; rintro e w3 ⟨⟨v3, rfl⟩, hM3, hW3⟩; have e3 : w3.cell? ⟨x, 3, none⟩ = some (.bool s.dead) := hM3.c0 3 _ rfl; have g3 := hM3.f0 3; have e4 : w3.cell? ⟨x, 4, none⟩ = some (.bool s.fset) := hM3.c0 4 _ rfl; have g4 := hM3.f0 4; have e5 : w3.cell? ⟨x, 5, none⟩ = some (.int .i64 s.fl) := hM3.c0 5 _ rfl; have g5 := hM3.f0 5; have e6 : w3.cell? ⟨x, 6, none⟩ = some (.int .i64 s.fk) := hM3.c0 6 _ rfl; have g6 := hM3.f0 6; have e7 : w3.cell? ⟨x, 7, none⟩ = some (.int .i64 s.ft) := hM3.c0 7 _ rfl; have g7 := hM3.f0 7; have e10 : w3.cell? ⟨x, 10, none⟩ = some (.int .i64 s.falls) := hM3.c0 10 _ rfl; have g10 := hM3.f0 10)
        | fail)
      go_end0
      have hW4 : Dk.Wo (fun k => k = x ∨ k = l ∨ k = t) w w3 := (hW1'.mono (fun k e => .inr (.inl e))).trans (hW3.mono (fun k e => by rcases e with e | e; exact .inl e; exact .inr (.inr e)))
      exact ⟨⟨_, rfl⟩, Hend.out w3 _ hM3 rfl hW4⟩
end Go.Proofs
