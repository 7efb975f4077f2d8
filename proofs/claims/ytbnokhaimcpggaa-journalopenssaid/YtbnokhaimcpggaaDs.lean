/-
  settle, forget.
-/
import Derived.Test.YtbnokhaimcpggaaDw
namespace Go.Proofs
open Go.RowKit Go.Dk
set_option maxHeartbeats 1000000 in
theorem Try.settle_any {w : World} {x l t : Nat} {V : Value} {s : DS} {T : List Nat} (h : Try.Mem w x l t V s T) (n : Nat) (hn : n ≤ s.W.length) :
    Calls Try.prog 81 #[.pointer (some ⟨x, 0, none⟩), .int .i64 n] w fun e w' => (∃ v, e = .returned v) ∧ Try.Mem w' x l t V { s with L := sink s.L (s.W.take n) } T ∧ Dk.Wo (fun k => k = l) w w' := by
  have c1 : w.cell? ⟨x, 1, none⟩ = some V := h.c0 1 _ rfl
  rcases h.hv.2 with ⟨e1, e2⟩ | ⟨g, cap, cur, e1, hb, hg, hcap, hmax, hcs, htk⟩
  · subst e1
    have hn0 : n = 0 := by omega
    subst hn0
    have HH : Hid (Try.Mem w x l t (.slice none 0 0) s T) := h
    clear h
    go_enter Try.func81, Try.ntmps81
    go_wp2
    go_loopw [13] (fun i wr => i = .int .i64 0 ∧ wr = w) (fun _ _ => 0)
    case atStart => exact ⟨rfl, rfl⟩
    case round =>
      obtain ⟨rfl, rfl⟩ := hrel
      go_wp2
      go_end0
      exact ⟨⟨_, rfl⟩, by simpa [sink] using HH.out, Dk.Wo.refl _ _⟩
  · subst e1
    have HH : Hid (Try.Mem w x l t (.slice (some ⟨g, 0, none⟩) s.W.length cap) s T) := h
    have hw1 := h.w1
    have q0 : (n : Int) ≤ (cap : Int) := by omega
    have q1 : (0 : Int) ≤ (n : Int) := by omega
    clear h hcs htk hg
    go_enter Try.func81, Try.ntmps81
    go_wp2
    go_loopw [13] (fun i wr => ∃ k : Nat, k ≤ n ∧ i = .int .i64 k ∧ Try.Mem wr x l t (.slice (some ⟨g, 0, none⟩) s.W.length cap) { s with L := sink s.L (s.W.take k) } T ∧ Dk.Wo (fun k => k = l) w wr) (fun i _ => n - (intOf i).toNat)
    case atStart => exact ⟨0, by omega, rfl, by simpa [sink] using HH.out, Dk.Wo.refl _ _⟩
    case round =>
      obtain ⟨k, hk, rfl, hm, hwo⟩ := hrel
      by_cases hkn : k < n
      · have q2 : (k : Int) < (n : Int) := by omega
        obtain ⟨p, hp⟩ : ∃ p, s.W[k]? = some p := ⟨_, List.getElem?_eq_getElem (by omega)⟩
        have hgp := hm.good p (List.mem_of_getElem? hp)
        have d0 : wr.cell? ⟨x, 0, none⟩ = some (.slice (some ⟨l, 0, none⟩) s.n s.n) := hm.c0 0 _ rfl
        have d1 : wr.cell? ⟨x, 1, none⟩ = some (.slice (some ⟨g, 0, none⟩) s.W.length cap) := hm.c0 1 _ rfl
        have d2 : wr.cell? ⟨g, k * 65, none⟩ = some (.int .i64 p.1) := by have := Dk.wcell hm.hv hm.good hp 0 (by omega); simpa [Dk.wrC] using this
        have q3 : (k : Int) < (s.W.length : Int) := by omega
        have q4 : (p.1 : Int) < (s.n : Int) := by have : p.1 < s.n := hgp.1; omega
        obtain ⟨a, bs⟩ := p
        simp only at d2 q4 hgp
        have hcp : ∀ (W : World), W.heap = wr.heap → ∀ ty, (Builtin.copy_ #[22, 22] ty #[.slice (some ⟨l, a * 64, none⟩) 64 64, .slice (some ⟨g, k * 65 + 1, none⟩) 64 64]).run Try.prog W = .ok (goInt (Lib.byteCells bs).length) (W.setCells l (a * 64) (Lib.byteCells bs)) := fun W hW ty => by
          have hm' : Try.Mem W x l t (.slice (some ⟨g, 0, none⟩) s.W.length cap) { s with L := sink s.L (s.W.take k) } T := hm.keep fun k _ => by rw [hW]
          refine Try.copyB W ty l (a * 64) 64 64 g (k * 65 + 1) 64 64 bs (by rw [hgp.2]; rfl) (fun j v hj => ?_) (fun j hj => ?_) (fun j => frozen_of_row _ _ _ _ _ hm'.hl)
          · have hj64 := (List.getElem?_eq_some_iff.1 hj).1
            rw [Dk.byteCells_len, hgp.2] at hj64
            rw [show k * 65 + 1 + j = k * 65 + (j + 1) by omega, Dk.wcell hm'.hv hm'.good hp (j + 1) (by omega)]
            simpa [Dk.wrC] using hj
          · have h1 := hm'.lL
            rw [cell_of_row _ _ _ _ _ _ hm'.hl]
            simp only [List.getElem?_toArray]
            rw [List.getElem?_eq_getElem (by rw [Dk.byteCells_len, h1]; have := hgp.1; simp only at this ⊢; omega)]; rfl
        have Hnext : Hid (∀ W : World, W.heap = wr.heap → Try.Mem (W.setCells l (a * 64) (Lib.byteCells bs)) x l t (.slice (some ⟨g, 0, none⟩) s.W.length cap) { s with L := sink s.L (s.W.take (k + 1)) } T) := fun W hW => by
          have hm' : Try.Mem W x l t (.slice (some ⟨g, 0, none⟩) s.W.length cap) { s with L := sink s.L (s.W.take k) } T := hm.keep fun k _ => by rw [hW]
          have h1 := hm'.setL a bs (by have := hgp.1; simp only at this ⊢; omega)
          have e : put (sink s.L (s.W.take k)) a bs = sink s.L (s.W.take (k + 1)) := by rw [List.take_add_one, hp]; exact (sink_one _ _ (a, bs)).symm
          rw [← e]; exact h1
        have Hwo : Hid (∀ W : World, W.heap = wr.heap → W.os = wr.os → W.tape = wr.tape → W.output = wr.output → Dk.Wo (fun k => k = l) w (W.setCells l (a * 64) (Lib.byteCells bs))) := fun W h1 h2 h3 h4 =>
          Dk.Wo.setCells ⟨h2.trans hwo.os, h3.trans hwo.tape, h4.trans hwo.output, by rw [h1]; exact hwo.size, fun k hk hb => by rw [h1]; exact hwo.block k hk hb⟩ l _ _ (.inl rfl)
        clear hm c1 hp hgp hwo
        go_wp2
        go_region_law (refine step_copy_runI rfl _ _ 22 22 rfl (.slice (some ⟨l, a * 64, none⟩) 64 64) (.slice (some ⟨g, k * 65 + 1, none⟩) 64 64) (by simp [Act.eval, Act.put]) (by simp [Act.eval, Act.put]) (hcp _ (by rfl) _) ?_)
        all_goals
          go_wp2
          go_roundw
          case rel => exact ⟨k + 1, by omega, by go_num, Hnext.out _ (by rfl), Hwo.out _ (by rfl) (by rfl) (by rfl) (by rfl)⟩
          case measure => simp [intOf]; omega
      · have q2 : ¬ (k : Int) < (n : Int) := by omega
        have hkk : k = n := by omega
        subst hkk
        go_wp2
        go_end0
        exact ⟨⟨_, rfl⟩, hm, hwo⟩
set_option maxHeartbeats 1000000 in
theorem Try.forget_any {w : World} {x l t : Nat} {V : Value} {s : DS} {T : List Nat} (h : Try.Mem w x l t V s T) :
    Calls Try.prog 82 #[.pointer (some ⟨x, 0, none⟩)] w fun e w' => (∃ v, e = .returned v) ∧ Try.Mem w' x l t (.slice none 0 0) { s with W := [] } (Dk.wipe T s.W) ∧ Dk.Wo (fun k => k = x ∨ k = t) w w' := by
  have c1 : w.cell? ⟨x, 1, none⟩ = some V := h.c0 1 _ rfl
  have Hend : Hid (∀ (wr : World), Try.Mem wr x l t V s (Dk.wipe T s.W) → Dk.Wo (fun k => k = x ∨ k = t) w wr → Try.Mem (wr.setCell ⟨x, 1, none⟩ (.slice none 0 0)) x l t (.slice none 0 0) { s with W := [] } (Dk.wipe T s.W) ∧ Dk.Wo (fun k => k = x ∨ k = t) w (wr.setCell ⟨x, 1, none⟩ (.slice none 0 0))) := fun wr hm hwo =>
    ⟨hm.setX 1 _ rfl rfl rfl (World.ownsRow_nil _ _ _ _) (fun k e => by cases e) (GoodW.nil _) (by simp), hwo.setCell x 1 _ (.inl (.inl rfl))⟩
  rcases h.hv.2 with ⟨e1, e2⟩ | ⟨g, cap, cur, e1, hb, hg, hcap, hmax, hcs, htk⟩
  · subst e1
    have hW : s.W = [] := List.eq_nil_of_length_eq_zero e2
    have f1 := h.f0 1
    have HH : Hid (Try.Mem w x l t (.slice none 0 0) s T) := h
    have HW : Hid (s.W = []) := hW
    clear h hW e2
    go_enter Try.func82, Try.ntmps82
    go_wp2
    go_loopw [8] (fun i wr => i = .int .i64 0 ∧ wr = w) (fun _ _ => 0)
    case atStart => exact ⟨rfl, rfl⟩
    case round =>
      obtain ⟨rfl, rfl⟩ := hrel
      go_wp2
      go_end0
      exact ⟨⟨_, rfl⟩, Hend.out _ (by rw [HW.out]; exact HH.out) (Dk.Wo.refl _ _)⟩
  · subst e1
    have HH : Hid (Try.Mem w x l t (.slice (some ⟨g, 0, none⟩) s.W.length cap) s T) := h
    have hw1 := h.w1
    clear h hcs htk hg
    go_enter Try.func82, Try.ntmps82
    go_wp2
    go_loopw [8] (fun i wr => ∃ k : Nat, k ≤ s.W.length ∧ i = .int .i64 k ∧ Try.Mem wr x l t (.slice (some ⟨g, 0, none⟩) s.W.length cap) s (Dk.wipe T (s.W.take k)) ∧ Dk.Wo (fun k => k = x ∨ k = t) w wr) (fun i _ => s.W.length - (intOf i).toNat)
    case atStart => exact ⟨0, by omega, rfl, HH.out, Dk.Wo.refl _ _⟩
    case round =>
      obtain ⟨k, hk, rfl, hm, hwo⟩ := hrel
      by_cases hkn : k < s.W.length
      · have q2 : (k : Int) < (s.W.length : Int) := by omega
        obtain ⟨p, hp⟩ : ∃ p, s.W[k]? = some p := ⟨_, List.getElem?_eq_getElem (by omega)⟩
        have hgp := hm.good p (List.mem_of_getElem? hp)
        have d0 : wr.cell? ⟨x, 2, none⟩ = some (.slice (some ⟨t, 0, none⟩) s.n s.ct) := hm.c0 2 _ rfl
        have d1 : wr.cell? ⟨x, 1, none⟩ = some (.slice (some ⟨g, 0, none⟩) s.W.length cap) := hm.c0 1 _ rfl
        have d2 : wr.cell? ⟨g, k * 65, none⟩ = some (.int .i64 p.1) := by have := Dk.wcell hm.hv hm.good hp 0 (by omega); simpa [Dk.wrC] using this
        have q4 : (p.1 : Int) < (s.n : Int) := by have : p.1 < s.n := hgp.1; omega
        obtain ⟨a, bs⟩ := p
        simp only at d2 q4 hgp
        obtain ⟨d3, f3⟩ := hm.tcell hgp.1
        have Hnext : Hid (Try.Mem (wr.setCell ⟨t, a, none⟩ (.int .i64 0)) x l t (.slice (some ⟨g, 0, none⟩) s.W.length cap) s (Dk.wipe T (s.W.take (k + 1)))) := by
          have h1 := hm.setT a 0 hgp.1
          have e : (Dk.wipe T (s.W.take k)).set a 0 = Dk.wipe T (s.W.take (k + 1)) := by rw [List.take_add_one, hp]; exact (Dk.wipe_one _ _ (a, bs)).symm
          rw [← e]; exact h1
        have Hwo : Hid (Dk.Wo (fun k => k = x ∨ k = t) w (wr.setCell ⟨t, a, none⟩ (.int .i64 0))) := hwo.setCell t _ _ (.inl (.inr rfl))
        clear hm c1 hp hgp hwo
        go_wp2
        go_region
        all_goals
          go_wp2
          go_roundw
          case rel => exact ⟨k + 1, by omega, by go_num, Hnext.out.eqv (by rfl), Hwo.out.eqv (by rfl) (by rfl) (by rfl) (by rfl)⟩
          case measure => simp [intOf]; omega
      · have q2 : ¬ (k : Int) < (s.W.length : Int) := by omega
        have hkk : k = s.W.length := by omega
        have d1 : wr.cell? ⟨x, 1, none⟩ = some (.slice (some ⟨g, 0, none⟩) s.W.length cap) := hm.c0 1 _ rfl
        have f1 := hm.f0 1
        have HM : Hid (Try.Mem wr x l t (.slice (some ⟨g, 0, none⟩) s.W.length cap) s (Dk.wipe T s.W)) := by rw [hkk, List.take_length] at hm; exact hm
        clear hm hkk
        go_wp2
        go_end0
        exact ⟨⟨_, rfl⟩, Hend.out _ HM.out hwo⟩
end Go.Proofs
