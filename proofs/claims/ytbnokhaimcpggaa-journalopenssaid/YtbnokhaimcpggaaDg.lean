/-
  blows, Sync, Crash, Write.
-/
import Derived.Test.YtbnokhaimcpggaaDf
namespace Go.Proofs
open Go.RowKit Go.Dk
set_option maxHeartbeats 1000000 in
theorem Try.blows_no {w : World} {x l t : Nat} {V : Value} {s : DS} {T : List Nat} (h : Try.Mem w x l t V s T) (hb : s.fset = false ∨ 0 < s.fl) :
    Calls Try.prog 21 #[.pointer (some ⟨x, 0, none⟩)] w fun e w' => e = .returned (.bool false) ∧ w' = w := by
  have c4 : w.cell? ⟨x, 4, none⟩ = some (.bool s.fset) := h.c0 4 _ rfl
  have c5 : w.cell? ⟨x, 5, none⟩ = some (.int .i64 s.fl) := h.c0 5 _ rfl
  clear h
  cases hs : s.fset with
  | false =>
    rw [hs] at c4
    go_enter Try.func21, Try.ntmps21
    go_wp2
    go_ret
    exact ⟨rfl, rfl⟩
  | true =>
    rw [hs] at c4
    have q0 : (0 : Int) < s.fl := by rcases hb with hb | hb; rw [hs] at hb; cases hb; exact hb
    go_enter Try.func21, Try.ntmps21
    go_wp2
    go_ret
    exact ⟨rfl, rfl⟩
set_option maxHeartbeats 1000000 in
theorem Try.blows_yes {w : World} {x l t : Nat} {V : Value} {s : DS} {T : List Nat} (h : Try.Mem w x l t V s T) (hT : T = Dk.lats s.n s.W) (hf : s.falls < 1000000000) (hs : s.fset = true) (hl : s.fl ≤ 0) :
    Calls Try.prog 21 #[.pointer (some ⟨x, 0, none⟩)] w fun e w' => e = .returned (.bool true) ∧ Try.Mem w' x l t (.slice none 0 0) (s.fail s.fk s.ft) (Dk.lats s.n []) ∧ Dk.Wo (fun k => k = x ∨ k = l ∨ k = t) w w' := by
  have c4 : w.cell? ⟨x, 4, none⟩ = some (.bool s.fset) := h.c0 4 _ rfl
  have c5 : w.cell? ⟨x, 5, none⟩ = some (.int .i64 s.fl) := h.c0 5 _ rfl
  have c6 : w.cell? ⟨x, 6, none⟩ = some (.int .i64 s.fk) := h.c0 6 _ rfl
  have c7 : w.cell? ⟨x, 7, none⟩ = some (.int .i64 s.ft) := h.c0 7 _ rfl
  rw [hs] at c4
  have q0 : ¬ (0 : Int) < s.fl := by omega
  have hfa := Try.fail_any h hT hf s.fk s.ft
  clear h hs hl hT
  go_enter Try.func21, Try.ntmps21
  go_wp2_with (first
    | (go_at_call 58; refine hfa.mono ?_; clear hfa; rintro e w1 ⟨⟨v, rfl⟩, hM1, hW1⟩)
    | fail)
  go_ret
  exact ⟨rfl, hM1, hW1⟩
set_option maxHeartbeats 1000000 in
theorem Try.crash_any {w : World} {x l t : Nat} {V : Value} {s : DS} {T : List Nat} (h : Try.Mem w x l t V s T) (hT : T = Dk.lats s.n s.W) (hf : s.falls < 1000000000) (hd : s.dead = false) (k c : Int) :
    Calls Try.prog 40 #[.pointer (some ⟨x, 0, none⟩), .agg #[.int .i64 k, .int .i64 c]] w fun e w' => e = .returned (.int .i64 0) ∧ Try.Mem w' x l t (.slice none 0 0) (s.fail k c) (Dk.lats s.n []) ∧ Dk.Wo (fun k => k = x ∨ k = l ∨ k = t) w w' := by
  have c3 : w.cell? ⟨x, 3, none⟩ = some (.bool s.dead) := h.c0 3 _ rfl
  have hxw : x < w.heap.size := Dk.block_lt h.hx
  rw [hd] at c3
  have hfa : ∀ W : World, W = w.alloc (.cells #[.int .i64 k, .int .i64 c] 56) → Calls Try.prog 58 #[.pointer (some ⟨x, 0, none⟩), .agg #[.int .i64 k, .int .i64 c]] W fun e w' => (∃ v, e = .returned v) ∧ Try.Mem w' x l t (.slice none 0 0) (s.fail k c) (Dk.lats s.n []) ∧ Dk.Wo (fun k => k = x ∨ k = l ∨ k = t) w w' := fun W hW => by
    subst hW
    exact (Try.fail_any (h.keep fun k hk => Below.heap_alloc w _ k (h.foot_lt k hk)) hT hf k c).mono fun e w' ⟨h1, h2, h3⟩ => ⟨h1, h2, ((Dk.Wo.refl _ w).alloc _).trans h3⟩
  clear h hT hd
  go_enter Try.func40, Try.ntmps40
  go_wp2_with (first
    | (go_at_call 58; refine (hfa _ (by rfl)).mono ?_; clear hfa; rintro e w1 ⟨⟨v, rfl⟩, hM1, hW1⟩)
    | fail)
  go_ret
  exact ⟨rfl, hM1, hW1⟩
set_option maxHeartbeats 1000000 in
theorem Try.sync_ok {w : World} {x l t : Nat} {V : Value} {s : DS} {T : List Nat} (h : Try.Mem w x l t V s T) (hT : T = Dk.lats s.n s.W) (hd : s.dead = false) (hb : s.fset = false ∨ 0 < s.fl) (hy : s.synced < 1000000000) :
    Calls Try.prog 76 #[.pointer (some ⟨x, 0, none⟩)] w fun e w' => e = .returned (.int .i64 0) ∧ Try.Mem w' x l t (.slice none 0 0) s.sync (Dk.lats s.n []) ∧ Dk.Wo (fun k => k = x ∨ k = l ∨ k = t) w w' := by
  have c3 : w.cell? ⟨x, 3, none⟩ = some (.bool s.dead) := h.c0 3 _ rfl
  rw [hd] at c3
  have c1 : w.cell? ⟨x, 1, none⟩ = some V := h.c0 1 _ rfl
  obtain ⟨ad, cap, rfl⟩ : ∃ ad cap, V = .slice ad s.W.length cap := by
    rcases h.hv.2 with ⟨e1, e2⟩ | ⟨g, cap, cur, e1, _⟩
    · exact ⟨none, 0, by rw [e1, e2]⟩
    · exact ⟨_, _, e1⟩
  have hbl := Try.blows_no h hb
  have hse := Try.settle_any h s.W.length (Nat.le_refl _)
  rw [List.take_length] at hse
  have HT : Hid (T = Dk.lats s.n s.W) := hT
  clear h hd hb hT
  go_enter Try.func76, Try.ntmps76
  go_wp2_with (first
    | (go_at_call 21; refine hbl.mono ?_; clear hbl; rintro e w1 ⟨rfl, rfl⟩)
    | (go_at_call 81; refine hse.mono ?_; clear hse; rintro e w2 ⟨⟨v, rfl⟩, hM2, hW2⟩)
    | (go_at_call 82; refine (Try.forget_any hM2).mono ?_; rintro e w3 ⟨⟨v3, rfl⟩, hM3, hW3⟩; have e9 : w3.cell? ⟨x, 9, none⟩ = some (.int .i64 s.synced) := hM3.c0 9 _ rfl; have g9 := hM3.f0 9)
    | fail)
  go_ret
  have h1 := hM3.setF 9 (.int .i64 ((s.synced : Int) + 1)) (s' := { s with L := sink s.L s.W, W := [], synced := s.synced + 1 }) rfl rfl rfl rfl
  rw [HT.out, Dk.wipe_lats] at h1
  exact ⟨rfl, h1, ((hW2.mono (fun k e => .inr (.inl e))).trans (hW3.mono (fun k e => by rcases e with e | e; exact .inl e; exact .inr (.inr e)))).setCell x 9 _ (.inl (.inl rfl))⟩
set_option maxHeartbeats 1000000 in
theorem Try.sync_blow {w : World} {x l t : Nat} {V : Value} {s : DS} {T : List Nat} (h : Try.Mem w x l t V s T) (hT : T = Dk.lats s.n s.W) (hf : s.falls < 1000000000) (hd : s.dead = false) (hs : s.fset = true) (hl : s.fl ≤ 0) :
    Calls Try.prog 76 #[.pointer (some ⟨x, 0, none⟩)] w fun e w' => e = .returned (.int .i64 41) ∧ Try.Mem w' x l t (.slice none 0 0) (s.fail s.fk s.ft) (Dk.lats s.n []) ∧ Dk.Wo (fun k => k = x ∨ k = l ∨ k = t) w w' := by
  have c3 : w.cell? ⟨x, 3, none⟩ = some (.bool s.dead) := h.c0 3 _ rfl
  rw [hd] at c3
  have hbl := Try.blows_yes h hT hf hs hl
  clear h hd hT hs hl
  go_enter Try.func76, Try.ntmps76
  go_wp2_with (first
    | (go_at_call 21; refine hbl.mono ?_; clear hbl; rintro e w1 ⟨rfl, hM1, hW1⟩)
    | fail)
  go_ret
  exact ⟨rfl, hM1, hW1⟩
end Go.Proofs
