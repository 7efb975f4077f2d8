/-
  What each call does, as a function of the disk; the program's and the document's in one form.
-/
import Derived.Test.YtnfpocpeglfdbaaDyN
namespace Go.Dk
def DS.wr (s : DS) (i : Int) (b : List UInt8) : DS × Int :=
  if s.dead = true then (s, 41) else if ¬ (0 ≤ i ∧ i < s.n) ∨ 64 < b.length then (s, 40) else if s.fset = true ∧ s.fl = 0 then ((s.lay i.toNat b).fail s.fk s.ft, 41) else (s.put i.toNat b, 0)
def DS.sy (s : DS) : DS × Int :=
  if s.dead = true then (s, 41) else if s.fset = true ∧ s.fl = 0 then (s.fail s.fk s.ft, 41) else (s.sync, 0)
def DS.fu (s : DS) (n k t : Int) : DS × Int :=
  if s.dead = true then (s, 41) else if n < 0 then (s, 1) else ({ s with fset := true, fl := n, fk := k, ft := t }, 0)
def DS.cr (s : DS) (k t : Int) : DS × Int := if s.dead = true then (s, 41) else (s.fail k t, 0)
def DS.rdB (s : DS) (i : Int) : List UInt8 := if s.dead = true then [] else if 0 ≤ i ∧ i < s.n then blk s.view i.toNat else []
def DS.rdE (s : DS) (i : Int) : Int := if s.dead = true then 41 else if 0 ≤ i ∧ i < s.n then 0 else 40
/-- So many calls at the most. -/
structure Ok (c : Nat) (s : DS) : Prop where
  w : s.W.length ≤ c
  a : s.wrote ≤ c
  b : s.synced ≤ c
  f : s.falls ≤ c
  fl : 0 ≤ s.fl ∧ s.fl ≤ 9223372036854775807
  n : s.n ≤ 4096
theorem Ok.up {c c' : Nat} {s : DS} (h : Ok c s) (hc : c ≤ c') : Ok c' s := ⟨by have := h.w; omega, by have := h.a; omega, by have := h.b; omega, by have := h.f; omega, h.fl, h.n⟩
theorem Ok.fail {c : Nat} {s : DS} (h : Ok c s) (k t : Int) : Ok (c + 1) (s.fail k t) := ⟨Nat.zero_le _, by have := h.a; show s.wrote ≤ _; omega, by have := h.b; show s.synced ≤ _; omega, by have := h.f; show s.falls + 1 ≤ _; omega, ⟨Int.le_refl _, show (0 : Int) ≤ 9223372036854775807 by decide⟩, h.n⟩
theorem Ok.wr {c : Nat} {s : DS} (h : Ok c s) (i : Int) (b : List UInt8) : Ok (c + 1) (s.wr i b).1 := by
  unfold DS.wr
  split
  · exact h.up (by omega)
  · split
    · exact h.up (by omega)
    · split
      · exact ⟨Nat.zero_le _, by have := h.a; show s.wrote ≤ _; omega, by have := h.b; show s.synced ≤ _; omega, by have := h.f; show s.falls + 1 ≤ _; omega, ⟨Int.le_refl _, show (0 : Int) ≤ 9223372036854775807 by decide⟩, h.n⟩
      · rename_i hf
        refine ⟨by have := h.w; simp [DS.put]; omega, by have := h.a; show s.wrote + 1 ≤ _; omega, by have := h.b; show s.synced ≤ _; omega, by have := h.f; show s.falls ≤ _; omega, ?_, h.n⟩
        show 0 ≤ (if s.fset = true then s.fl - 1 else s.fl) ∧ (if s.fset = true then s.fl - 1 else s.fl) ≤ _
        have h2 := h.fl
        split
        · rename_i h3
          have : ¬ s.fl = 0 := fun e => hf ⟨h3, e⟩
          omega
        · exact h2
theorem Ok.sy {c : Nat} {s : DS} (h : Ok c s) : Ok (c + 1) s.sy.1 := by
  unfold DS.sy
  split
  · exact h.up (by omega)
  · split
    · exact h.fail _ _
    · exact ⟨Nat.zero_le _, by have := h.a; show s.wrote ≤ _; omega, by have := h.b; show s.synced + 1 ≤ _; omega, by have := h.f; show s.falls ≤ _; omega, h.fl, h.n⟩
theorem Ok.fu {c : Nat} {s : DS} (h : Ok c s) (n k t : Int) (hn : n ≤ 9223372036854775807) : Ok (c + 1) (s.fu n k t).1 := by
  unfold DS.fu
  split
  · exact h.up (by omega)
  · split
    · exact h.up (by omega)
    · exact ⟨by have := h.w; show s.W.length ≤ _; omega, by have := h.a; show s.wrote ≤ _; omega, by have := h.b; show s.synced ≤ _; omega, by have := h.f; show s.falls ≤ _; omega, ⟨by show 0 ≤ n; omega, hn⟩, h.n⟩
theorem Ok.cr {c : Nat} {s : DS} (h : Ok c s) (k t : Int) : Ok (c + 1) (s.cr k t).1 := by
  unfold DS.cr
  split
  · exact h.up (by omega)
  · exact h.fail _ _
theorem Ok.restart {c : Nat} {s : DS} (h : Ok c s) : Ok c s.restart := ⟨h.w, h.a, h.b, h.f, ⟨Int.le_refl _, show (0 : Int) ≤ 9223372036854775807 by decide⟩, h.n⟩
theorem Ok.new {n : Nat} (hn : n ≤ 4096) : Ok 0 (Go.Proofs.Dk.new n) := ⟨Nat.zero_le _, Nat.le_refl _, Nat.le_refl _, Nat.le_refl _, ⟨Int.le_refl _, show (0 : Int) ≤ 9223372036854775807 by decide⟩, hn⟩
end Go.Dk
namespace Go.Proofs
open Go.RowKit Go.Dk
theorem Try.left_same {w w' : World} {x l t : Nat} {V : Value} {s : DS} (h : Try.Mem w x l t V s (Dk.lats s.n s.W)) (hb : Below w.heap.size w w') : Try.Left w w' x l t V s :=
  ⟨V, h.keep fun k e => hb.block k (h.foot_lt k e), (Dk.Wo.refl _ w).below hb (Nat.le_refl _), fun _k e => .inl e⟩
/-- What a call of the document's disk leaves. -/
def Try.RLeft (w w' : World) (x : Nat) (Lv Wv : Value) (s' : DS) : Prop :=
  ∃ Lv' Wv' left' k' t', Try.Rfm w' x Lv' Wv' left' k' t' s' ∧ Dk.Wo (Dk.rfoot x Lv Wv) w w' ∧ ∀ j, Dk.rfoot x Lv' Wv' j → Dk.rfoot x Lv Wv j ∨ w.heap.size ≤ j
theorem Try.rleft_same {w w' : World} {x : Nat} {Lv Wv : Value} {left k t : Int} {s : DS} (h : Try.Rfm w x Lv Wv left k t s) (hb : Below w.heap.size w w') : Try.RLeft w w' x Lv Wv s :=
  ⟨Lv, Wv, left, k, t, h.keep fun j e => hb.block j (h.foot_lt j e), (Dk.Wo.refl _ w).below hb (Nat.le_refl _), fun _j e => .inl e⟩
theorem Try.write_x {c : Nat} {w : World} {x l t : Nat} {V : Value} {s : DS} (h : Try.Mem w x l t V s (Dk.lats s.n s.W)) (ho : Ok c s) (hc : c ≤ 500000) (i : Int) (ad : Option Addr) (cap : Nat) (b : List UInt8) (hv : Dk.Src w (.slice ad b.length cap) b) :
    Calls Try.prog 29 #[.pointer (some ⟨x, 0, none⟩), .int .i64 i, .slice ad b.length cap] w fun e w' => e = .returned (.int .i64 (s.wr i b).2) ∧ Try.Left w w' x l t V (s.wr i b).1 := by
  unfold DS.wr
  by_cases hd : s.dead = true
  · rw [if_pos hd]
    exact (Try.write_dead h hd i _).mono fun _ _ ⟨e1, e2⟩ => ⟨e1, by rw [e2]; exact Try.left_same h (Below.refl _ _)⟩
  · rw [if_neg hd]
    have hd0 : s.dead = false := by cases q : s.dead with | false => rfl | true => exact absurd q hd
    by_cases hi : ¬ (0 ≤ i ∧ i < s.n) ∨ 64 < b.length
    · rw [if_pos hi]
      exact (Try.write_no h hd0 i ad b.length cap hi).mono fun _ _ ⟨e1, e2⟩ => ⟨e1, by rw [e2]; exact Try.left_same h (Below.refl _ _)⟩
    · rw [if_neg hi]
      have hi1 : 0 ≤ i ∧ i < s.n := Decidable.not_not.1 fun e => hi (.inl e)
      have hi2 : b.length ≤ 64 := Nat.le_of_not_lt fun e => hi (.inr e)
      have e0 : ((i.toNat : Nat) : Int) = i := by omega
      have hf := ho.f
      have hw := ho.w
      have ha := ho.a
      have hfl := ho.fl
      by_cases hb : s.fset = true ∧ s.fl = 0
      · rw [if_pos hb, ← e0]
        simp only [Int.toNat_natCast]
        exact (Try.write_blow h rfl hd0 (by omega) hb.1 (by rw [hb.2]; exact Int.le_refl _) (by omega) i.toNat (by omega) b hi2 _ hv).mono fun _ _ ⟨r1, r2, r3⟩ => ⟨r1, _, r2, r3, fun k e => by cases e⟩
      · rw [if_neg hb, ← e0]
        simp only [Int.toNat_natCast]
        exact (Try.write_ok h rfl hd0 (by omega) (by cases q : s.fset with | false => exact .inl rfl | true => exact .inr (by have : ¬ s.fl = 0 := fun e => hb ⟨q, e⟩; omega)) (by omega) hfl.2 hfl.1 i.toNat (by omega) b hi2 _ hv).mono fun _ _ ⟨r1, V', r2, r3, r4⟩ => ⟨r1, V', r2, r3, r4⟩
theorem Try.rwrite_x {c : Nat} {w : World} {x : Nat} {Lv Wv : Value} {left k t : Int} {s : DS} (h : Try.Rfm w x Lv Wv left k t s) (ho : Ok c s) (hc : c ≤ 500000) (i : Int) (b : ByteArray) :
    Calls Try.prog 30 #[.pointer (some ⟨x, 0, none⟩), .int .i64 i, .string b] w fun e w' => e = .returned (.int .i64 (s.wr i b.data.toList).2) ∧ Try.RLeft w w' x Lv Wv (s.wr i b.data.toList).1 := by
  have hbl : b.data.toList.length = b.size := rfl
  unfold DS.wr
  rw [hbl]
  by_cases hd : s.dead = true
  · rw [if_pos hd]
    exact (Try.rWrite_dead h hd i b).mono fun _ _ ⟨e1, e2⟩ => ⟨e1, by rw [e2]; exact Try.rleft_same h (Below.refl _ _)⟩
  · rw [if_neg hd]
    have hd0 : s.dead = false := by cases q : s.dead with | false => rfl | true => exact absurd q hd
    by_cases hi : ¬ (0 ≤ i ∧ i < s.n) ∨ 64 < b.size
    · rw [if_pos hi]
      exact (Try.rWrite_no h hd0 i b hi).mono fun _ _ ⟨e1, e2⟩ => ⟨e1, by rw [e2]; exact Try.rleft_same h (Below.refl _ _)⟩
    · rw [if_neg hi]
      have hi1 : 0 ≤ i ∧ i < s.n := Decidable.not_not.1 fun e => hi (.inl e)
      have hi2 : b.size ≤ 64 := Nat.le_of_not_lt fun e => hi (.inr e)
      have e0 : ((i.toNat : Nat) : Int) = i := by omega
      have hf := ho.f
      have hw := ho.w
      have ha := ho.a
      have hfl := ho.fl
      have hfin : ∀ (w' : World) (s' : DS), Try.RWr w w' x Lv Wv k t s' → Try.RLeft w w' x Lv Wv s' := fun w' s' ⟨Wv', left', g1, g2, g3⟩ => ⟨Lv, Wv', left', k, t, g1, g2, fun j e => by
        rcases e with e | e | e
        · exact .inl (.inl e)
        · exact .inl (.inr (.inl e))
        · rcases g3 j e with e2 | e2
          · exact .inl (.inr (.inr e2))
          · exact .inr e2⟩
      by_cases hb : s.fset = true ∧ s.fl = 0
      · rw [if_pos hb, ← e0]
        simp only [Int.toNat_natCast]
        exact (Try.rWrite_blow h hd0 i.toNat (by omega) b hi2 (by omega) hb.1 hb.2 (by omega)).mono fun _ _ ⟨r1, r2⟩ => ⟨r1, hfin _ _ r2⟩
      · rw [if_neg hb, ← e0]
        simp only [Int.toNat_natCast]
        cases q : s.fset with
        | false => exact (Try.rWrite_ok1 h hd0 i.toNat (by omega) b hi2 (by omega) q (by omega)).mono fun _ _ ⟨r1, r2⟩ => ⟨r1, hfin _ _ r2⟩
        | true => exact (Try.rWrite_ok2 h hd0 i.toNat (by omega) b hi2 (by omega) q (by have : ¬ s.fl = 0 := fun e => hb ⟨q, e⟩; omega) hfl.2 (by omega)).mono fun _ _ ⟨r1, r2⟩ => ⟨r1, hfin _ _ r2⟩
theorem Try.sync_x {c : Nat} {w : World} {x l t : Nat} {V : Value} {s : DS} (h : Try.Mem w x l t V s (Dk.lats s.n s.W)) (ho : Ok c s) (hc : c ≤ 500000) :
    Calls Try.prog 12 #[.pointer (some ⟨x, 0, none⟩)] w fun e w' => e = .returned (.int .i64 s.sy.2) ∧ Try.Left w w' x l t V s.sy.1 := by
  unfold DS.sy
  have hf := ho.f
  have hb2 := ho.b
  have hfl := ho.fl
  by_cases hd : s.dead = true
  · rw [if_pos hd]
    exact (Try.sync_dead h hd).mono fun _ _ ⟨e1, e2⟩ => ⟨e1, by rw [e2]; exact Try.left_same h (Below.refl _ _)⟩
  · rw [if_neg hd]
    have hd0 : s.dead = false := by cases q : s.dead with | false => rfl | true => exact absurd q hd
    by_cases hb : s.fset = true ∧ s.fl = 0
    · rw [if_pos hb]
      exact (Try.sync_blow h rfl (by omega) hd0 hb.1 (by rw [hb.2]; exact Int.le_refl _)).mono fun _ _ ⟨r1, r2, r3⟩ => ⟨r1, Try.left_nil rfl r2 r3⟩
    · rw [if_neg hb]
      exact (Try.sync_ok h rfl hd0 (by cases q : s.fset with | false => exact .inl rfl | true => exact .inr (by have : ¬ s.fl = 0 := fun e => hb ⟨q, e⟩; omega)) (by omega)).mono fun _ _ ⟨r1, r2, r3⟩ => ⟨r1, Try.left_nil rfl r2 r3⟩
theorem Try.rleft_nil {w w' : World} {x : Nat} {Lv Wv : Value} {left k t : Int} {s' : DS} (h : Try.Rfm w' x Lv (.slice none 0 0) left k t s') (hw : Dk.Wo (fun j => j = x ∨ Lv.ownBlock = some j) w w') : Try.RLeft w w' x Lv Wv s' :=
  ⟨Lv, _, left, k, t, h, hw.mono fun j e => e.elim .inl fun e => .inr (.inl e), fun j e => by
    rcases e with e | e | e
    · exact .inl (.inl e)
    · exact .inl (.inr (.inl e))
    · cases e⟩
theorem Try.rsync_x {c : Nat} {w : World} {x : Nat} {Lv Wv : Value} {left k t : Int} {s : DS} (h : Try.Rfm w x Lv Wv left k t s) (ho : Ok c s) (hc : c ≤ 500000) :
    Calls Try.prog 13 #[.pointer (some ⟨x, 0, none⟩)] w fun e w' => e = .returned (.int .i64 s.sy.2) ∧ Try.RLeft w w' x Lv Wv s.sy.1 := by
  unfold DS.sy
  have hf := ho.f
  have hb2 := ho.b
  by_cases hd : s.dead = true
  · rw [if_pos hd]
    exact (Try.rSync_dead h hd).mono fun _ _ ⟨e1, e2⟩ => ⟨e1, by rw [e2]; exact Try.rleft_same h (Below.refl _ _)⟩
  · rw [if_neg hd]
    have hd0 : s.dead = false := by cases q : s.dead with | false => rfl | true => exact absurd q hd
    by_cases hb : s.fset = true ∧ s.fl = 0
    · rw [if_pos hb]
      exact (Try.rSync_blow h hd0 hb.1 hb.2 (by omega)).mono fun _ _ ⟨r1, r2, r3⟩ => ⟨r1, Try.rleft_nil r2 r3⟩
    · rw [if_neg hb]
      exact (Try.rSync_ok h hd0 (by cases q : s.fset with | false => exact .inl rfl | true => exact .inr fun e => hb ⟨q, e⟩) (by omega)).mono fun _ _ ⟨r1, r2, r3⟩ => ⟨r1, Try.rleft_nil r2 r3⟩
theorem Try.fuse_x {w : World} {x l t : Nat} {V : Value} {s : DS} (h : Try.Mem w x l t V s (Dk.lats s.n s.W)) (n k q : Int) :
    Calls Try.prog 14 #[.pointer (some ⟨x, 0, none⟩), .int .i64 n, .agg #[.int .i64 k, .int .i64 q]] w fun e w' => e = .returned (.int .i64 (s.fu n k q).2) ∧ Try.Left w w' x l t V (s.fu n k q).1 := by
  unfold DS.fu
  by_cases hd : s.dead = true
  · rw [if_pos hd]
    exact (Try.fuse_dead h hd n k q).mono fun _ _ ⟨e1, e2⟩ => ⟨e1, Try.left_same h e2⟩
  · rw [if_neg hd]
    have hd0 : s.dead = false := by cases q : s.dead with | false => rfl | true => exact absurd q hd
    by_cases hn : n < 0
    · rw [if_pos hn]
      exact (Try.fuse_neg h hd0 n k q hn).mono fun _ _ ⟨e1, e2⟩ => ⟨e1, Try.left_same h e2⟩
    · rw [if_neg hn]
      exact (Try.fuse_ok h hd0 n k q (by omega)).mono fun _ _ ⟨r1, r2, r3⟩ => ⟨r1, V, r2, r3.mono fun _k e => .inl e, fun _k e => .inl e⟩
theorem Try.rfuse_x {w : World} {x : Nat} {Lv Wv : Value} {left k0 t : Int} {s : DS} (h : Try.Rfm w x Lv Wv left k0 t s) (n k q : Int) :
    Calls Try.prog 15 #[.pointer (some ⟨x, 0, none⟩), .int .i64 n, .agg #[.int .i64 k, .int .i64 q]] w fun e w' => e = .returned (.int .i64 (s.fu n k q).2) ∧ Try.RLeft w w' x Lv Wv (s.fu n k q).1 := by
  unfold DS.fu
  by_cases hd : s.dead = true
  · rw [if_pos hd]
    exact (Try.rFuse_dead h hd n k q).mono fun _ _ ⟨e1, e2⟩ => ⟨e1, Try.rleft_same h e2⟩
  · rw [if_neg hd]
    have hd0 : s.dead = false := by cases q : s.dead with | false => rfl | true => exact absurd q hd
    by_cases hn : n < 0
    · rw [if_pos hn]
      exact (Try.rFuse_neg h hd0 n k q hn).mono fun _ _ ⟨e1, e2⟩ => ⟨e1, Try.rleft_same h e2⟩
    · rw [if_neg hn]
      exact (Try.rFuse_ok h hd0 n k q (by omega)).mono fun _ _ ⟨r1, r2, r3⟩ => ⟨r1, Lv, Wv, n, k, q, r2, r3.mono fun _j e => .inl e, fun _j e => .inl e⟩
theorem Try.crash_x {c : Nat} {w : World} {x l t : Nat} {V : Value} {s : DS} (h : Try.Mem w x l t V s (Dk.lats s.n s.W)) (ho : Ok c s) (hc : c ≤ 500000) (k q : Int) :
    Calls Try.prog 16 #[.pointer (some ⟨x, 0, none⟩), .agg #[.int .i64 k, .int .i64 q]] w fun e w' => e = .returned (.int .i64 (s.cr k q).2) ∧ Try.Left w w' x l t V (s.cr k q).1 := by
  unfold DS.cr
  have hf := ho.f
  by_cases hd : s.dead = true
  · rw [if_pos hd]
    exact (Try.crash_dead h hd k q).mono fun _ _ ⟨e1, e2⟩ => ⟨e1, Try.left_same h e2⟩
  · rw [if_neg hd]
    have hd0 : s.dead = false := by cases q : s.dead with | false => rfl | true => exact absurd q hd
    exact (Try.crash_any h rfl (by omega) hd0 k q).mono fun _ _ ⟨r1, r2, r3⟩ => ⟨r1, Try.left_nil rfl r2 r3⟩
theorem Try.rcrash_x {c : Nat} {w : World} {x : Nat} {Lv Wv : Value} {left k0 t : Int} {s : DS} (h : Try.Rfm w x Lv Wv left k0 t s) (ho : Ok c s) (hc : c ≤ 500000) (k q : Int) :
    Calls Try.prog 17 #[.pointer (some ⟨x, 0, none⟩), .agg #[.int .i64 k, .int .i64 q]] w fun e w' => e = .returned (.int .i64 (s.cr k q).2) ∧ Try.RLeft w w' x Lv Wv (s.cr k q).1 := by
  unfold DS.cr
  have hf := ho.f
  by_cases hd : s.dead = true
  · rw [if_pos hd]
    exact (Try.rCrash_dead h hd k q).mono fun _ _ ⟨e1, e2⟩ => ⟨e1, Try.rleft_same h e2⟩
  · rw [if_neg hd]
    have hd0 : s.dead = false := by cases q : s.dead with | false => rfl | true => exact absurd q hd
    exact (Try.rCrash_ok h hd0 (by omega) k q).mono fun _ _ ⟨r1, r2, r3⟩ => ⟨r1, Try.rleft_nil r2 r3⟩
/-- A block of its own as a row. -/
theorem Dk.row_block {w : World} {g n : Nat} {T : TypeId} {b : List UInt8} (h : w.heap[g]? = some (.cells (Lib.byteCells b).toArray T (0, 0))) (hn : b.length = n) (B : Nat) (hB : B ≤ g) (hm : n ≤ 1000000000) : w.ownsRow B T 1 (.slice (some ⟨g, 0, none⟩) n n) n (Lib.byteCells b) := by
  have hl := Dk.byteCells_len b
  refine ⟨by rw [hl, hn, Nat.mul_one], .inr ⟨g, n, _, rfl, hB, h, Nat.le_refl _, by unfold maxLen; omega, by simp [hl, hn], by rw [List.take_of_length_le (by simp [hl, hn])]⟩⟩
theorem Try.read_x {w : World} {x l t : Nat} {V : Value} {s : DS} (h : Try.Mem w x l t V s (Dk.lats s.n s.W)) (i : Int) :
    Calls Try.prog 25 #[.pointer (some ⟨x, 0, none⟩), .int .i64 i] w fun e w' => ∃ ad cap, e = .returned (.tuple #[.slice ad (s.rdB i).length cap, .int .i64 (s.rdE i)]) ∧ w'.ownsRow w.heap.size 5 1 (.slice ad (s.rdB i).length cap) (s.rdB i).length (Lib.byteCells (s.rdB i)) ∧ Below w.heap.size w w' := by
  unfold DS.rdB DS.rdE
  by_cases hd : s.dead = true
  · rw [if_pos hd, if_pos hd]
    exact (Try.read_dead h hd i).mono fun _ _ ⟨e1, e2⟩ => ⟨none, 0, e1, World.ownsRow_nil _ _ _ _, by rw [e2]; exact Below.refl _ _⟩
  · rw [if_neg hd, if_neg hd]
    have hd0 : s.dead = false := by cases q : s.dead with | false => rfl | true => exact absurd q hd
    by_cases hi : 0 ≤ i ∧ i < s.n
    · rw [if_pos hi, if_pos hi]
      have e0 : ((i.toNat : Nat) : Int) = i := by omega
      have hl : (blk s.view i.toNat).length = 64 := blk_length (sink_length _ _ h.lL h.good) (by omega : i.toNat < s.n)
      have h1 := Try.read_ok h rfl hd0 i.toNat (by omega)
      rw [e0] at h1
      refine h1.mono fun _ _ ⟨e1, e2, e3⟩ => ⟨some ⟨w.heap.size, 0, none⟩, 64, by rw [e1, hl], ?_, e3⟩
      rw [hl]
      exact Dk.row_block e2 hl _ (Nat.le_refl _) (by omega)
    · rw [if_neg hi, if_neg hi]
      exact (Try.read_no h hd0 i hi).mono fun _ _ ⟨e1, e2⟩ => ⟨none, 0, e1, World.ownsRow_nil _ _ _ _, by rw [e2]; exact Below.refl _ _⟩
theorem Try.rread_x {w : World} {x : Nat} {Lv Wv : Value} {left k0 t : Int} {s : DS} (h : Try.Rfm w x Lv Wv left k0 t s) (i : Int) :
    Calls Try.prog 26 #[.pointer (some ⟨x, 0, none⟩), .int .i64 i] w fun e w' => e = .returned (.tuple #[.string ⟨(s.rdB i).toArray⟩, .int .i64 (s.rdE i)]) ∧ w' = w := by
  unfold DS.rdB DS.rdE
  by_cases hd : s.dead = true
  · rw [if_pos hd, if_pos hd]
    exact Try.rRead_dead h hd i
  · rw [if_neg hd, if_neg hd]
    have hd0 : s.dead = false := by cases q : s.dead with | false => rfl | true => exact absurd q hd
    by_cases hi : 0 ≤ i ∧ i < s.n
    · rw [if_pos hi, if_pos hi]
      have e0 : ((i.toNat : Nat) : Int) = i := by omega
      have h1 := Try.rRead_ok h hd0 i.toNat (by omega)
      rw [e0] at h1
      exact h1
    · rw [if_neg hi, if_neg hi]
      exact Try.rRead_no h hd0 i hi
end Go.Proofs
