/-
  WireReads: how all of them begin; what a reader has read; the bytes that were given.
-/
import Derived.Test.YtghpbagmpgphfaaWqR
import Derived.Test.YtghpbagmpgphfaaVl
namespace Go.Proofs
open Go.RowKit Go.Wi
theorem Wi.aft_on (p : Wi.Th) (s : Rs) (h : s.In) : (Wi.aft p s).t = s.t ∧ (Wi.aft p s).In := by
  unfold Wi.aft
  split
  · exact ⟨(Wi.int_on s h).2.1, (Wi.int_on s h).1⟩
  · split
    · exact ⟨(s.flag_in h).2, (s.flag_in h).1⟩
    · split
      · exact ⟨(s.text_in h).2, (s.text_in h).1⟩
      · obtain ⟨m1, m2, m3, m4⟩ := Wi.many_on s p.n h
        have hN := Wi.gath_nums (Wi.many s p.n).1 [] (Wi.many s p.n).2 (by cases hq : (Wi.many s p.n).2.f with | none => exact .inl rfl | some a => exact .inr ⟨m4 (by rw [hq]; rfl), rfl⟩)
        obtain ⟨g1, g2, -⟩ := Wi.gath_on (Wi.many s p.n).1 [] (Wi.many s p.n).2 m1
        rw [hN]
        exact ⟨g2.trans m2, g1⟩
theorem Try.KL.start {w : World} {b : Nat} (h : w.heap[b]? = some (.cells #[.slice none 0 0, .slice none 0 0, .slice none 0 0, .slice none 0 0] 33 (0, 0))) : Try.KL w (fun k => k = b) b 0 :=
  ⟨.slice none 0 0, [], .slice none 0 0, .slice none 0 0, [], .slice none 0 0, ⟨h, World.ownsRow_nil _ _ _ _, World.ownsRow_nil _ _ _ _, World.ownsRow_nil _ _ _ _, fun x hx => (by cases hx), rfl, fun k e => (by cases e), fun k e => (by cases e), fun k e => (by cases e), fun x hx => (by cases hx), fun x hx => (by cases hx), fun k e => (by rw [show k = b from e]; exact block_lt h)⟩, rfl, World.ownsRow_nil _ _ _ _, fun k e => (by cases e), Nat.zero_le _, Wi.Ns.nil _, fun k e => (by cases e)⟩
theorem Try.Zw.start {B a1 a2 a3 a4 a5 a6 : Nat} {w0 W : World} {r x q y b : Nat} {s : Rs} (hr : Try.Rd W (fun k => a1 ≤ k ∧ k < a2) r s) (hq : Try.Rd W (fun k => a2 ≤ k ∧ k < a3) q s) (h34 : a3 ≤ a4) (hx : Try.Xd W (fun k => a4 ≤ k ∧ k < a5) x s) (hy : Try.Xd W (fun k => a5 ≤ k ∧ k < a6) y s) (hB : B ≤ a1) (hb6 : a6 ≤ b) (hk : Try.KL W (fun k => k = b) b 0) (hbel : Below B w0 W) :
    Try.Zw B w0 W r x q y b s s s s 0 (.slice none 0 0) [] (.slice none 0 0) [] := by
  have c1 := hr.ox
  have c2 := hq.ox
  have c3 := hx.ox
  have c4 := hy.ox
  have hlt : ∀ k, (if a1 ≤ k ∧ k < a2 then 1 else if a2 ≤ k ∧ k < a3 then 3 else if a4 ≤ k ∧ k < a5 then 2 else if a5 ≤ k ∧ k < a6 then 4 else if k = b then 5 else 0) ≠ 0 → B ≤ k ∧ k < W.heap.size := fun k e => by
    split at e
    · rename_i h; exact ⟨by omega, hr.lt k h⟩
    · split at e
      · rename_i h; exact ⟨by omega, hq.lt k h⟩
      · split at e
        · rename_i h; exact ⟨by omega, hx.lt k h⟩
        · split at e
          · rename_i h; exact ⟨by omega, hy.lt k h⟩
          · split at e
            · rename_i h; exact ⟨by omega, hk.lt k h⟩
            · exact absurd rfl e
  refine ⟨⟨fun k => if a1 ≤ k ∧ k < a2 then 1 else if a2 ≤ k ∧ k < a3 then 3 else if a4 ≤ k ∧ k < a5 then 2 else if a5 ≤ k ∧ k < a6 then 4 else if k = b then 5 else 0, hlt, hr.more (fun k e => ?_) (fun k e => (hlt k (by rw [e]; decide)).2), hx.more (fun k e => ?_) (fun k e => (hlt k (by rw [e]; decide)).2), hq.more (fun k e => ?_) (fun k e => (hlt k (by rw [e]; decide)).2), hy.more (fun k e => ?_) (fun k e => (hlt k (by rw [e]; decide)).2), hk.more (fun k e => ?_) (fun k e => (hlt k (by rw [e]; decide)).2), ⟨World.ownsRow_nil _ _ _ _, fun k e => by cases e⟩, ⟨World.ownsRow_nil _ _ _ _, fun k e => by cases e⟩⟩, hbel⟩
  · rw [if_pos e]
  · rw [if_neg (by omega), if_neg (by omega), if_pos e]
  · rw [if_neg (by omega), if_pos e]
  · rw [if_neg (by omega), if_neg (by omega), if_neg (by omega), if_pos e]
  · rw [if_neg (by omega), if_neg (by omega), if_neg (by omega), if_neg (by omega), if_pos e]
theorem Try.Zw.faultNone {B : Nat} {w0 w : World} {r x q y b : Nat} {s1 s s3 s4 : Rs} {N : Nat} {v : Value} {li : List Int} {v2 : Value} {li2 : List Int} (h : Try.Zw B w0 w r x q y b s1 s s3 s4 N v li v2 li2) (hf : s.f = none) :
    Calls Try.prog 8 #[.pointer (some ⟨x, 0, none⟩)] w fun e w' => e = .returned (.tuple #[.int .i64 0, .int .i64 0]) ∧ w' = w := by
  obtain ⟨tag, g⟩ := h.ex
  have := Try.xFault_any g.x
  rw [hf] at this
  exact this
theorem Try.Zw.faultSome {B : Nat} {w0 w : World} {r x q y b : Nat} {s1 s s3 s4 : Rs} {N : Nat} {v : Value} {li : List Int} {v2 : Value} {li2 : List Int} (h : Try.Zw B w0 w r x q y b s1 s s3 s4 N v li v2 li2) {a : Nat} (hf : s.f = some a) :
    Calls Try.prog 8 #[.pointer (some ⟨x, 0, none⟩)] w fun e w' => e = .returned (.tuple #[.int .i64 (a : Nat), .int .i64 60]) ∧ w' = w := by
  obtain ⟨tag, g⟩ := h.ex
  have := Try.xFault_any g.x
  rw [hf] at this
  exact this
theorem Try.Zw.errNone {B : Nat} {w0 w : World} {r x q y b : Nat} {s1 s s3 s4 : Rs} {N : Nat} {v : Value} {li : List Int} {v2 : Value} {li2 : List Int} (h : Try.Zw B w0 w r x q y b s1 s s3 s4 N v li v2 li2) (hf : s1.f = none) :
    Calls Try.prog 9 #[.pointer (some ⟨r, 0, none⟩)] w fun e w' => e = .returned .nilIface ∧ w' = w := by
  obtain ⟨tag, g⟩ := h.ex
  exact Try.err_none g.r hf
theorem Try.Zw.errSome {B : Nat} {w0 w : World} {r x q y b : Nat} {s1 s s3 s4 : Rs} {N : Nat} {v : Value} {li : List Int} {v2 : Value} {li2 : List Int} (h : Try.Zw B w0 w r x q y b s1 s s3 s4 N v li v2 li2) {a : Nat} (hf : s1.f = some a) :
    Calls Try.prog 9 #[.pointer (some ⟨r, 0, none⟩)] w fun e w' => ∃ z, e = .returned (.iface 43 (.pointer (some ⟨z, 0, none⟩))) ∧ w'.heap[z]? = some (.cells #[.int .i64 a, .int .i64 60] 46 (0, 0)) ∧ Try.Zw B w0 w' r x q y b s1 s s3 s4 N v li v2 li2 := by
  obtain ⟨tag, g⟩ := h.ex
  exact (Try.err_some g.r hf).mono fun _ _ ⟨z, e1, _, e3, e4⟩ => ⟨z, e1, e3, h.below e4⟩
theorem Try.assertFault (z : Nat) (w : World) : Sem.run Try.prog (Instr.typeAssert (.iface 43 (.pointer (some ⟨z, 0, none⟩))) 41 43 true) w = .ok (.tuple #[.pointer (some ⟨z, 0, none⟩), .bool true]) w := by kernel_rfl
/-- The bytes that were given, k of the eight behind them laid. -/
def Wi.gv (b : List UInt8) (k : Nat) : List UInt8 := b ++ (List.replicate k 201 ++ List.replicate (8 - k) 0)
theorem Wi.gv_len (b : List UInt8) (k : Nat) (h : k ≤ 8) : (Wi.gv b k).length = b.length + 8 := by simp [Wi.gv]; omega
theorem Wi.gv_set (b : List UInt8) (k : Nat) (h : k < 8) : (Wi.gv b k).set (b.length + k) 201 = Wi.gv b (k + 1) := by
  unfold Wi.gv
  rw [List.set_append_right _ _ (by omega), show b.length + k - b.length = k by omega, List.set_append_right _ _ (by simp)]
  obtain ⟨m, hm⟩ : ∃ m, 8 - k = m + 1 := ⟨8 - k - 1, by omega⟩
  rw [hm, show 8 - (k + 1) = m by omega, List.replicate_succ, List.length_replicate, Nat.sub_self, List.set_cons_zero, List.replicate_succ', List.append_assoc]
  rfl
/-- The same, k of them written over. -/
def Wi.tk (b : List UInt8) (k : Nat) : List UInt8 := List.replicate k 202 ++ (b ++ List.replicate 8 201).drop k
theorem Wi.tk_len (b : List UInt8) (k : Nat) (h : k ≤ b.length + 8) : (Wi.tk b k).length = b.length + 8 := by simp [Wi.tk]; omega
theorem Wi.tk_set (b : List UInt8) (k : Nat) (h : k < b.length + 8) : (Wi.tk b k).set k 202 = Wi.tk b (k + 1) := by
  unfold Wi.tk
  have h2 : k < (b ++ List.replicate 8 201).length := by simp; omega
  rw [List.set_append_right _ _ (by simp), List.length_replicate, Nat.sub_self, List.drop_eq_getElem_cons h2, List.set_cons_zero, List.replicate_succ' (n := k), List.append_assoc]
  rfl
theorem Wi.tk_at (b : List UInt8) (k : Nat) (h : k < b.length + 8) : ∃ hk : k < (Wi.tk b k).length, (Wi.tk b k)[k] = if hb : k < b.length then b[k] else 201 := by
  refine ⟨by rw [Wi.tk_len b k (by omega)]; exact h, ?_⟩
  simp only [Wi.tk]
  rw [List.getElem_append_right (by simp)]
  simp only [List.length_replicate, Nat.sub_self, List.getElem_drop, Nat.add_zero]
  split
  · rename_i hb; rw [List.getElem_append_left hb]
  · rename_i hb; rw [List.getElem_append_right (by omega), List.getElem_replicate]
theorem Wi.bc_set (D : List UInt8) (i : Nat) (x : UInt8) : (Lib.byteCells D).toArray.setIfInBounds i (.int .u8 (x.toNat : Nat)) = (Lib.byteCells (D.set i x)).toArray := by
  simp [Lib.byteCells, List.map_set]
end Go.Proofs
