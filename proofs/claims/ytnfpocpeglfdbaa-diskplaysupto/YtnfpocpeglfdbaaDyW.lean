/-
  The script: the example, and what came in behind it.
-/
import Derived.Test.YtnfpocpeglfdbaaDyV
import Derived.Deep.AppendLies
import Derived.Deep.Upon
namespace Go.Dk
/-- A step. -/
structure Opn where
  K : Int
  N : Int
  I : Int
  b : ByteArray
  ck : Int
  ct : Int
def Opn.cs (o : Opn) : List Value := [.int .i64 o.K, .int .i64 o.N, .int .i64 o.I, .string o.b, .int .i64 o.ck, .int .i64 o.ct]
def ocs (l : List Opn) : List Value := l.flatMap Opn.cs
theorem ocs_len (l : List Opn) : (ocs l).length = l.length * 6 := by
  induction l with
  | nil => rfl
  | cons c r ih =>
    have e : ocs (c :: r) = c.cs ++ ocs r := rfl
    rw [e, List.length_append, ih]
    show 6 + _ = _
    simp; omega
theorem ocs_app (a b : List Opn) : ocs (a ++ b) = ocs a ++ ocs b := by simp [ocs]
theorem ocs_at : ∀ (W : List Opn) (i : Nat) (p : Opn), W[i]? = some p → ∀ k u, p.cs[k]? = some u → (ocs W)[i * 6 + k]? = some u
  | [], i, h, e => by simp at e
  | c :: r, 0, p, e => fun k u hu => by
    simp at e
    subst e
    have e1 : ocs (c :: r) = c.cs ++ ocs r := rfl
    rw [e1, Nat.zero_mul, Nat.zero_add]
    rw [List.getElem?_append_left (List.getElem?_eq_some_iff.1 hu).1]
    exact hu
  | c :: r, i + 1, p, e => fun k u hu => by
    have := ocs_at r i p (by simpa using e) k u hu
    have e1 : ocs (c :: r) = c.cs ++ ocs r := rfl
    rw [e1, List.getElem?_append_right (by show 6 ≤ _; omega)]
    rw [show (i + 1) * 6 + k - c.cs.length = i * 6 + k by show (i + 1) * 6 + k - 6 = _; omega]
    exact this
theorem ocs_one (l : List Opn) : ∀ u ∈ ocs l, u.oneCell' = true := fun u hu => by
  obtain ⟨o, -, h⟩ := List.mem_flatMap.1 hu
  simp [Opn.cs] at h
  rcases h with rfl | rfl | rfl | rfl | rfl | rfl <;> rfl
def exOps : List Opn := [⟨1, 0, 7, ⟨#[]⟩, 0, 0⟩, ⟨1, 0, 8, ⟨#[]⟩, 0, 0⟩, ⟨3, 0, 3, ⟨#[97, 98]⟩, 0, 0⟩, ⟨3, 0, 3, ⟨#[99, 100, 101]⟩, 0, 0⟩, ⟨2, 0, 3, ⟨#[]⟩, 0, 0⟩, ⟨6, 0, 0, ⟨#[]⟩, 1, 0⟩, ⟨2, 0, 3, ⟨#[]⟩, 0, 0⟩, ⟨7, 0, 0, ⟨#[]⟩, 0, 0⟩, ⟨2, 0, 3, ⟨#[]⟩, 0, 0⟩, ⟨3, 0, 3, ⟨#[120, 121, 122]⟩, 0, 0⟩, ⟨6, 0, 0, ⟨#[]⟩, 0, 2⟩, ⟨7, 0, 0, ⟨#[]⟩, 0, 0⟩, ⟨2, 0, 3, ⟨#[]⟩, 0, 0⟩, ⟨5, 0, 1, ⟨#[]⟩, 9, 0⟩, ⟨3, 0, 0, ⟨#[112]⟩, 0, 0⟩, ⟨3, 0, 1, ⟨#[113]⟩, 0, 0⟩, ⟨7, 0, 0, ⟨#[]⟩, 0, 0⟩, ⟨2, 0, 1, ⟨#[]⟩, 0, 0⟩, ⟨4, 0, 0, ⟨#[]⟩, 0, 0⟩, ⟨8, 0, 0, ⟨#[]⟩, 0, 0⟩, ⟨9, 0, 0, ⟨#[]⟩, 0, 0⟩]
structure Opn.Fits (o : Opn) : Prop where
  N : -9223372036854775808 ≤ o.N ∧ o.N ≤ 9223372036854775807
  I : o.I ≤ 9223372036854775807
  b : o.b.size ≤ 1048576
theorem exFits : ∀ o ∈ exOps, o.Fits := fun o ho => by
  simp only [exOps, List.mem_cons, List.not_mem_nil, or_false] at ho
  rcases ho with rfl | rfl | rfl | rfl | rfl | rfl | rfl | rfl | rfl | rfl | rfl | rfl | rfl | rfl | rfl | rfl | rfl | rfl | rfl | rfl | rfl <;> exact ⟨by decide, by decide, by decide⟩
/-- A script that came in. -/
structure OpsIn (w : World) (v : Value) (l : List Opn) : Prop where
  ex : ∃ ad cap, v = .slice ad l.length cap ∧ l.length ≤ cap ∧ (l = [] ∨ ∃ b off, ad = some ⟨b, off, none⟩ ∧ b < w.heap.size ∧ ∀ j u, (ocs l)[j]? = some u → w.cell? ⟨b, off + j, none⟩ = some u)
  fits : ∀ o ∈ l, o.Fits
end Go.Dk
namespace Go.Proofs
open Go.RowKit Go.Dk
theorem Try.info_op : (Try.prog.info? 33).map (fun i => (i.zero.map (·.cells.size), i.size, i.bytes)) = some (some 6, 6, 56) := by kernel_rfl
set_option maxRecDepth 20000 in
set_option maxHeartbeats 8000000 in
theorem Try.example_any (w : World) : Calls Try.prog 4 #[] w fun e w' => e = .returned (.slice (some ⟨w.heap.size, 0, none⟩) 21 21) ∧ w' = w.alloc (.cells (ocs exOps).toArray 33) := by
  go_enter Try.func4, Try.ntmps4
  go_wp2
  go_ret
  exact ⟨rfl, rfl⟩
/-- 'append' of a script behind another. -/
theorem Try.appOps {ops : Array Oper} {rest : List Oper} {o : Oper} {a : Act} {Q : Exit → Act → World → Prop} (hgd : o.guard = none) (s y : Operand)
    (ho : o.op = .call { callee := .builtin .append, args := #[s, y], argTypes := #[22, 22] })
    {w : World} {g n : Nat} {xa l : List Opn} {v : Value} (hg : w.heap[g]? = some (.cells (ocs xa).toArray 33 (0, 0))) (hn : xa.length = n) (hlen : n + l.length ≤ 1000000) (hI : OpsIn w v l) (hs : a.eval s = .slice (some ⟨g, 0, none⟩) n n) (hy : a.eval y = v)
    (hK : ∀ g' cap w', w'.ownsRow g 33 6 (.slice (some ⟨g', 0, none⟩) (n + l.length) cap) (n + l.length) (ocs (xa ++ l)) → Below g w w' → wpList Try.prog ops Q rest (a.put o.dst (.slice (some ⟨g', 0, none⟩) (n + l.length) cap)) w') : wpList Try.prog ops Q (o :: rest) a w := by
  obtain ⟨i0, hi0, hi1⟩ := Option.map_eq_some_iff.1 Try.info_op
  simp only [Prod.mk.injEq] at hi1
  obtain ⟨hz0, hz1, hz2⟩ := hi1
  obtain ⟨zz, hzz, hzs⟩ := Option.map_eq_some_iff.1 hz0
  have hrow : w.ownsRow g 33 6 (.slice (some ⟨g, 0, none⟩) n n) n (ocs xa) := by
    have hl := ocs_len xa
    rw [hn] at hl
    exact ⟨hl, .inr ⟨g, n, _, rfl, Nat.le_refl _, hg, Nat.le_refl _, by unfold maxLen; omega, by simp [hl], by rw [List.take_of_length_le (by simp [hl])]⟩⟩
  obtain ⟨ad, cap, rfl, hcap, hx⟩ := hI.ex
  rcases hx with rfl | ⟨b, off, rfl, hb, hc⟩
  · have hr : (Builtin.append_ #[22, 22] o.type #[.slice (some ⟨g, 0, none⟩) n n, .slice ad 0 cap]).run Try.prog w = .ok (.slice (some ⟨g, 0, none⟩) n n) w := by
      cases ad with
      | none => exact run_append_nothing (P := Try.prog) w 22 22 o.type 33 i0 Try.underlying22 hi0 (some ⟨g, 0, none⟩) n n (Nat.le_refl _) (.slice none 0 cap) (Src.ofNil w Try.underlying22 cap)
      | some d => exact run_append_nothing (P := Try.prog) w 22 22 o.type 33 i0 Try.underlying22 hi0 (some ⟨g, 0, none⟩) n n (Nat.le_refl _) (.slice (some d) 0 cap) (Src.ofSlice w Try.underlying22 d 0 cap [] (by simp) (fun j u hj => by simp at hj) (fun u hu => by cases hu))
    have h2 := hK g n w (by rw [List.append_nil]; exact hrow) (Below.refl _ _)
    refine wpList_plain hgd fun K hK => ?_
    unfold Oper.wp execOp
    simp only [ho, resolve, invoke, builtin, Sem.run_bind, Sem.run_pure, Result.andThen_ok, List.map_toArray, List.map_cons, List.map_nil, hs, hy, hr, List.length_nil]
    exact hK _ _ h2
  · by_cases h0 : l = []
    · subst h0
      have hr : (Builtin.append_ #[22, 22] o.type #[.slice (some ⟨g, 0, none⟩) n n, .slice (some ⟨b, off, none⟩) 0 cap]).run Try.prog w = .ok (.slice (some ⟨g, 0, none⟩) n n) w :=
        run_append_nothing (P := Try.prog) w 22 22 o.type 33 i0 Try.underlying22 hi0 (some ⟨g, 0, none⟩) n n (Nat.le_refl _) (.slice (some ⟨b, off, none⟩) 0 cap) (Src.ofSlice w Try.underlying22 ⟨b, off, none⟩ 0 cap [] (by simp) (fun j u hj => by simp at hj) (fun u hu => by cases hu))
      have h2 := hK g n w (by rw [List.append_nil]; exact hrow) (Below.refl _ _)
      refine wpList_plain hgd fun K hK => ?_
      unfold Oper.wp execOp
      simp only [ho, resolve, invoke, builtin, Sem.run_bind, Sem.run_pure, Result.andThen_ok, List.map_toArray, List.map_cons, List.map_nil, hs, hy, hr, List.length_nil]
      exact hK _ _ h2
    · have hpos : 0 < l.length := List.length_pos_iff.2 h0
      have hgl := Dk.block_lt hg
      refine wpList_append_lies _ hgd s y 22 ho g 33 i0 zz 6 56 Try.underlying22 hi0 hzz hz1 hz2 hzs (by omega) _ n (ocs xa) hs hrow ⟨b, off, none⟩ l.length cap (ocs l) hy (ocs_len l) (fun j u hj => by rw [Addr.add_mid]; exact hc j u hj) (ocs_one l) hpos (by unfold maxLen; omega) (by omega) (Nat.le_of_lt hgl) _ rfl ?_
      intro g' cap' w' h1 h2 h3 h4
      rw [← ocs_app] at h1
      exact hK g' cap' w' h1 ((Below.refl g w).grown h2 (Nat.le_of_lt hgl) (fun k e => by cases e; exact Nat.le_refl _))
end Go.Proofs
