/-
  Laid together by packg.py of OaF OaG OaH OaI OaJ.
-/
import Derived.Test.YtbnokhaimcpggaaRaA
import Derived.Test.YtbnokhaimcpggaaEg
import Derived.Lib.AppendStr
namespace Go.Proofs
open Go.RowKit Go.Dk
theorem Dk.strCs (b : List UInt8) : Lib.strCells ⟨b.toArray⟩ = Lib.byteCells b := by simp [Lib.strCells, Lib.byteCells]
/-- 'append' of a text. -/
theorem Try.xAppS {ops : Array Oper} {rest : List Oper} {o : Oper} {a : Act} {Q : Exit → Act → World → Prop} (hgd : o.guard = none) (s y : Operand)
    (ho : o.op = .call { callee := .builtin .append, args := #[s, y], argTypes := #[22, 9] })
    {B : Nat} {w : World} {V : Value} {b : List UInt8} {n : Nat} (hrow : w.ownsRow B 5 1 V n (Lib.byteCells b)) (hB : B ≤ w.heap.size) (t : List UInt8) (hlen : n + t.length ≤ 1000000) (hs : a.eval s = V) (hy : a.eval y = .string ⟨t.toArray⟩)
    (hK : ∀ V' w', w'.ownsRow B 5 1 V' (n + t.length) (Lib.byteCells (b ++ t)) → Below B w w' → wpList Try.prog ops Q rest (a.put o.dst V') w') : wpList Try.prog ops Q (o :: rest) a w := by
  obtain ⟨i0, hi0, hz0, hz1, hz2⟩ := info_parts Try.info_u8
  have hsz : (⟨t.toArray⟩ : ByteArray).size = t.length := by show t.toArray.size = _; simp
  refine Lib.wpList_append_own_string (w := w) hgd s y 22 9 ho B 5 i0 Try.underlying22 Try.underlying9 hi0 hz0 hz1 hz2 V n _ hs hrow ⟨t.toArray⟩ hy (by rw [hsz]; unfold maxLen; omega) (by rw [hsz]; omega) hB ?_
  intro V' w' h1 h2 h3
  have e : Lib.byteCells b ++ Lib.byteCells t = Lib.byteCells (b ++ t) := by simp [Lib.byteCells]
  rw [hsz, Dk.strCs, e] at h1
  exact hK V' w' h1 ((Below.refl B w).grown h2 hB fun k e1 => (hrow.lt k e1).1)
set_option maxHeartbeats 4000000 in
theorem Try.xBytes_any {w : World} {x : Nat} {Lv Wv : Value} {left kk t : Int} {s : DS} (h : Try.Rfm w x Lv Wv left kk t s) (hd : s.dead = false) (h2 : 2 ≤ s.n) (side : Nat) (hs : side ≤ 1) :
    Calls Try.prog 60 #[.pointer (some ⟨x, 0, none⟩), .int .i64 side] w fun e w' => e = .returned (.string ⟨(area s.view s.n side).toArray⟩) ∧ Below w.heap.size w w' := by
  have hv : s.view.length = 64 * s.n := sink_length _ _ h.lL h.good
  have hal := Dk.area_len hv h2 hs
  have hn := h.n1
  have hH : half s.n ≤ 2047 := by unfold half; omega
  obtain ⟨A, hA⟩ : ∃ A, A = area s.view s.n side := ⟨_, rfl⟩
  obtain ⟨H, hHe⟩ : ∃ H, H = half s.n := ⟨_, rfl⟩
  rw [← hA, ← hHe] at hal
  rw [← hA]
  rw [← hHe] at hH
  have kh : ∀ W, Below w.heap.size w W → Calls Try.prog 68 #[.pointer (some ⟨x, 0, none⟩)] W fun e w' => e = .returned (.int .i64 H) ∧ w' = W := fun W hW => by
    rw [hHe]; exact Try.xHalf_any (h.keep fun j e => hW.block j (h.foot_lt j e)) h2
  have kb : ∀ W, Below w.heap.size w W → ∀ k, k < H → Calls Try.prog 84 #[.pointer (some ⟨x, 0, none⟩), .int .i64 side, .int .i64 (64 * k : Nat)] W fun e w' => e = .returned (.int .i64 (ablk s.n side (64 * k) : Nat)) ∧ w' = W := fun W hW k hk =>
    Try.xBlock_any (h.keep fun j e => hW.block j (h.foot_lt j e)) h2 side hs (64 * k) (by omega)
  have kr : ∀ W, Below w.heap.size w W → ∀ k, k < H → Calls Try.prog 33 #[.pointer (some ⟨x, 0, none⟩), .int .i64 (ablk s.n side (64 * k) : Nat)] W fun e w' => e = .returned (.tuple #[.string ⟨((A.drop (64 * k)).take 64).toArray⟩, .int .i64 0]) ∧ w' = W := fun W hW k hk => by
    rw [hA, Dk.area_blk hv hs (by omega)]
    exact Try.rRead_ok (h.keep fun j e => hW.block j (h.foot_lt j e)) hd _ (Dk.ablk_lt hn hs (by omega))
  clear h hv hn hd h2 hA hHe
  go_enter Try.func60, Try.ntmps60
  go_upto_region 3 with fail
  go_loopw [5, 6] (fun v i wr => ∃ k : Nat, k ≤ H ∧ i = .int .i64 (k : Nat) ∧ wr.ownsRow w.heap.size 5 1 v (64 * k) (Lib.byteCells (A.take (64 * k))) ∧ Below w.heap.size w wr) (fun _ i _ => H - (intOf i).toNat)
  case atStart => exact ⟨0, by omega, rfl, World.ownsRow_nil _ _ _ _, Below.refl _ _⟩
  case round =>
    obtain ⟨k, hk, rfl, hrow, hb⟩ := hrel
    have k1 := kh wr hb
    by_cases hkm : k < H
    · have q0 : (k : Int) < (H : Int) := by omega
      obtain ⟨z, hz⟩ : ∃ z, z = 64 * k := ⟨_, rfl⟩
      have q1 : (64 : Int) * (k : Int) = (z : Int) := by omega
      have hz9 : z < 1000000 := by omega
      have k2 := kb wr hb k hkm
      have k3 := kr wr hb k hkm
      rw [← hz] at k2 k3 hrow
      have htl : ((A.drop z).take 64).length = 64 := by rw [List.length_take, List.length_drop]; omega
      have hta : A.take (64 * (k + 1)) = A.take z ++ (A.drop z).take 64 := by rw [show 64 * (k + 1) = z + 64 by omega, List.take_add]
      have hzz : z + 64 = 64 * (k + 1) := by omega
      have HZZ : Hid _ := hzz
      have HTA : Hid _ := hta
      have HTL : Hid _ := htl
      clear kh kb kr hta htl hzz hz
      generalize (A.drop z).take 64 = T at *
      go_upto_region 6 with (first
        | (go_at_call 68; refine k1.mono ?_; clear k1; rintro e w5 ⟨rfl, e5⟩; have e6 := e5.symm; clear e5; subst e6)
        | (go_at_call 84; refine k2.mono ?_; clear k2; rintro e w5 ⟨rfl, e5⟩; have e6 := e5.symm; clear e5; subst e6)
        | (go_at_call 33; refine k3.mono ?_; clear k3; rintro e w5 ⟨rfl, e5⟩; have e6 := e5.symm; clear e5; subst e6)
        | fail)
      go_upto_region 4 with (first
        | (at_builtin; refine Try.xAppS rfl _ _ rfl hrow hb.size T (by rw [HTL.out]; omega) rfl rfl ?_; intro V2 w2 hrow2 hb2)
        | fail)
      rw [HTL.out, ← HTA.out, HZZ.out] at hrow2
      have hb3 : Below w.heap.size w w2 := hb.trans hb2
      go_wp2
      go_roundw
      case rel => exact ⟨k + 1, by omega, by go_num, hrow2, hb3⟩
      case measure => simp [intOf]; omega
    · have q0 : ¬ (k : Int) < (H : Int) := by omega
      have hkk : k = H := by omega
      subst hkk
      rw [List.take_of_length_le (by omega)] at hrow
      have hc := Try.xConv hrow
      clear kh kb kr
      go_wp2_with (first
        | (go_at_call 68; refine k1.mono ?_; clear k1; rintro e w5 ⟨rfl, e5⟩; have e6 := e5.symm; clear e5; subst e6)
        | fail)
      go_ret
      exact ⟨rfl, hb⟩
end Go.Proofs
namespace Go.Dk
open Go.Proofs
theorem headB_bytes (side gen : Nat) (snap : List UInt8) : Dk.headB 116 side gen snap = (Hd.mk side gen snap.length (fnv snap)).bytes := by
  simp [Dk.headB, Hd.bytes, le]
theorem headB_sum (side gen : Nat) (snap : List UInt8) : num (((Dk.headB 116 side gen snap).drop 16).take 4) = fnv snap := by
  have e : ((Dk.headB 116 side gen snap).drop 16).take 4 = le 4 (fnv snap) := by simp [Dk.headB, le]
  rw [e, num_le]
  exact Nat.mod_eq_of_lt (fnv_lt snap)
theorem headIn_eq (v : List UInt8) (n k : Nat) (hs : (Hd.of (blk v k)).side ≤ 1) (hg : 1 ≤ (Hd.of (blk v k)).gen ∧ (Hd.of (blk v k)).gen ≤ 999999999) (hk : (Hd.of (blk v k)).gen % 2 = k) (hz : (Hd.of (blk v k)).size ≤ 64 * half n) (hl : (area v n (Hd.of (blk v k)).side).length = 64 * half n) :
    headIn v n k = if blk v k = Dk.headB 116 (Hd.of (blk v k)).side (Hd.of (blk v k)).gen ((area v n (Hd.of (blk v k)).side).take (Hd.of (blk v k)).size) then some (Hd.of (blk v k)) else none := by
  generalize hb : blk v k = b at *
  obtain ⟨S, hS⟩ : ∃ S, S = (area v n (Hd.of b).side).take (Hd.of b).size := ⟨_, rfl⟩
  have hSl : S.length = (Hd.of b).size := by rw [hS, List.length_take, hl]; omega
  rw [← hS]
  unfold headIn headS
  rw [hb]
  by_cases e : b = Dk.headB 116 (Hd.of b).side (Hd.of b).gen S
  · have h1 : (Hd.of b).sum = fnv S := by
      show num ((b.drop 16).take 4) = _
      rw [e]; exact headB_sum _ _ _
    have h2 : (Hd.of b).bytes = b := by
      have h3 := headB_bytes (Hd.of b).side (Hd.of b).gen S
      rw [hSl, ← h1, ← e] at h3
      exact h3.symm
    rw [if_pos e, if_neg (by rintro (h | h | h | h | h) <;> first | omega | exact h h2)]
    simp only
    rw [if_neg (by omega), ← hS, if_neg (by rw [h1]; simp)]
  · rw [if_neg e]
    by_cases h2 : (Hd.of b).bytes = b
    · rw [if_neg (by rintro (h | h | h | h | h) <;> first | omega | exact h h2)]
      simp only
      rw [if_neg (by omega), ← hS, if_pos (fun h4 => e ?_)]
      have h3 := headB_bytes (Hd.of b).side (Hd.of b).gen S
      rw [hSl, h4] at h3
      exact h2.symm.trans h3.symm
    · rw [if_pos (.inr (.inr (.inr (.inr h2))))]
end Go.Dk
namespace Go.Proofs
open Go.RowKit Go.Dk
theorem Try.results_tmp4 {fn : Func} {t u v x : Tmp} (h : fn.results = #[.tmp t, .tmp u, .tmp v, .tmp x]) (tmps : Array Value) (P : Program) (w : World) :
    (results fn tmps).run P w = .ok (.tuple #[tmps.getD t undef, tmps.getD u undef, tmps.getD v undef, tmps.getD x undef]) w := by
  simp [results, h]
def Try.RightOk (s : DS) (k : Nat) (e : Ending) : Prop := ∃ (t : Bool) (G A : Int) (S : ByteArray), e = .returned (.tuple #[.bool t, .int .i64 G, .int .i64 A, .string S]) ∧ ((t = false ∧ headIn s.view s.n k = none) ∨ (t = true ∧ ∃ h, headIn s.view s.n k = some h ∧ G = (h.gen : Nat) ∧ A = (h.side : Nat) ∧ S.data.toList = (area s.view s.n h.side).take h.size))
theorem headS_none {b : List UInt8} {k : Nat} (h : 1 < (Hd.of b).side ∨ (Hd.of b).gen < 1 ∨ 999999999 < (Hd.of b).gen ∨ (Hd.of b).gen % 2 ≠ k) : headS b k = none := by
  unfold headS
  rw [if_pos (by rcases h with h | h | h | h; exact .inl h; exact .inr (.inl h); exact .inr (.inr (.inl h)); exact .inr (.inr (.inr (.inl h))))]
theorem headIn_none {v : List UInt8} {n k : Nat} (h : 1 < (Hd.of (blk v k)).side ∨ (Hd.of (blk v k)).gen < 1 ∨ 999999999 < (Hd.of (blk v k)).gen ∨ (Hd.of (blk v k)).gen % 2 ≠ k ∨ 64 * half n < (Hd.of (blk v k)).size) : headIn v n k = none := by
  by_cases h5 : 1 < (Hd.of (blk v k)).side ∨ (Hd.of (blk v k)).gen < 1 ∨ 999999999 < (Hd.of (blk v k)).gen ∨ (Hd.of (blk v k)).gen % 2 ≠ k
  · unfold headIn
    rw [headS_none h5]
  · have h6 : 64 * half n < (Hd.of (blk v k)).size := by
      rcases h with h | h | h | h | h
      · exact absurd (.inl h) h5
      · exact absurd (.inr (.inl h)) h5
      · exact absurd (.inr (.inr (.inl h))) h5
      · exact absurd (.inr (.inr (.inr h))) h5
      · exact h
    unfold headIn headS
    by_cases h7 : (Hd.of (blk v k)).bytes ≠ blk v k
    · rw [if_pos (.inr (.inr (.inr (.inr h7))))]
    · rw [if_neg (by rintro (h | h | h | h | h); exact h5 (.inl h); exact h5 (.inr (.inl h)); exact h5 (.inr (.inr (.inl h))); exact h5 (.inr (.inr (.inr h))); exact h7 h)]
      simp only
      rw [if_pos h6]
end Go.Proofs
namespace Go.Proofs
open Go.RowKit Go.Dk
theorem Dk.toList_inj {a b : ByteArray} (h : a.toList = b.toList) : a = b := by
  rw [ByteArray.toList_eq, ByteArray.toList_eq] at h
  cases a; cases b
  simp at h
  rw [h]
section
variable {w : World} {x k : Nat} {S A : ByteArray} {G Z : Nat}
set_option maxHeartbeats 2000000
set_option maxRecDepth 20000
theorem Try.right_side (h64 : S.size = 64) (h6 : 6 < S.size) (q1 : (1 : Int) < (S[6].toNat : Int))
    (k0 : Calls Try.prog 33 #[.pointer (some ⟨x, 0, none⟩), .int .i64 k] w fun e w' => e = .returned (.tuple #[.string S, .int .i64 0]) ∧ w' = w) :
    Calls Try.prog 83 #[.pointer (some ⟨x, 0, none⟩), .int .i64 k] w fun e w' => e = .returned (.tuple #[.bool false, .int .i64 0, .int .i64 0, .string ⟨#[]⟩]) ∧ Below w.heap.size w w' := by
  have q0 : ((S.size : Nat) : Int) = 64 := by omega
  go_enter Try.func83, Try.ntmps83
  go_wp2_with (first
    | (go_at_call 33; refine k0.mono ?_; clear k0; rintro e w5 ⟨rfl, e5⟩; have e6 := e5.symm; clear e5; subst e6)
    | fail)
  refine bodyPost_ret (Try.results_tmp4 (by rfl) _ _ _) rfl ?_
  exact ⟨rfl, Below.refl _ _⟩
theorem Try.right_bad (h64 : S.size = 64) (h6 : 6 < S.size) (hal : S[6].toNat ≤ 1) {N : Nat} (hN : A.size = N) (_hNl : N < 1000000) (_hG : G < 4294967296) (_hZ : Z < 4294967296) (_hk : k ≤ 1)
    (hbad : N < Z ∨ G < 1 ∨ 999999999 < G ∨ G % 2 ≠ k)
    (k0 : Calls Try.prog 33 #[.pointer (some ⟨x, 0, none⟩), .int .i64 k] w fun e w' => e = .returned (.tuple #[.string S, .int .i64 0]) ∧ w' = w)
    (k1 : Calls Try.prog 85 #[.string (S.extract 8 12)] w fun e w' => e = .returned (.int .i64 G) ∧ w' = w)
    (k2 : Calls Try.prog 85 #[.string (S.extract 12 16)] w fun e w' => e = .returned (.int .i64 Z) ∧ w' = w)
    (k3 : Calls Try.prog 60 #[.pointer (some ⟨x, 0, none⟩), .int .i64 (S[6].toNat : Nat)] w fun e w' => e = .returned (.string A) ∧ Below w.heap.size w w') :
    Calls Try.prog 83 #[.pointer (some ⟨x, 0, none⟩), .int .i64 k] w fun e w' => e = .returned (.tuple #[.bool false, .int .i64 0, .int .i64 0, .string ⟨#[]⟩]) ∧ Below w.heap.size w w' := by
  have q0 : ((S.size : Nat) : Int) = 64 := by omega
  have q2 : ¬ (1 : Int) < (S[6].toNat : Int) := by omega
  have q4 : (A.size : Int) = (N : Int) := by omega
  obtain ⟨M, hM⟩ : ∃ M, M = G % 2 := ⟨_, rfl⟩
  have q5 : (G : Int).tmod 2 = (M : Int) := by rw [hM]; exact (Int.ofNat_tmod G 2).symm
  rw [← hM] at hbad
  clear hM hal hN h64
  by_cases b1 : (N : Int) < (Z : Int)
  · clear hbad
    go_enter Try.func83, Try.ntmps83
    go_wp2_with (first
      | (go_at_call 33; refine k0.mono ?_; clear k0; rintro e w5 ⟨rfl, e5⟩; have e6 := e5.symm; clear e5; subst e6)
      | (go_at_call 85; refine k1.mono ?_; clear k1; rintro e w5 ⟨rfl, e5⟩; have e6 := e5.symm; clear e5; subst e6)
      | (go_at_call 85; refine k2.mono ?_; clear k2; rintro e w5 ⟨rfl, e5⟩; have e6 := e5.symm; clear e5; subst e6)
      | (go_at_call 60; refine k3.mono ?_; clear k3; rintro e w5 ⟨rfl, hb5⟩)
      | fail)
    refine bodyPost_ret (Try.results_tmp4 (by rfl) _ _ _) rfl ?_
    exact ⟨rfl, hb5⟩
  · by_cases b2 : (G : Int) < 1
    · clear hbad
      go_enter Try.func83, Try.ntmps83
      go_wp2_with (first
        | (go_at_call 33; refine k0.mono ?_; clear k0; rintro e w5 ⟨rfl, e5⟩; have e6 := e5.symm; clear e5; subst e6)
        | (go_at_call 85; refine k1.mono ?_; clear k1; rintro e w5 ⟨rfl, e5⟩; have e6 := e5.symm; clear e5; subst e6)
        | (go_at_call 85; refine k2.mono ?_; clear k2; rintro e w5 ⟨rfl, e5⟩; have e6 := e5.symm; clear e5; subst e6)
        | (go_at_call 60; refine k3.mono ?_; clear k3; rintro e w5 ⟨rfl, hb5⟩)
        | fail)
      refine bodyPost_ret (Try.results_tmp4 (by rfl) _ _ _) rfl ?_
      exact ⟨rfl, hb5⟩
    · by_cases b3 : (999999999 : Int) < (G : Int)
      · clear hbad
        go_enter Try.func83, Try.ntmps83
        go_wp2_with (first
          | (go_at_call 33; refine k0.mono ?_; clear k0; rintro e w5 ⟨rfl, e5⟩; have e6 := e5.symm; clear e5; subst e6)
          | (go_at_call 85; refine k1.mono ?_; clear k1; rintro e w5 ⟨rfl, e5⟩; have e6 := e5.symm; clear e5; subst e6)
          | (go_at_call 85; refine k2.mono ?_; clear k2; rintro e w5 ⟨rfl, e5⟩; have e6 := e5.symm; clear e5; subst e6)
          | (go_at_call 60; refine k3.mono ?_; clear k3; rintro e w5 ⟨rfl, hb5⟩)
          | fail)
        refine bodyPost_ret (Try.results_tmp4 (by rfl) _ _ _) rfl ?_
        exact ⟨rfl, hb5⟩
      · have b4 : ¬ (M : Int) = (k : Int) := by omega
        have b5 : ((M : Int) != (k : Int)) = true := by simp; omega
        have b6 : ((M : Int) == (k : Int)) = false := by simp; omega
        clear hbad
        go_enter Try.func83, Try.ntmps83
        go_wp2_with (first
          | (go_at_call 33; refine k0.mono ?_; clear k0; rintro e w5 ⟨rfl, e5⟩; have e6 := e5.symm; clear e5; subst e6)
          | (go_at_call 85; refine k1.mono ?_; clear k1; rintro e w5 ⟨rfl, e5⟩; have e6 := e5.symm; clear e5; subst e6)
          | (go_at_call 85; refine k2.mono ?_; clear k2; rintro e w5 ⟨rfl, e5⟩; have e6 := e5.symm; clear e5; subst e6)
          | (go_at_call 60; refine k3.mono ?_; clear k3; rintro e w5 ⟨rfl, hb5⟩)
          | fail)
        refine bodyPost_ret (Try.results_tmp4 (by rfl) _ _ _) rfl ?_
        exact ⟨rfl, hb5⟩
theorem Try.right_good (h64 : S.size = 64) (h6 : 6 < S.size) (hal : S[6].toNat ≤ 1) {N : Nat} (hN : A.size = N) (_hNl : N < 1000000) (hG : G < 4294967296) (_hZ : Z < 4294967296) (_hk : k ≤ 1)
    (b1 : Z ≤ N) (b2 : 1 ≤ G) (b3 : G ≤ 999999999) (b4 : G % 2 = k) {T : ByteArray}
    (k0 : Calls Try.prog 33 #[.pointer (some ⟨x, 0, none⟩), .int .i64 k] w fun e w' => e = .returned (.tuple #[.string S, .int .i64 0]) ∧ w' = w)
    (k1 : Calls Try.prog 85 #[.string (S.extract 8 12)] w fun e w' => e = .returned (.int .i64 G) ∧ w' = w)
    (k2 : Calls Try.prog 85 #[.string (S.extract 12 16)] w fun e w' => e = .returned (.int .i64 Z) ∧ w' = w)
    (k3 : Calls Try.prog 60 #[.pointer (some ⟨x, 0, none⟩), .int .i64 (S[6].toNat : Nat)] w fun e w' => e = .returned (.string A) ∧ Below w.heap.size w w')
    (k4 : ∀ W, Calls Try.prog 89 #[.int .i64 116, .int .i64 (S[6].toNat : Nat), .int .i64 G, .string (A.extract 0 Z)] W fun e w' => e = .returned (.string T) ∧ Below W.heap.size W w') :
    Calls Try.prog 83 #[.pointer (some ⟨x, 0, none⟩), .int .i64 k] w fun e w' => e = .returned (.tuple #[.bool (decide (S = T)), .int .i64 G, .int .i64 (S[6].toNat : Nat), .string (A.extract 0 Z)]) ∧ Below w.heap.size w w' := by
  have q0 : ((S.size : Nat) : Int) = 64 := by omega
  have q2 : ¬ (1 : Int) < (S[6].toNat : Int) := by omega
  have q4 : (A.size : Int) = (N : Int) := by omega
  obtain ⟨M, hM⟩ : ∃ M, M = G % 2 := ⟨_, rfl⟩
  have q5 : (G : Int).tmod 2 = (k : Int) := by rw [← b4]; exact (Int.ofNat_tmod G 2).symm
  have c1 : ¬ (N : Int) < (Z : Int) := by omega
  have c2 : ¬ (G : Int) < 1 := by omega
  have c3 : ¬ (999999999 : Int) < (G : Int) := by omega
  have c4 : (Z : Int) ≤ (N : Int) := by omega
  clear hM hal b4 b1 b2 b3 hG hN h64
  go_enter Try.func83, Try.ntmps83
  go_upto_region 11 with (first
    | (go_at_call 33; refine k0.mono ?_; clear k0; rintro e w5 ⟨rfl, e5⟩; have e6 := e5.symm; clear e5; subst e6)
    | (go_at_call 85; refine k1.mono ?_; clear k1; rintro e w5 ⟨rfl, e5⟩; have e6 := e5.symm; clear e5; subst e6)
    | (go_at_call 85; refine k2.mono ?_; clear k2; rintro e w5 ⟨rfl, e5⟩; have e6 := e5.symm; clear e5; subst e6)
    | (go_at_call 60; refine k3.mono ?_; clear k3; rintro e w5 ⟨rfl, hb5⟩)
    | fail)
  go_wp2_with (first
    | (go_at_call 89; refine (k4 _).mono ?_; clear k4; rintro e w7 ⟨rfl, hb7⟩)
    | fail)
  refine bodyPost_ret (Try.results_tmp4 (by rfl) _ _ _) rfl ?_
  refine ⟨?_, hb5.trans (hb7.mono hb5.size)⟩
  by_cases hST : S = T
  · subst hST
    simp
  · have hne : ¬ S.toList = T.toList := fun e => hST (Dk.toList_inj e)
    simp [hne, hST]
end
end Go.Proofs
namespace Go.Proofs
open Go.RowKit Go.Dk
theorem Dk.areaTake (A : ByteArray) (n : Nat) : (A.extract 0 n).data.toList = A.data.toList.take n := by
  rw [Dk.extr]; simp
set_option maxRecDepth 20000 in
theorem Try.xRight_any {w : World} {x : Nat} {Lv Wv : Value} {left kk t : Int} {s : DS} (h : Try.Rfm w x Lv Wv left kk t s) (hd : s.dead = false) (h2 : 8 ≤ s.n) (k : Nat) (hk : k ≤ 1) :
    Calls Try.prog 83 #[.pointer (some ⟨x, 0, none⟩), .int .i64 k] w fun e w' => Try.RightOk s k e ∧ Below w.heap.size w w' := by
  have hv : s.view.length = 64 * s.n := sink_length _ _ h.lL h.good
  have hn := h.n1
  have hbl := blk_length hv (show k < s.n by omega)
  obtain ⟨B, hB⟩ : ∃ B, B = blk s.view k := ⟨_, rfl⟩
  obtain ⟨S, hS⟩ : ∃ S : ByteArray, S = ⟨B.toArray⟩ := ⟨_, rfl⟩
  rw [← hB] at hbl
  have hSd : S.data.toList = B := by rw [hS]
  have h64 : S.size = 64 := by rw [← hbl, ← hSd]; rfl
  have h6 : 6 < S.size := by omega
  have hside : (Hd.of B).side = S[6].toNat := by
    show (B.getD 6 0).toNat = _
    rw [List.getD_eq_getElem?_getD, List.getElem?_eq_getElem (show 6 < B.length by omega)]
    subst hSd
    rfl
  have k0 := Try.rRead_ok h hd k (by omega)
  rw [← hB, ← hS] at k0
  by_cases c1 : 1 < S[6].toNat
  · refine (Try.right_side h64 h6 (by omega) k0).mono fun e w' ⟨e1, e2⟩ => ⟨⟨false, 0, 0, ⟨#[]⟩, e1, .inl ⟨rfl, headIn_none (.inl ?_)⟩⟩, e2⟩
    rw [← hB, hside]; exact c1
  have hal : S[6].toNat ≤ 1 := by omega
  have hal2 := Dk.area_len hv (by omega) (side := S[6].toNat) hal
  have hH : half s.n ≤ 2047 := by unfold half; omega
  have k1 := Try.xNumber_any w (S.extract 8 12) (by rw [ByteArray.size_extract]; omega)
  have k2 := Try.xNumber_any w (S.extract 12 16) (by rw [ByteArray.size_extract]; omega)
  rw [Dk.extr, hSd] at k1 k2
  have k3 := Try.xBytes_any h hd (by omega) S[6].toNat hal
  obtain ⟨A, hA⟩ : ∃ A : ByteArray, A = ⟨(area s.view s.n S[6].toNat).toArray⟩ := ⟨_, rfl⟩
  have hAd : A.data.toList = area s.view s.n S[6].toNat := by rw [hA]
  have hAn : A.size = 64 * half s.n := by rw [← hal2, ← hAd]; rfl
  rw [← hA] at k3
  have hgen : num ((B.drop 8).take 4) = (Hd.of B).gen := rfl
  have hsz : num ((B.drop 12).take 4) = (Hd.of B).size := rfl
  rw [show 12 - 8 = 4 from rfl, hgen] at k1
  rw [show 16 - 12 = 4 from rfl, hsz] at k2
  have hlt : ∀ q, num ((B.drop q).take 4) < 4294967296 := fun q => by
    have h1 := num_lt ((B.drop q).take 4)
    have h2 : ((B.drop q).take 4).length ≤ 4 := by rw [List.length_take]; omega
    have h3 : 256 ^ ((B.drop q).take 4).length ≤ 256 ^ 4 := Nat.pow_le_pow_right (by omega) h2
    have : (256 : Nat) ^ 4 = 4294967296 := by decide
    omega
  have hG := hlt 8
  have hZ := hlt 12
  rw [hgen] at hG
  rw [hsz] at hZ
  by_cases hbad : 64 * half s.n < (Hd.of B).size ∨ (Hd.of B).gen < 1 ∨ 999999999 < (Hd.of B).gen ∨ (Hd.of B).gen % 2 ≠ k
  · refine (Try.right_bad h64 h6 hal hAn (by omega) hG hZ hk hbad k0 k1 k2 k3).mono fun e w' ⟨e1, e2⟩ => ⟨⟨false, 0, 0, ⟨#[]⟩, e1, .inl ⟨rfl, headIn_none ?_⟩⟩, e2⟩
    rw [← hB]
    rcases hbad with c | c | c | c
    · exact .inr (.inr (.inr (.inr c)))
    · exact .inr (.inl c)
    · exact .inr (.inr (.inl c))
    · exact .inr (.inr (.inr (.inl c)))
  · have b1 : (Hd.of B).size ≤ 64 * half s.n := by omega
    have b2 : 1 ≤ (Hd.of B).gen := by omega
    have b3 : (Hd.of B).gen ≤ 999999999 := by omega
    have b4 : (Hd.of B).gen % 2 = k := by omega
    have k4 := fun W => Try.xHead_any W 116 S[6].toNat (Hd.of B).gen (A.extract 0 (Hd.of B).size) (by omega) (by omega) (by omega) (by rw [ByteArray.size_extract]; omega)
    refine (Try.right_good h64 h6 hal hAn (by omega) hG hZ hk b1 b2 b3 b4 k0 k1 k2 k3 k4).mono fun e w' ⟨e1, e2⟩ => ⟨⟨_, _, _, _, e1, ?_⟩, e2⟩
    have hq := headIn_eq s.view s.n k (by rw [← hB, hside]; exact hal) (by rw [← hB]; exact ⟨b2, b3⟩) (by rw [← hB]; exact b4) (by rw [← hB]; exact b1) (by rw [← hB, hside]; exact hal2)
    rw [← hB, hside] at hq
    rw [Dk.areaTake, hAd]
    have hiff : (S = ⟨(Dk.headB 116 S[6].toNat (Hd.of B).gen ((area s.view s.n S[6].toNat).take (Hd.of B).size)).toArray⟩) ↔ B = Dk.headB 116 S[6].toNat (Hd.of B).gen ((area s.view s.n S[6].toNat).take (Hd.of B).size) := by
      constructor
      · intro e
        rw [e] at hSd
        exact hSd.symm
      · intro e
        apply ByteArray.ext
        apply Array.ext'
        rw [hSd]
        exact e
    by_cases c : B = Dk.headB 116 S[6].toNat (Hd.of B).gen ((area s.view s.n S[6].toNat).take (Hd.of B).size)
    · rw [if_pos c] at hq
      refine .inr ⟨by rw [decide_eq_true_eq]; exact hiff.2 c, Hd.of B, hq, rfl, by rw [hside], ?_⟩
      rw [hside]
    · rw [if_neg c] at hq
      exact .inl ⟨by rw [decide_eq_false_iff_not]; exact fun e => c (hiff.1 e), hq⟩
def Try.HoldsOk (s : DS) (e : Ending) : Prop := ∃ (t : Bool) (G A : Int) (S : ByteArray), e = .returned (.tuple #[.bool t, .int .i64 G, .int .i64 A, .string S]) ∧ ((t = false ∧ counting s.view s.n = none) ∨ (t = true ∧ ∃ h, counting s.view s.n = some h ∧ G = (h.gen : Nat) ∧ A = (h.side : Nat) ∧ S.data.toList = (area s.view s.n h.side).take h.size))
theorem Try.xHolds_any {w : World} {x : Nat} {Lv Wv : Value} {left kk t : Int} {s : DS} (h : Try.Rfm w x Lv Wv left kk t s) (hd : s.dead = false) (h2 : 8 ≤ s.n) :
    Calls Try.prog 59 #[.pointer (some ⟨x, 0, none⟩)] w fun e w' => Try.HoldsOk s e ∧ Below w.heap.size w w' := by
  have k0 := Try.xRight_any h hd h2 0 (by omega)
  have k1 : ∀ W, Below w.heap.size w W → Calls Try.prog 83 #[.pointer (some ⟨x, 0, none⟩), .int .i64 1] W fun e w' => Try.RightOk s 1 e ∧ Below W.heap.size W w' := fun W hW => Try.xRight_any (h.keep fun j e => hW.block j (h.foot_lt j e)) hd h2 1 (by omega)
  clear h hd h2
  go_enter Try.func59, Try.ntmps59
  go_upto_region 3 with (first
    | (go_at_call 83; refine k0.mono ?_; clear k0; rintro e w2 ⟨⟨ta, Ga, Aa, Sa, rfl, ha⟩, hb2⟩; have k2 := k1 _ hb2; clear k1; have Ha : Hid _ := ha; clear ha)
    | (go_at_call 83; refine k2.mono ?_; clear k2; rintro e w3 ⟨⟨tb, Gb, Ab, Sb, rfl, hb⟩, hb3⟩; have Hb : Hid _ := hb; clear hb)
    | fail)
  have hB : Below w.heap.size w w3 := hb2.trans (hb3.mono hb2.size)
  clear hb2 hb3
  cases ta with
  | false =>
    have e1 : headIn s.view s.n 0 = none := by
      rcases Ha.out with ⟨-, q⟩ | ⟨q, -⟩
      · exact q
      · cases q
    go_wp2
    refine bodyPost_ret (Try.results_tmp4 (by rfl) _ _ _) rfl ?_
    refine ⟨⟨_, _, _, _, rfl, ?_⟩, hB⟩
    unfold counting
    rw [e1]
    exact Hb.out
  | true =>
    obtain ⟨H0, e1, rfl, rfl, e4⟩ : ∃ h, headIn s.view s.n 0 = some h ∧ Ga = (h.gen : Nat) ∧ Aa = (h.side : Nat) ∧ Sa.data.toList = (area s.view s.n h.side).take h.size := by
      rcases Ha.out with ⟨q, -⟩ | ⟨-, q⟩
      · cases q
      · exact q
    clear Ha
    have E1 : Hid _ := e1
    have E4 : Hid _ := e4
    clear e1 e4
    cases tb with
    | false =>
      have e5 : headIn s.view s.n 1 = none := by
        rcases Hb.out with ⟨-, q⟩ | ⟨q, -⟩
        · exact q
        · cases q
      have E5 : Hid _ := e5
      clear e5 Hb
      go_wp2
      refine bodyPost_ret (Try.results_tmp4 (by rfl) _ _ _) rfl ?_
      refine ⟨⟨_, _, _, _, rfl, ?_⟩, hB⟩
      unfold counting
      rw [E1.out, E5.out]
      exact .inr ⟨rfl, H0, rfl, rfl, rfl, E4.out⟩
    | true =>
      obtain ⟨H1, e5, rfl, rfl, e8⟩ : ∃ h, headIn s.view s.n 1 = some h ∧ Gb = (h.gen : Nat) ∧ Ab = (h.side : Nat) ∧ Sb.data.toList = (area s.view s.n h.side).take h.size := by
        rcases Hb.out with ⟨q, -⟩ | ⟨-, q⟩
        · cases q
        · exact q
      have E5 : Hid _ := e5
      have E8 : Hid _ := e8
      clear e5 e8 Hb
      by_cases hg : H1.gen < H0.gen
      · have q : (H1.gen : Int) < (H0.gen : Int) := by omega
        have Hg : Hid _ := hg
        clear hg
        go_wp2
        refine bodyPost_ret (Try.results_tmp4 (by rfl) _ _ _) rfl ?_
        refine ⟨⟨_, _, _, _, rfl, ?_⟩, hB⟩
        unfold counting
        rw [E1.out, E5.out]
        simp only
        rw [if_pos Hg.out]
        exact .inr ⟨trivial, H0, rfl, rfl, rfl, E4.out⟩
      · have q : ¬ (H1.gen : Int) < (H0.gen : Int) := by omega
        have Hg : Hid _ := hg
        clear hg
        go_wp2
        refine bodyPost_ret (Try.results_tmp4 (by rfl) _ _ _) rfl ?_
        refine ⟨⟨_, _, _, _, rfl, ?_⟩, hB⟩
        unfold counting
        rw [E1.out, E5.out]
        simp only
        rw [if_neg Hg.out]
        exact .inr ⟨trivial, H1, rfl, rfl, rfl, E8.out⟩
end Go.Proofs
