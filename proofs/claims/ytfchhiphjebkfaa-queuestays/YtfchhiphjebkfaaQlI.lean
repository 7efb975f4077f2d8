/-
  All, and who goes through it (things: int).
-/
import Derived.Test.YtfchhiphjebkfaaQk
import Derived.Test.YtfchhiphjebkfaaQdI
import Derived.Shelf.Abstract
import Derived.Shelf.RegionOpen
import Derived.OwnWalkIn
import Derived.TacticsInMore
import Derived.LoopNIn
import Derived.LoopIn
namespace Go.Proofs
open Go.RowKit Go.Wi Go.Qu Go.Shelf
set_option maxHeartbeats 1000000 in
theorem Try.cloneI {w : World} {v : Value} {g : Option Nat} {xs : List Int} (h : Row 3 w v g (xs.map (Value.int .i64))) (hn : xs.length ≤ 1000000) :
    Calls Try.prog 26 #[v] w fun e w' => ∃ a n cap g', e = .returned (.slice a n cap) ∧ Row 3 w' (.slice a n cap) g' (xs.map (Value.int .i64)) ∧ (∀ k, g' = some k → w.heap.size ≤ k) ∧ Below w.heap.size w w' := by
  obtain ⟨i0, hi0, hz0, hz1, hz2⟩ := info_parts Try.infoI
  have hlen : (xs.map (Value.int .i64)).length ≤ 1000000 := by simpa using hn
  have hone : ∀ u ∈ xs.map (Value.int .i64), u.oneCell' = true := fun u hu => by obtain ⟨c, _, rfl⟩ := List.mem_map.1 hu; rfl
  have hq : ∀ (w : World) (a : Option Addr) (n c : Nat), (binOp .eql 22 (.slice a n c) (.slice none 0 0)).run Try.prog w = .ok (.bool a.isNone) w := fun w a n c => Lib.run_eql_slice_nil w 22 3 a n c 0 0 Try.underlying22
  obtain ⟨a, cap, rfl⟩ := h.form
  cases a with
  | none =>
    have h0 : (xs.map (Value.int .i64)) = [] ∧ cap = 0 := by
      rcases h.ex with ⟨a1, e1, e2, _⟩ | ⟨k, o, c, cur, e1, _⟩
      · exact ⟨e2, by injection e1⟩
      · cases e1
    obtain ⟨h0, rfl⟩ := h0
    rw [h0] at h ⊢
    have HR : Hid _ := Row.nil 3 w
    clear h h0 hlen hone
    simp only [List.length_nil]
    go_enter Try.func26, Try.ntmps26
    go_wp2
    go_ret
    exact ⟨none, 0, 0, none, rfl, HR.out, fun k e => (by cases e), Below.refl _ _⟩
  | some ad =>
    have HR : Hid _ := h
    have HL : Hid _ := hlen
    have HO : Hid _ := hone
    clear h hlen hone
    go_enter Try.func26, Try.ntmps26
    go_wp2_with (first | (at_builtin; refine app_clone rfl _ _ rfl Try.underlying22 hi0 hz0 hz1 hz2 rfl (by omega) HR.out HL.out HO.out rfl (by simp [Act.eval]) ?_; intro ad1 n1 cap1 w1 ha hb) | fail)
    go_ret
    obtain ⟨g', h1, h2⟩ := ha
    exact ⟨_, _, _, g', rfl, h1, h2, hb⟩
/-- What All gave. -/
abbrev Try.SqI (w : World) (own : Nat → Prop) (x : Nat) (xs : List Int) : Prop := Sq 22 3 w own x (xs.map (Value.int .i64))
set_option maxHeartbeats 1000000 in
theorem Try.allI {w : World} {own : Nat → Prop} {b : Nat} {s : Qs Int} (h : Try.QuI w own b s) :
    Calls Try.prog 19 #[.pointer (some ⟨b, 0, none⟩)] w fun e w' => ∃ x, e = .returned (.func (.func 27) #[] #[.pointer (some ⟨x, 0, none⟩)]) ∧ Try.SqI w' (fun k => w.heap.size ≤ k ∧ k < w'.heap.size) x s.l ∧ Below w.heap.size w w' := by
  obtain ⟨v, g, hb, hr, hg, ho⟩ := h.ex
  have c3 := cell_of_row w b 3 _ _ _ hb
  have hi := h.inn
  have h1 := hi.ln
  have h2 := hi.s2
  have hcl := Try.cloneI hr (by omega)
  have hfr := hr.form
  clear hb hr hg ho h hi h1 h2
  obtain ⟨a, cap, rfl⟩ := hfr
  rw [List.length_map] at hcl c3
  go_enter Try.func19, Try.ntmps19
  go_wp2_with (first
    | (go_at_call 26; refine hcl.mono ?_; clear hcl; rintro z w1 ⟨a1, n1, cap1, g1, rfl, hr1, hg1, hb1⟩; have HR : Hid _ := hr1; have HG : Hid _ := hg1; have HB : Hid _ := hb1; clear hr1 hg1 hb1)
    | fail)
  go_ret
  refine ⟨w1.heap.size, rfl, ⟨⟨_, g1, heap_alloc_new w1 _, HR.out.keep fun k e => Below.heap_alloc w1 _ k (HR.out.lt e), fun k e => ⟨HG.out k e, ?_⟩⟩, ⟨HB.out.size, by simp⟩, fun k e => e.2⟩, HB.out.alloc HB.out.size _⟩
  have := HR.out.lt e
  simp
  omega
attribute [local go_sem] Oper.semAt_some
set_option maxRecDepth 100000 in
set_option maxHeartbeats 4000000 in
theorem Try.genI (n : Nat) (hn : 1 ≤ n) (l x : Nat) (own : Nat → Prop) (xs : List Int) (hxs : xs.length ≤ 1000000) (J Jx : List Int → World → Prop) (W : World)
    (hY : ∀ pre y W, J pre W → pre ++ [y] <+: xs → YieldAt Fence.wide (n - 1) Try.prog l #[Value.int .i64 y] W fun e W' =>
      (e = .returned (.bool true) ∧ J (pre ++ [y]) W' ∧ Kp own W W') ∨ (e = .returned (.bool false) ∧ Jx (pre ++ [y]) W'))
    (hS : Try.SqI W own x xs) (h0 : J [] W) :
    CallsIn Fence.wide n Try.prog 27 #[.func (.yield l) #[] #[], .pointer (some ⟨x, 0, none⟩)] W fun e W' => (∃ v, e = .returned v) ∧
      ((∃ ys, ys = xs ∧ J ys W') ∨ (∃ pre, pre <+: xs ∧ Jx pre W')) := by
  obtain ⟨v, g, hx, hr, ho⟩ := hS.ex
  have c0 := cell_of_row W x 0 _ _ _ hx
  obtain ⟨a, cap, rfl⟩ := hr.form
  rw [List.length_map] at c0
  have hcell : ∀ i (hi : i < xs.length), ∃ k o, a = some ⟨k, o, none⟩ ∧ ∀ wr, Kp own W wr → wr.cell? ⟨k, o + i, none⟩ = some (Value.int .i64 xs[i]) := fun i hi => by
    rcases hr.ex with ⟨a1, e1, e2, _⟩ | ⟨k, o, c, cur, e1, e2, h3, h4, h5, h6, h7⟩
    · rw [List.map_eq_nil_iff] at e2; rw [e2] at hi; simp at hi
    · injection e1 with e1 _ _
      refine ⟨k, o, e1, fun wr hk => ?_⟩
      rw [cell_of_row _ _ _ _ _ _ ((hk.block k (ho k e2)).trans h3)]
      exact h7 i _ (by simp [hi])
  have HC : Hid _ := hcell
  clear hcell hr hx ho hS
  refine callsIn_of_wp Try.func27 rfl trivial ?_ rfl
  simp only [Try.ntmps27, List.size_toArray, List.length_cons, List.length_nil, Nat.reduceAdd, Nat.reduceSub, Array.replicate_succ, Array.replicate_zero, List.push_toArray, List.append_toArray, List.nil_append, List.cons_append]
  gi_wp2
  gi_loopw [7] (fun v wr => ∃ i : Nat, v = .int .i64 i ∧ i ≤ xs.length ∧ Kp own W wr ∧ J (xs.take i) wr) (fun v _ => xs.length - (intOf v).toNat)
  case atStart => exact ⟨0, rfl, by omega, Kp.refl _ _, h0⟩
  case round =>
    obtain ⟨i, rfl, hil, hkp, hJ⟩ := hrel
    by_cases hi : i < xs.length
    · obtain ⟨k, o, rfl, hc⟩ := HC.out i hi
      have hck := hc wr hkp
      have q1 : (i : Int) < (xs.length : Int) := by omega
      have htk : xs.take i ++ [xs[i]] = xs.take (i + 1) := by rw [List.take_add_one, List.getElem?_eq_getElem hi]; rfl
      obtain ⟨fn, tmps, assign, body, hy, hR⟩ := hY (xs.take i) xs[i] wr hJ (by rw [htk]; exact List.take_prefix _ _)
      rw [htk] at hR
      have HKP : Hid _ := hkp
      clear hJ hc hkp htk HC hY
      generalize xs[i] = y at *
      gi_wp2
      refine hR.mono ?_
      rintro e W3 (⟨rfl, hJ3, hk3⟩ | ⟨rfl, hJx3⟩)
      · have HJ : Hid _ := hJ3
        have HK3 : Hid _ := hk3
        clear hJ3 hk3
        gi_wp2
        go_roundw
        case rel => exact ⟨i + 1, by go_num, by omega, Kp_t HKP.out HK3.out, HJ.out⟩
        case measure => simp [intOf]; omega
      · have HJ : Hid _ := hJx3
        clear hJx3
        gi_wp2
        refine bodyPost_ret (results_none rfl _ _ _) rfl ?_
        exact ⟨⟨_, rfl⟩, .inr ⟨xs.take (i + 1), List.take_prefix _ _, HJ.out⟩⟩
    · have q1 : ¬ (i : Int) < (xs.length : Int) := by omega
      obtain rfl : i = xs.length := by omega
      rw [List.take_length] at hJ
      have HJ : Hid _ := hJ
      clear hJ hY HC
      gi_wp2
      go_end0
      exact ⟨⟨_, rfl⟩, .inl HJ.out⟩
theorem Try.seqI (n : Nat) (hn : 1 ≤ n) (x : Nat) (own : Nat → Prop) (xs : List Int) (hxs : xs.length ≤ 1000000) (w : World) (hS : Try.SqI w own x xs) :
    SeqStopsK Fence.wide n Try.prog 27 #[.pointer (some ⟨x, 0, none⟩)] (fun y => #[Value.int .i64 y]) (Kp own) (fun ys => ys = xs) (fun pre => pre <+: xs) xs.length w := by
  intro l J Jx W hW _ _ hY h0
  refine Try.genI n hn l x own xs hxs J Jx W (fun pre y W1 h1 hp => hY pre y W1 h1 ?_) (hS.keep ⟨hW.size, fun k e => hW.block k (hS.lt k e)⟩) h0
  have := hp.length_le
  simp only [List.length_append, List.length_cons, List.length_nil] at this
  omega
end Go.Proofs
