/-
  FEED: a walk over texts that hands each to a yield.
-/
import Derived.Test.YtdhgpkacilcfgaaGreatDoorFgB
import Derived.RangeFuncGives
import Derived.RangeFuncLeaves
import Derived.Shelf.Abstract
import Derived.OwnWalkIn
import Derived.TacticsInMore
import Derived.LoopNIn
import Derived.LoopIn
namespace Go.Proofs
open Go.RowKit Go.Wi Go.Fd Go.Sort
attribute [local go_sem] Oper.semAt_some
theorem Fd.take_at {L : List (List UInt8)} {k : Nat} (h : k < L.length) : L.take (k + 1) = L.take k ++ [L[k]!] := by
  rw [getElem!_pos L k h, List.take_succ_eq_append_getElem h]
set_option maxRecDepth 100000 in
set_option maxHeartbeats 2000000 in
theorem Tryz.values1 (F : Fence) (n : Nat) (hF : F.fn 49) (hro : F.round = none) (hn : 1 ≤ n) (l Bs n0 b off cap : Nat) (L : List (List UInt8)) (hL : L.length ≤ 8796093022208) (hb : b < n0) (w0 : World) (J : List (List UInt8) → World → Prop)
    (hJB : ∀ pre W, J pre W → Below n0 w0 W)
    (hY : ∀ pre x W, J pre W → pre.length < L.length → YieldAt F (n - 1) Tryz.prog l #[encStr x] W fun e W' => e = .returned (.bool true) ∧ J (pre ++ [x]) W')
    (W : World) (hBs : W.cell? ⟨Bs, 0, none⟩ = some (.slice (some ⟨b, off, none⟩) L.length cap)) (hc : ∀ j, j < L.length → w0.cell? ⟨b, off + j, none⟩ = some (encStr L[j]!)) (h0 : J [] W) :
    CallsIn F n Tryz.prog 49 #[.func (.yield l) #[] #[], .pointer (some ⟨Bs, 0, none⟩)] W fun e W' => (∃ v, e = .returned v) ∧ J L W' := by
  have HJB : Hid (∀ pre W, J pre W → Below n0 w0 W) := hJB
  have HC : Hid (∀ j, j < L.length → w0.cell? ⟨b, off + j, none⟩ = some (encStr L[j]!)) := hc
  clear hJB hc
  refine callsIn_of_wp Tryz.func49 rfl hF ?_ hro
  simp only [Tryz.ntmps49, List.size_toArray, List.length_cons, List.length_nil, Nat.reduceAdd, Nat.reduceSub, Array.replicate_succ, Array.replicate_zero, List.push_toArray, List.append_toArray, List.nil_append, List.cons_append]
  gi_wp2
  gi_loopw [7] (fun i wr => ∃ k : Nat, k ≤ L.length ∧ i = .int .i64 k ∧ J (L.take k) wr) (fun i _ => L.length - (intOf i).toNat)
  case atStart => exact ⟨0, Nat.zero_le _, rfl, by simpa using h0⟩
  case round =>
    obtain ⟨k, hk, rfl, hJs⟩ := hrel
    by_cases hlt : k < L.length
    · have hbel := HJB.out _ _ hJs
      have hcx : wr.cell? ⟨b, off + k, none⟩ = some (encStr L[k]!) := (hbel.cell (p := ⟨b, off + k, none⟩) hb).trans (HC.out k hlt)
      obtain ⟨fn, tmps, assign, body, hy, hR⟩ := hY _ L[k]! wr hJs (by rw [List.length_take]; omega)
      rw [← Fd.take_at hlt] at hR
      clear hbel
      generalize L[k]! = x at hcx hy hR
      gi_wp2
      refine hR.mono ?_
      rintro e W3 ⟨rfl, hJ3⟩
      gi_wp2
      go_roundw
      case rel => exact ⟨k + 1, by omega, by simp, hJ3⟩
      case measure => simp [intOf]; omega
    · obtain rfl : k = L.length := by omega
      rw [List.take_length] at hJs
      gi_wp2
      go_end0
      exact ⟨⟨_, rfl⟩, hJs⟩
end Go.Proofs
