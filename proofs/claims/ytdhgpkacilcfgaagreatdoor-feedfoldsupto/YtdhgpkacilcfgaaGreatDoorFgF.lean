/-
  FEED: texts sorted.
-/
import Derived.Test.YtdhgpkacilcfgaaGreatDoorFgE
import Derived.Sort.OwnSorted
namespace Go.Fd
open Go.Sort Go.Proofs
def asL (b : ByteArray) : List UInt8 := b.data.toList
def asB (x : List UInt8) : ByteArray := ⟨x.toArray⟩
theorem asB_asL (b : ByteArray) : asB (asL b) = b := by cases b; rfl
theorem enc_asL (b : ByteArray) : encStr (asL b) = .string b := by cases b; rfl
theorem enc_asB (x : List UInt8) : encStr x = .string (asB x) := rfl
/-- Texts, sorted. -/
def sortT (l : List ByteArray) : List ByteArray := ((l.map asL).mergeSort fun x y => decide (x ≤ y)).map asB
theorem sortT_len (l : List ByteArray) : (sortT l).length = l.length := by simp [sortT]
theorem sortT_map (l : List ByteArray) : ((l.map asL).mergeSort fun x y => decide (x ≤ y)).map encStr = (sortT l).map Value.string := by
  simp only [sortT, List.map_map]
  rfl
end Go.Fd
namespace Go.Proofs
open Go.RowKit Go.Wi Go.Fd Go.Sort Go.Maps
attribute [local go_sem] Oper.semAt_some
set_option maxRecDepth 100000 in
set_option maxHeartbeats 1000000 in
theorem Tryz.values0 (F : Fence) (n : Nat) (hF : F.fn 49) (hro : F.round = none) (l Bs cap : Nat) (ad : Option Addr) (J : List (List UInt8) → World → Prop)
    (W : World) (hBs : W.cell? ⟨Bs, 0, none⟩ = some (.slice ad 0 cap)) (h0 : J [] W) :
    CallsIn F n Tryz.prog 49 #[.func (.yield l) #[] #[], .pointer (some ⟨Bs, 0, none⟩)] W fun e W' => (∃ v, e = .returned v) ∧ J [] W' := by
  refine callsIn_of_wp Tryz.func49 rfl hF ?_ hro
  simp only [Tryz.ntmps49, List.size_toArray, List.length_cons, List.length_nil, Nat.reduceAdd, Nat.reduceSub, Array.replicate_succ, Array.replicate_zero, List.push_toArray, List.append_toArray, List.nil_append, List.cons_append]
  gi_wp2
  gi_loopw [7] (fun i wr => i = .int .i64 0 ∧ J [] wr) (fun _ _ => 0)
  case atStart => exact ⟨rfl, h0⟩
  case round =>
    obtain ⟨rfl, hJs⟩ := hrel
    gi_wp2
    go_end0
    exact ⟨⟨_, rfl⟩, hJs⟩
set_option maxRecDepth 20000 in
theorem Tryz.values_any (ad : Option Addr) (m cap : Nat) (w : World) : Calls Tryz.prog 30 #[.slice ad m cap] w fun e w' => e = .returned (.func (.func 49) #[] #[.pointer (some ⟨w.heap.size, 0, none⟩)]) ∧ w' = w.alloc (.cells #[.slice ad m cap] 27) := by
  go_enter Tryz.func30, Tryz.ntmps30
  go_wp2
  go_ret
  exact ⟨rfl, rfl⟩
theorem Tryz.eV1 : ∀ args w, (callFunc 49 args).run Tryz.prog w = .ok (.enter 49 args) w := enters_of Tryz.func49 (by kernel_rfl) rfl
set_option maxRecDepth 20000 in
set_option maxHeartbeats 1000000 in
theorem Tryz.appendSeq_any {w : World} {V : Value} {l : List ByteArray} {Bs : Nat} (hBs : w.cell? ⟨Bs, 0, none⟩ = some V) (hBl : Bs < w.heap.size) (h : Ts w V l) (hV : ∀ k, V.ownBlock = some k → k < w.heap.size) (hl : l.length ≤ 4398046511104) :
    Calls Tryz.prog 56 #[.slice none 0 0, .func (.func 49) #[] #[.pointer (some ⟨Bs, 0, none⟩)]] w fun e w' => ∃ v, e = .returned v ∧ w'.ownsRow w.heap.size 9 1 v l.length ((l.map asL).map encStr) ∧ Below w.heap.size w w' := by
  have hlen : (l.map asL).length = l.length := List.length_map _
  have key := Fd.appendSeq Tryz.laysZ11 Fence.wide 3 trivial rfl (by omega) 49 #[.pointer (some ⟨Bs, 0, none⟩)] trivial Tryz.eV1 (l.map asL) (by rw [hlen]; omega) w (by
    intro lp J W hJB hY h0
    have hB0 := hJB _ _ h0
    have hbox : W.cell? ⟨Bs, 0, none⟩ = some V := (hB0.cell (p := ⟨Bs, 0, none⟩) hBl).trans hBs
    obtain ⟨ad, cap, rfl, hc, hn, h1⟩ := h.ex
    rcases h1 with rfl | ⟨b, off, rfl, hb, h1⟩
    · exact Tryz.values0 Fence.wide 2 trivial rfl lp Bs cap ad J W hbox h0
    · rw [← hlen] at hbox
      refine Tryz.values1 Fence.wide 2 trivial rfl (by omega) lp Bs w.heap.size b off cap (l.map asL) (by rw [hlen]; omega) hb w J hJB hY W hbox (fun j hj => ?_) h0
      have hj' : j < l.length := by rw [hlen] at hj; exact hj
      rw [h1 j l[j] (List.getElem?_eq_getElem hj'), getElem!_pos (l.map asL) j hj, List.getElem_map, enc_asL])
  refine (callsIn_wide.1 key).mono ?_
  rintro e w' ⟨v, rfl, hr, hb⟩
  rw [hlen] at hr
  exact ⟨v, rfl, hr, hb⟩
set_option maxRecDepth 20000 in
theorem Tryz.collect_any {w : World} {V : Value} {l : List ByteArray} {Bs : Nat} (hBs : w.cell? ⟨Bs, 0, none⟩ = some V) (hBl : Bs < w.heap.size) (h : Ts w V l) (hV : ∀ k, V.ownBlock = some k → k < w.heap.size) (hl : l.length ≤ 4398046511104) :
    Calls Tryz.prog 47 #[.func (.func 49) #[] #[.pointer (some ⟨Bs, 0, none⟩)]] w fun e w' => ∃ v, e = .returned v ∧ w'.ownsRow w.heap.size 9 1 v l.length ((l.map asL).map encStr) ∧ Below w.heap.size w w' := by
  have hs := Tryz.appendSeq_any hBs hBl h hV hl
  clear hBs hBl h hV hl
  go_enter Tryz.func47, Tryz.ntmps47
  go_wp2_with (first
    | (go_at_call 56; refine hs.mono ?_; clear hs; rintro e w1 ⟨V1, rfl, hr1, hb1⟩)
    | fail)
  go_ret
  exact ⟨V1, rfl, hr1, hb1⟩
end Go.Proofs
