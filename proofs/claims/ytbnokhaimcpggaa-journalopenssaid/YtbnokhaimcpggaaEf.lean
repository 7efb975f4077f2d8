/-
  cut.
-/
import Derived.Test.YtbnokhaimcpggaaEe
namespace Go.Proofs
open Go.RowKit Go.Dk
theorem Try.info_bytes : (Try.prog.info? 22).map (fun i => (i.zero, i.size, i.bytes)) = some (some (.slice none 0 0), 1, 24) := by kernel_rfl
/-- Records as they are cut out of a row. -/
def Dk.recCs (g : Nat) : Nat → List (List UInt8) → List Value
  | _, [] => []
  | p, d :: r => .slice (some ⟨g, p + 7, none⟩) d.length d.length :: Dk.recCs g (p + 7 + d.length) r
def Dk.recEnd : Nat → List (List UInt8) → Nat
  | p, [] => p
  | p, d :: r => Dk.recEnd (p + 7 + d.length) r
theorem Dk.recEnd_snoc : ∀ (ds : List (List UInt8)) (p : Nat) (d : List UInt8), Dk.recEnd p (ds ++ [d]) = Dk.recEnd p ds + 7 + d.length
  | [], _, _ => rfl
  | e :: r, p, d => by simp only [List.cons_append, Dk.recEnd, Dk.recEnd_snoc r]
theorem Dk.recCs_snoc (g : Nat) : ∀ (ds : List (List UInt8)) (p : Nat) (d : List UInt8), Dk.recCs g p (ds ++ [d]) = Dk.recCs g p ds ++ [.slice (some ⟨g, Dk.recEnd p ds + 7, none⟩) d.length d.length]
  | [], _, _ => rfl
  | e :: r, p, d => by simp only [List.cons_append, Dk.recCs, Dk.recEnd, Dk.recCs_snoc g r]
theorem Dk.recCs_len (g : Nat) : ∀ (ds : List (List UInt8)) (p : Nat), (Dk.recCs g p ds).length = ds.length
  | [], _ => rfl
  | e :: r, p => by simp only [Dk.recCs, List.length_cons, Dk.recCs_len g r]
theorem Dk.recEnd_le : ∀ (ds : List (List UInt8)) (p : Nat), p + ds.length ≤ Dk.recEnd p ds
  | [], _ => Nat.le_refl _
  | e :: r, p => by have := Dk.recEnd_le r (p + 7 + e.length); simp only [Dk.recEnd, List.length_cons]; omega
/-- What is cut so far, and the rest. -/
def Dk.CutSo (row : List UInt8) (p0 : Nat) (ds : List (List UInt8)) : Prop := cut row p0 = (ds ++ (cut row (Dk.recEnd p0 ds)).1, (cut row (Dk.recEnd p0 ds)).2)
theorem Dk.CutSo.none {row : List UInt8} {p0 : Nat} {ds : List (List UInt8)} (h : Dk.CutSo row p0 ds) (hr : recAt row (Dk.recEnd p0 ds) = none) : cut row p0 = (ds, Dk.recEnd p0 ds) := by
  rw [h, cut_none hr]; simp
theorem Dk.CutSo.some {row : List UInt8} {p0 : Nat} {ds : List (List UInt8)} {d : List UInt8} (h : Dk.CutSo row p0 ds) (hr : recAt row (Dk.recEnd p0 ds) = some d) : Dk.CutSo row p0 (ds ++ [d]) := by
  unfold Dk.CutSo
  rw [h, cut_some hr, Dk.recEnd_snoc]; simp
set_option maxHeartbeats 1000000 in
set_option maxRecDepth 20000 in
theorem Try.cut_any {w : World} {g : Nat} {row : List UInt8} (h : Dk.Row w g row) (hr : row.length < 1000000) (p : Nat) (hp : p ≤ row.length) :
    Calls Try.prog 53 #[.slice (some ⟨g, 0, none⟩) row.length row.length, .int .i64 p] w fun e w' =>
      ∃ v, e = .returned (.tuple #[v, .int .i64 (cut row p).2]) ∧ w'.ownsRow w.heap.size 22 1 v (cut row p).1.length (Dk.recCs g p (cut row p).1) ∧ Below w.heap.size w w' := by
  go_enter Try.func53, Try.ntmps53
  go_wp2
  go_loopw [1, 4] (fun i v wr => ∃ ds : List (List UInt8), Dk.CutSo row p ds ∧ Dk.recEnd p ds ≤ row.length ∧ i = .int .i64 (Dk.recEnd p ds) ∧ wr.ownsRow w.heap.size 22 1 v ds.length (Dk.recCs g p ds) ∧ Below w.heap.size w wr) (fun i _ _ => row.length - (intOf i).toNat)
  case atStart => exact ⟨[], rfl, hp, rfl, World.ownsRow_nil _ _ _ _, Below.refl _ _⟩
  case round =>
    obtain ⟨ds, hcs, hle, rfl, hrow, hbel⟩ := hrel
    have hat := Try.recordAt_any (h.below hbel) hr (Dk.recEnd p ds) hle
    cases hra : recAt row (Dk.recEnd p ds) with
    | none =>
      rw [hra] at hat
      have hc := hcs.none hra
      have HC : Hid (cut row p = (ds, Dk.recEnd p ds)) := hc
      unfold Dk.recV at hat
      have HR : Hid (wr.ownsRow w.heap.size 22 1 u4 ds.length (Dk.recCs g p ds)) := hrow
      clear hrow hcs hra hc h
      go_wp2_with (go_at_call 79; refine hat.mono ?_; clear hat; rintro e w2 ⟨rfl, hb2⟩)
      go_ret2
      exact ⟨u4, by rw [HC.out]; rfl, by rw [HC.out]; exact Dk.row_heap HR.out fun k e => hb2.block k (HR.out.lt k e).2, hbel.trans (hb2.mono hbel.size)⟩
    | some d =>
      rw [hra] at hat
      obtain ⟨k1, k2, k3, k4⟩ := recAt_some hra
      have hs2 := hcs.some hra
      have hdl := Dk.recEnd_le ds p
      unfold Dk.recV at hat
      obtain ⟨i0, hi0, hz0, hz1, hz2⟩ := info_parts Try.info_bytes
      have HR : Hid (wr.ownsRow w.heap.size 22 1 u4 ds.length (Dk.recCs g p ds)) := hrow
      clear hrow hcs hra h k4
      generalize hE : Dk.recEnd p ds = E at *
      have hsz1 := hbel.size
      go_wp2_with (first
        | (go_at_call 79; refine hat.mono ?_; clear hat; rintro e w2 ⟨rfl, hb2⟩; have hr2 := Dk.row_heap HR.out (fun k e => hb2.block k (HR.out.lt k e).2); have hsz2 := hb2.size)
        | (at_builtin; go_loud (refine wpList_append_own _ rfl _ _ 32 rfl w.heap.size 22 i0 _ 1 24 Try.underlying32 hi0 hz0 hz1 hz2 rfl (by omega) u4 ds.length (Dk.recCs g p ds) rfl (hr2.alloc _) ⟨w2.heap.size, 0, none⟩ 1 1 [.slice (some ⟨g, E + 7, none⟩) d.length d.length] rfl rfl (World.news_of_block (cs := #[.slice (some ⟨g, E + 7, none⟩) d.length d.length]) (t := 22) (fr := (0, 0)) (heap_alloc_new w2 _)) (by simp [Value.oneCell']) (by unfold maxLen; omega) (by omega) (by simp; omega) ?_; intro v' w3 hown hgrow _))
        | fail)
      go_roundw
      case rel =>
        have hb3 : Below w.heap.size w2 w3 := (((Below.refl w.heap.size w2).alloc (by have := hbel.size; have := hb2.size; omega) _)).grown hgrow (by have := hbel.size; have := hb2.size; simp; omega) (fun k hk => (hr2.lt k hk).1)
        refine ⟨ds ++ [d], hs2, ?_, ?_, ?_, (hbel.trans (hb2.mono hbel.size)).trans hb3⟩
        · rw [Dk.recEnd_snoc, hE]; omega
        · rw [Dk.recEnd_snoc, hE]; go_num
        · rw [Dk.recCs_snoc, hE, List.length_append]; exact hown
      case measure => simp [intOf]; omega
end Go.Proofs
