/-
  FEED: slices.Delete of the first sheet.
-/
import Derived.Test.YtdhgpkacilcfgaaGreatDoorFdH
import Derived.Shelf.SlicesE.Delete
namespace Go.Fd
/-- A slice that is kept: where, how long, how much room. -/
abbrev Sl := Option Addr × Nat × Nat
def slV (x : Sl) : Value := .slice x.1 x.2.1 x.2.2
end Go.Fd
namespace Go.Proofs
open Go.Shelf Go.RowKit Go.Wi Go.Fd Go.Sort
theorem Tryz.infoSh : (Tryz.prog.info? 48).map (fun i => (i.zero, i.size, i.bytes)) = some (some (.slice none 0 0), 1, 24) := by kernel_rfl
def Tryz.del_ren : Go.Shelf.Ren := ⟨fun | 45 => 38 | n => n, fun | 22 => 56 | 23 => 48 | n => n, fun n => n⟩
theorem Tryz.del : Go.Proofs.SlLaysE.n45 Tryz.prog Tryz.del_ren := {
  mixed := by kernel_rfl
  f45 := ⟨Tryz.f38.name, by decide, Tryz.func38.trans (congrArg some (by kernel_rfl))⟩
  t0 := Tryz.underlying0
  a0 := Tryz.isAgg0
  z0 := Tryz.sizeOf0
  v0 := Tryz.zeroValue0
  t3 := Tryz.underlying3
  a3 := Tryz.isAgg3
  z3 := Tryz.sizeOf3
  v3 := Tryz.zeroValue3
  t4 := Tryz.underlying4
  a4 := Tryz.isAgg4
  z4 := Tryz.sizeOf4
  v4 := Tryz.zeroValue4
  t22 := Tryz.underlying56
  a22 := Tryz.isAgg56
  z22 := Tryz.sizeOf56
  v22 := Tryz.zeroValue56
  a23 := Tryz.isAgg48
  z23 := Tryz.sizeOf48 }
theorem Tryz.delete_first {w : World} {B g n cap : Nat} {x : Sl} {r : List Sl} (h : w.ownsRow B 48 1 (.slice (some ⟨g, 0, none⟩) n cap) n ((x :: r).map slV)) :
    Calls Tryz.prog 38 #[.slice (some ⟨g, 0, none⟩) n cap, .int .i64 0, .int .i64 1] w fun e w' => e = .returned (.slice (some ⟨g, 0, none⟩) r.length cap) ∧ w'.ownsRow B 48 1 (.slice (some ⟨g, 0, none⟩) r.length cap) r.length (r.map slV) ∧ Wo (fun k => k = g) w w' := by
  have hn : n = r.length + 1 := by have := h.1; simp at this; omega
  subst hn
  rcases h.2 with ⟨e, _⟩ | ⟨g', cap', cur, e, hB, hb, h1, h2, h3, h4⟩
  · cases e
  injection e with e1 e2 e3
  injection e1 with e1
  injection e1 with e1
  subst e1 e3
  have hH : Holds slV w g 0 (x :: r).toArray := by
    intro j hj
    have hj' : j < r.length + 1 := by simpa using hj
    refine ⟨?_, frozen_of_row _ _ _ _ _ hb⟩
    rw [cell_of_row _ _ _ _ _ _ hb, Nat.zero_add, ← Array.getElem?_toList, ← List.getElem?_take_of_lt (show j < (r.length + 1) * 1 by omega), h4, List.getElem?_map]
    rw [getElem!_pos (x :: r).toArray j (by simpa using hj'), List.getElem?_eq_getElem (by simpa using hj')]
    rfl
  obtain ⟨i0, hi0, hz0, hz1, hz2⟩ := info_parts Tryz.infoSh
  have hd := AnyE.slices_Delete Tryz.del slV (fun _ => rfl) (none, 0, 0) Tryz.zeroValue48 i0 hi0 hz1 g 0 cap 0 1 (x :: r).toArray w hH (by simpa using h1) (by unfold maxLen at h2; omega) (by omega) (by simp)
  simp only [List.size_toArray, List.length_cons] at hd
  refine hd.mono ?_
  rintro e w' ⟨rfl, q, rfl⟩
  have hgl := block_lt hb
  have hbk : (putRow slV (Sort.ahead w q) g 0 (((x :: r).take 0 ++ (x :: r).drop 1 ++ List.replicate (1 - 0) ((none, 0, 0) : Sl)).toArray)).heap[g]? = some (.cells (putCells slV 0 (r ++ [((none, 0, 0) : Sl)]).toArray cur) 48 (0, 0)) := by
    simp [putRow, mapBlock, Sort.ahead, Array.getElem?_modify, hb, onCells]
  refine ⟨by simp, ⟨by simp, .inr ⟨g, cap, _, rfl, hB, hbk, by omega, h2, by simp [putCells, h3], ?_⟩⟩, rfl, rfl, rfl, by simp [putRow, mapBlock, Sort.ahead], fun k hk hne => ?_⟩
  · apply List.ext_getElem?
    intro j
    rw [Nat.mul_one, List.getElem?_take, List.getElem?_map]
    split
    · rename_i hj
      have hjc : j < cur.size := by rw [h3]; omega
      rw [Array.getElem?_toList]
      simp [putCells, hjc, hj, show j < r.length + 1 by omega, List.getElem_append_left]
    · rename_i hj
      rw [List.getElem?_eq_none (by omega)]; rfl
  · have : g ≠ k := fun e => hne e.symm
    simp [putRow, mapBlock, Sort.ahead, Array.getElem?_modify, this]
end Go.Proofs
