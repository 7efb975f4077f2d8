/-
  WHAT THE LAWS ASK FIRST: 'awake'; 'fault', 'pick'; bytes out of a text.
-/
import Derived.Test.YtejibjeidklnkaaGreatDoorJy
import Derived.Lib.ConvBytes
namespace Go.Jv
/-- The text of 'awake'. -/
def awT : ByteArray := ⟨#[123, 34, 98, 34, 58, 91, 49, 44, 32, 45, 48, 93, 44, 34, 97, 34, 58, 34, 92, 117, 48, 48, 101, 57, 34, 125]⟩
def awV : V := .obj [⟨#[97]⟩, ⟨#[98]⟩] [.text ⟨#[195, 169]⟩, .list [.int 1, .int 0]]
theorem awake_parse : parse awT = .ok awV := by kernel_rfl
theorem awake_print : pr awV = [123, 34, 97, 34, 58, 34, 195, 169, 34, 44, 34, 98, 34, 58, 91, 49, 44, 48, 93, 125] := by kernel_rfl
end Go.Jv
namespace Go.Proofs
open Go.RowKit Go.Jv
/-- Bytes that lie in a block, as a text. -/
theorem Tryz.conv_at (t : ByteArray) (g c : Nat) (W : World) (h : ∀ j, j < t.size → W.cell? ⟨g, j, none⟩ = some (.int .u8 (t.data.toList.getD j 0).toNat)) :
    (convert 32 9 (.slice (some ⟨g, 0, none⟩) t.size c)).run Tryz.prog W = .ok (.string t) W := by
  have := run_convert_bytes_back (P := Tryz.prog) W 32 9 5 ⟨g, 0, none⟩ c t.data.toList Tryz.underlying32 Tryz.underlying5 Tryz.underlying9 (fun j hj => by
    have hadd : (⟨g, 0, none⟩ : Addr).add j = ⟨g, j, none⟩ := by unfold Addr.add; split <;> simp_all
    rw [hadd, h j hj]
    have hj' : j < t.data.size := hj
    simp only [List.getD_eq_getElem?_getD, List.getElem?_eq_getElem hj, Option.getD_some])
  simpa using this
/-- 'Parse' of the bytes of a text that were laid out anew. -/
theorem Tryz.parse_bytes (t : ByteArray) (c : Nat) (w : World) (hs : t.size ≤ 140737488355328) (hT : Tryz.Tb w) :
    Calls Tryz.prog 8 #[.slice (some ⟨w.heap.size, 0, none⟩) t.size c] (Lib.bytesWorld w 5 t) fun en w' => Tryz.ParseOk t (Lib.bytesWorld w 5 t) en w' := by
  have hb : Below w.heap.size w (Lib.bytesWorld w 5 t) := ⟨rfl, rfl, rfl, by rw [Lib.bytesWorld_size]; omega, fun k hk => Lib.bytesWorld_at_old w _ t k hk⟩
  refine Tryz.parse_any t _ c _ hs (hT.below hb hT.size) fun W hW => Tryz.conv_at t _ c W fun j hj => ?_
  rw [← Lib.bytesWorld_cell w 5 t j hj]
  exact hW.cell (by rw [Lib.bytesWorld_size]; show w.heap.size < _; omega)
/-- A row of bytes that is marked as a text's. -/
def Jv.stW (w : World) (e : TypeId) (cs : Array Value) : World := (w.alloc (.cells cs e)).freeze ⟨w.heap.size, cs.size, none⟩ 1
theorem Jv.stW_at (w : World) (e : TypeId) (cs : Array Value) : (Jv.stW w e cs).heap[w.heap.size]? = some (.cells cs e (cs.size, cs.size + 1)) := by
  simp [Jv.stW, World.freeze, World.alloc, -World.alloc_eq]
  rw [Array.getElem_modify_self]
  simp
theorem Jv.stW_size (w : World) (e : TypeId) (cs : Array Value) : (Jv.stW w e cs).heap.size = w.heap.size + 1 := by
  simp [Jv.stW, World.freeze, World.alloc, -World.alloc_eq]
theorem Jv.stW_below (w : World) (e : TypeId) (cs : Array Value) : Below w.heap.size w (Jv.stW w e cs) := by
  refine ⟨rfl, rfl, rfl, by rw [Jv.stW_size]; omega, fun k hk => ?_⟩
  have h1 : w.heap.size ≠ k := by omega
  simp [Jv.stW, World.freeze, World.alloc, -World.alloc_eq, Array.getElem?_modify, Array.getElem?_push, h1, Ne.symm h1]
theorem Tryz.same_conv (cs : Array Value) (n c : Nat) (w : World) : (convert 32 32 (.slice (some ⟨w.heap.size, 0, none⟩) n c)).run Tryz.prog (w.alloc (.cells cs 5)) = .ok (.slice (some ⟨w.heap.size, 0, none⟩) n c) (Jv.stW w 5 cs) := by
  have hsh : (w.alloc (.cells cs 5)).shape? w.heap.size = some (5, cs.size) := by
    simp [World.shape?, World.alloc, -World.alloc_eq]
  simp [convert, run_underlying Tryz.underlying32, run_underlying Tryz.underlying5, markStringish, Jv.stW, hsh, Result.andThen]
/-- 'Parse' of bytes that were laid out as a text. -/
theorem Tryz.parse_st (t : ByteArray) (c : Nat) (w : World) (hs : t.size ≤ 140737488355328) (hT : Tryz.Tb w) :
    Calls Tryz.prog 8 #[.slice (some ⟨w.heap.size, 0, none⟩) t.size c] (Jv.stW w 5 (Lib.byteCells t.data.toList).toArray) fun en w' => Tryz.ParseOk t (Jv.stW w 5 (Lib.byteCells t.data.toList).toArray) en w' := by
  refine Tryz.parse_any t _ c _ hs (hT.below (Jv.stW_below w _ _) hT.size) fun W hW => Tryz.conv_at t _ c W fun j hj => ?_
  rw [hW.cell (by rw [Jv.stW_size]; show w.heap.size < _; omega)]
  have hj' : j < t.data.size := hj
  simp [World.cell?, Jv.stW_at, Lib.byteCells, List.getD]
  exact ⟨_, Array.getElem?_eq_getElem hj', by simp [Array.getElem?_eq_getElem hj']⟩
/-- What 'Parse' answers, where the text is right. -/
theorem Tryz.ParseOk.ok {t : ByteArray} {w w' : World} {en : Ending} {v : V} (hv : parse t = .ok v) (h : Tryz.ParseOk t w en w') :
    ∃ x, en = .returned (.tuple #[.pointer (some ⟨x, 0, none⟩), .nilIface]) ∧ Tryz.Tr w' (fun g => w.heap.size ≤ g) v x ∧ Below w.heap.size w w' := by
  rcases h with ⟨v', x, h1, h2, h3, h4⟩ | ⟨p, e, y, h1, _⟩
  · rw [hv] at h1; cases h1; exact ⟨x, h2, h3, h4⟩
  · rw [hv] at h1; cases h1
/-- Where it is not. -/
theorem Tryz.ParseOk.bad {t : ByteArray} {w w' : World} {en : Ending} {p e : Nat} (hv : parse t = .bad p e) (h : Tryz.ParseOk t w en w') :
    ∃ y, en = .returned (.tuple #[.pointer none, .iface 40 (.pointer (some ⟨y, 0, none⟩))]) ∧ w'.cell? ⟨y, 0, none⟩ = some (.int .i64 p) ∧ w'.cell? ⟨y, 1, none⟩ = some (.int .i64 e) ∧ Below w.heap.size w w' := by
  rcases h with ⟨v', x, h1, h2, h3, h4⟩ | ⟨p, e, y, h1, h2, h3, h4, h5⟩
  · rw [hv] at h1; cases h1
  · rw [hv] at h1; cases h1; exact ⟨y, h2, h3, h4, h5⟩
set_option maxRecDepth 100000 in
set_option maxHeartbeats 2000000 in
theorem Tryz.awake_any (w : World) (hT : Tryz.Tb w) : Calls Tryz.prog 5 #[] w fun en w' => en = .returned (.bool true) ∧ Below w.heap.size w w' := by
  have hp := (Tryz.parse_st awT 26 w (by decide) hT).mono (fun _ _ h => Tryz.ParseOk.ok awake_parse h)
  have hsc := Tryz.same_conv (Lib.byteCells awT.data.toList).toArray awT.size 26 w
  have hbe := Jv.stW_below w 5 (Lib.byteCells awT.data.toList).toArray
  change (convert 32 32 (.slice (some ⟨w.heap.size, 0, none⟩) 26 26)).run Tryz.prog (w.alloc (.cells #[.int .u8 123, .int .u8 34, .int .u8 98, .int .u8 34, .int .u8 58, .int .u8 91, .int .u8 49, .int .u8 44, .int .u8 32, .int .u8 45, .int .u8 48, .int .u8 93, .int .u8 44, .int .u8 34, .int .u8 97, .int .u8 34, .int .u8 58, .int .u8 34, .int .u8 92, .int .u8 117, .int .u8 48, .int .u8 48, .int .u8 101, .int .u8 57, .int .u8 34, .int .u8 125] 5)) = .ok (.slice (some ⟨w.heap.size, 0, none⟩) 26 26) _ at hsc
  change Calls Tryz.prog 8 #[.slice (some ⟨w.heap.size, 0, none⟩) 26 26] _ _ at hp
  generalize Jv.stW w 5 (Lib.byteCells awT.data.toList).toArray = w0 at hp hsc hbe
  go_enter Tryz.func5, Tryz.ntmps5
  go_wp2_with (first | (go_at_call 8; refine hp.mono ?_; clear hp; rintro e1 w1 ⟨x, rfl, htr, hb1⟩; have hT1 := hT.below (hbe.trans (hb1.mono hbe.size)) hT.size; have hpr := Tryz.print_any awV w1 x (Tryz.Tr_mono (fun _ _ h => h) _ _ htr) hT1 (by rw [awake_print]; decide); rw [awake_print] at hpr) | (go_at_call 9; refine hpr.mono ?_; clear hpr; rintro e2 w2 ⟨rfl, hb2⟩) | fail)
  go_ret
  exact ⟨rfl, (hbe.trans (hb1.mono hbe.size)).trans (hb2.mono (Nat.le_trans hbe.size hb1.size))⟩
end Go.Proofs
