/-
  'Parse' behind '[]byte(..)'.
-/
import Derived.Test.YtejibjeidklnkaaGreatDoorJz
namespace Go.Proofs
open Go.RowKit Go.Jv
theorem Tryz.conv_sb (t : ByteArray) (W : World) : (convert 9 32 (.string t)).run Tryz.prog W = .ok (.slice (some ⟨W.heap.size, 0, none⟩) t.size (grownCap W t.size 0 5)) (Lib.bytesWorld W 5 t) :=
  Lib.run_convert_string_bytes (P := Tryz.prog) W 9 32 5 t (u := .string) Tryz.underlying9 Tryz.underlying32 Tryz.underlying5
theorem Jv.bytesW_below (w : World) (e : TypeId) (t : ByteArray) : Below w.heap.size w (Lib.bytesWorld w e t) := ⟨rfl, rfl, rfl, by rw [Lib.bytesWorld_size]; omega, fun k hk => Lib.bytesWorld_at_old w _ t k hk⟩
/-- 'Parse' of a right text's bytes. -/
theorem Tryz.parse_ok (t : ByteArray) (v : V) (hv : parse t = .ok v) (c : Nat) (w : World) (hs : t.size ≤ 140737488355328) (hT : Tryz.Tb w) :
    Calls Tryz.prog 8 #[.slice (some ⟨w.heap.size, 0, none⟩) t.size c] (Lib.bytesWorld w 5 t) fun en w' =>
      ∃ x, en = .returned (.tuple #[.pointer (some ⟨x, 0, none⟩), .nilIface]) ∧ Tryz.Tr w' (fun g => w.heap.size ≤ g) v x ∧ Below w.heap.size w w' := by
  refine (Tryz.parse_bytes t c w hs hT).mono fun en w' h => ?_
  obtain ⟨x, h1, h2, h3⟩ := Tryz.ParseOk.ok hv h
  have hb := Jv.bytesW_below w 5 t
  exact ⟨x, h1, Tryz.Tr_mono (fun g hg _ => Nat.le_trans hb.size hg) _ _ h2, hb.trans (h3.mono hb.size)⟩
/-- .. of a text's that is not right. -/
theorem Tryz.parse_bad (t : ByteArray) (p e : Nat) (hv : parse t = .bad p e) (c : Nat) (w : World) (hs : t.size ≤ 140737488355328) (hT : Tryz.Tb w) :
    Calls Tryz.prog 8 #[.slice (some ⟨w.heap.size, 0, none⟩) t.size c] (Lib.bytesWorld w 5 t) fun en w' =>
      ∃ y, en = .returned (.tuple #[.pointer none, .iface 40 (.pointer (some ⟨y, 0, none⟩))]) ∧ w'.cell? ⟨y, 0, none⟩ = some (.int .i64 p) ∧ w'.cell? ⟨y, 1, none⟩ = some (.int .i64 e) ∧ Below w.heap.size w w' := by
  refine (Tryz.parse_bytes t c w hs hT).mono fun en w' h => ?_
  obtain ⟨y, h1, h2, h3, h4⟩ := Tryz.ParseOk.bad hv h
  have hb := Jv.bytesW_below w 5 t
  exact ⟨y, h1, h2, h3, hb.trans (h4.mono hb.size)⟩
end Go.Proofs
