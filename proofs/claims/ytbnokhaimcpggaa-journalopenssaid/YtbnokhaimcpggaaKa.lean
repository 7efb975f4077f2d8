/-
  Open and Format of a disk that holds a journal.
-/
import Derived.Test.YtbnokhaimcpggaaGa
namespace Go.Proofs
open Go.RowKit Go.Dk
theorem Dk.row_one {w : World} {g : Nat} {R R' : List UInt8} (h : Dk.Row w g R) (h' : Dk.Row w g R') (hl : R.length = R'.length) : Lib.byteCells R = Lib.byteCells R' := by
  refine List.ext_getElem? fun j => ?_
  by_cases hj : j < R.length
  · have e1 := h.cells j _ (Dk.byteCell hj)
    have e2 := h'.cells j _ (Dk.byteCell (show j < R'.length by omega))
    rw [Dk.byteCell hj, Dk.byteCell (show j < R'.length by omega), ← e1, ← e2]
  · rw [List.getElem?_eq_none (by rw [Dk.byteCells_len]; omega), List.getElem?_eq_none (by rw [Dk.byteCells_len]; omega)]
/-- What Open gives of a disk that holds a journal. -/
structure Try.Gave (w w' : World) (own : Nat → Prop) (y x : Nat) (s : DS) (q g a : Nat) (snap : List UInt8) (recs : List (List UInt8)) (sn rv : Value) : Prop where
  jd : Try.JD w' own y x s q g a snap recs
  y0 : w.heap.size ≤ y
  bel : Below w.heap.size w w'
  ex : ∃ b R, w.heap.size ≤ b ∧ b ≠ y ∧ Dk.Row w' b R ∧ R.take snap.length = snap ∧ R.length = 64 * half s.n ∧ Go.Dk.cut R snap.length = (recs, (body snap recs).length) ∧ sn = .slice (some ⟨b, 0, none⟩) snap.length snap.length ∧ w'.ownsRow w.heap.size 22 1 rv recs.length (Dk.recCs b snap.length recs)
  bk : ∀ b R n c, sn = .slice (some ⟨b, 0, none⟩) n c → R.length = 64 * half s.n → Dk.Row w' b R → w'.heap[b]? = some (.cells (Lib.byteCells R).toArray 5 (0, 0))
theorem Try.open_at {w : World} {own : Nat → Prop} {x : Nat} {s : DS} {q g a : Nat} {snap : List UInt8} {recs : List (List UInt8)} (h : Try.Dsk w own x s) (ho : Holds s g a snap recs) (hc : s.Can q) :
    Calls Try.prog 16 #[.pointer (some ⟨x, 0, none⟩)] w fun r w' => ∃ y sn rv, r = .returned (.tuple #[.pointer (some ⟨y, 0, none⟩), sn, rv, .int .i64 0]) ∧ Try.Gave w w' own y x s q g a snap recs sn rv := by
  obtain ⟨u, v, hu, hv, hH⟩ := ho.looks
  have hb : (body snap recs).length = snap.length + (recs.flatMap recB).length := by simp [body]
  have hs := ho.small
  have hal := Dk.area_len (side := a) ho.len (by have := ho.n8; omega) ho.a1
  refine (Try.open_held h hc.dead ho.n8 u v hu hv ⟨a, g, snap.length, fnv snap⟩ hH ho.a1 (by show snap.length ≤ 64 * half s.n; omega)).mono ?_
  rintro r w' ⟨y, sn, rv, rfl, hop⟩
  have hcut := ho.cut
  obtain ⟨b, hb0, hblk, hsn, hrv⟩ := hop.ex
  have hrow := Dk.row_row hblk
  have hjn := hop.jn
  simp only [hcut] at hrv hjn
  have hby : b ≠ y := fun e => by
    subst e
    have h1 := hrow.cells 0
    rw [Dk.byteCell (show 0 < (area s.view s.n a).length by rw [hal]; have := ho.n8; unfold half; omega)] at h1
    have h2 := h1 _ rfl
    rw [cell_of_row _ _ _ _ _ _ hjn] at h2
    simp at h2
  refine ⟨y, sn, rv, rfl, ⟨h.below hop.bel, hjn, fun e => by have := h.lt _ e; have := hop.y0; omega, ho, hc⟩, hop.y0, hop.bel, ⟨b, area s.view s.n a, hb0, hby, hrow, ho.snap, hal, hcut, hsn, hrv⟩, fun b' R n c e hl hr => ?_⟩
  rw [hsn] at e
  cases e
  rw [hblk]
  have : Lib.byteCells (area s.view s.n a) = Lib.byteCells R := Dk.row_one hrow hr (by omega)
  rw [this]
end Go.Proofs
namespace Go.Proofs
open Go.RowKit Go.Dk
theorem Try.JD.below {w w' : World} {own : Nat → Prop} {y x q g a : Nat} {s : DS} {snap : List UInt8} {recs : List (List UInt8)} (h : Try.JD w own y x s q g a snap recs) (hb : Below w.heap.size w w') : Try.JD w' own y x s q g a snap recs :=
  ⟨h.dsk.below hb, h.jn.below hb, h.ny, h.ho, h.can⟩
theorem Try.JD.full {w : World} {own : Nat → Prop} {y x q g a : Nat} {s : DS} {snap : List UInt8} {recs : List (List UInt8)} (h : Try.JD w own y x s q g a snap recs) (ad : Option Addr) (L cap : Nat) (hL : L < 1000000000000000) (hf : Dk.fits s.n (body snap recs).length L = false) :
    Calls Try.prog 17 #[.pointer (some ⟨y, 0, none⟩), .slice ad L cap] w fun r w' => r = .returned (.int .i64 (if L = 0 ∨ 6000 < L then 52 else 51)) ∧ Below w.heap.size w w' := by
  simp only [Dk.fits, decide_eq_false_iff_not] at hf
  refine Try.append_no h.dsk (by have := h.ho.n8; omega) h.ho.small h.jn ad L cap hL _ ?_
  by_cases h1 : L = 0 ∨ 6000 < L
  · rw [if_pos h1]; exact .inr (.inl ⟨rfl, h1, rfl⟩)
  · rw [if_neg h1]
    refine .inr (.inr ⟨rfl, by omega, by omega, ?_, rfl⟩)
    unfold Dk.roomZ
    split <;> omega
theorem Try.JD.room {w : World} {own : Nat → Prop} {y x q g a : Nat} {s : DS} {snap : List UInt8} {recs : List (List UInt8)} (h : Try.JD w own y x s q g a snap recs) :
    Calls Try.prog 18 #[.pointer (some ⟨y, 0, none⟩)] w fun r w' => r = .returned (.int .i64 (Dk.roomZ s.n (body snap recs).length)) ∧ Below w.heap.size w w' := by
  have := Try.room_any h.dsk (by have := h.ho.n8; omega) h.ho.small h.jn
  rw [if_neg (by simp)] at this
  exact this
/-- A formatted new disk. -/
theorem Try.format_at {w : World} {own : Nat → Prop} {x : Nat} {s : DS} {q : Nat} (h : Try.Dsk w own x s) (hc : s.Can (q + 4000)) (fs : s.fset = false) (hz : s.view = List.replicate (64 * s.n) 0) (h8 : 8 ≤ s.n) (h4 : s.n ≤ 4096) :
    Calls Try.prog 15 #[.pointer (some ⟨x, 0, none⟩)] w fun r w' => r = .returned (.int .i64 0) ∧ Try.Chg own w w' x (Dk.formatN s) ∧ Holds (Dk.formatN s) 1 0 [] [] ∧ (Dk.formatN s).Can q ∧ (Dk.formatN s).n = s.n := by
  have hca := formatN_can (q := q) hc fs h4
  refine (Try.format_new h hc h8 (Looks_new hz h8 0 (by omega)) (Looks_new hz h8 1 (by omega)) fs).mono fun r w' ⟨k1, k2⟩ => ⟨k1, k2, holds_new fs hz h8 h4, hca.1, ?_⟩
  unfold Dk.formatN
  obtain ⟨s1, _, _, _, _, _, hn, _⟩ := compact_eq (s := ((s.op (.wr 0 [])).1.op .sy).1) (op_free _ _ (op_free s _ fs).2).2 (Dk.nextH 1 0 []) []
  rw [hn, DS.op_n, DS.op_n]
theorem Try.format_again {w : World} {own : Nat → Prop} {x : Nat} {s : DS} {q g a : Nat} {snap : List UInt8} {recs : List (List UInt8)} (h : Try.Dsk w own x s) (ho : Holds s g a snap recs) (hc : s.Can (q + 4000)) (hg : g < 999999999) :
    Calls Try.prog 15 #[.pointer (some ⟨x, 0, none⟩)] w fun r w' => r = .returned (.int .i64 0) ∧ ∃ s', Try.Chg own w w' x s' ∧ Holds s' (g + 1) (1 - a) [] [] ∧ s'.Can q ∧ s'.n = s.n := by
  obtain ⟨u, v, hu, hv, hH⟩ := ho.looks
  have hb : (body snap recs).length = snap.length + (recs.flatMap recB).length := by simp [body]
  have hs := ho.small
  have hca := compact_can (q := q + 1000) hc ho.fs ho.n4 (Dk.nextH a g []) []
  obtain ⟨s1, _, _, _, _, _, hn, _⟩ := compact_eq (s := s) ho.fs (Dk.nextH a g []) []
  refine (Try.format_held h hc ho.n8 u v hu hv ⟨a, g, snap.length, fnv snap⟩ hH ho.a1 (by show snap.length ≤ 64 * half s.n; omega) hg ho.fs).mono fun r w' ⟨k1, k2⟩ => ⟨k1, _, k2, ho.compact [] hg (by simp), hca.1.mono (by omega), hn⟩
end Go.Proofs
