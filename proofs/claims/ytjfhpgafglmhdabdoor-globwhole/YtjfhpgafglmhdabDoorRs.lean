/-
  THE DOCUMENT'S GLOB: 'still', walked.
-/
import Derived.Test.YtjfhpgafglmhdabDoorRx
import Derived.Test.YtjfhpgafglmhdabDoorGu
namespace Go.Proofs
open Go.RowKit Go.Gl
/-- The document's pattern, for one who reads: a row that lies below B. -/
structure Tryd.Rr (w : World) (x B : Nat) (ps : List P) (v : Value) : Prop where
  lt : x < B
  cell : w.cell? ⟨x, 0, none⟩ = some v
  row : w.ownsRow 0 53 2 v ps.length (cellsR ps)
  vb : ∀ k, v.ownBlock = some k → k < B
theorem Tryd.Rr.keep {w w' : World} {x B : Nat} {ps : List P} {v : Value} (h : Tryd.Rr w x B ps v) (hb : Below B w w') (_hB : B ≤ w.heap.size) : Tryd.Rr w' x B ps v := by
  refine ⟨h.lt, (hb.cell (p := ⟨x, 0, none⟩) h.lt).trans h.cell, ?_, h.vb⟩
  refine ⟨h.row.1, ?_⟩
  rcases h.row.2 with h1 | ⟨g, cap, cur, h1, h2, h3, h4⟩
  · exact .inl h1
  · refine .inr ⟨g, cap, cur, h1, h2, ?_, h4⟩
    rw [hb.block g (h.vb g (by rw [h1]; rfl))]
    exact h3
theorem Tryd.Rr.of {w : World} {x : Nat} {ps : List P} (h : Tryd.Rg w 0 x ps) : ∃ v, Tryd.Rr w x w.heap.size ps v := by
  obtain ⟨v, -, hx, hown, -⟩ := h
  exact ⟨v, (Array.getElem?_eq_some_iff.1 hx).1, by simp [World.cell?, hx], hown, fun k hk => (hown.lt k hk).2⟩
theorem Tryd.Rr.len {w : World} {x B : Nat} {ps : List P} {v : Value} (h : Tryd.Rr w x B ps v) : ∃ a c, v = .slice a ps.length c := by
  rcases h.row.2 with ⟨h1, h0⟩ | ⟨g, cap, cur, h1, _⟩
  · exact ⟨none, 0, by rw [h1, h0]⟩
  · exact ⟨_, _, h1⟩
theorem Tryd.Rr.at {w : World} {x B : Nat} {ps : List P} {a : Option Addr} {c : Nat} (h : Tryd.Rr w x B ps (.slice a ps.length c)) {k : Nat} {p : P} (hp : ps[k]? = some p) :
    ∃ g, a = some ⟨g, 0, none⟩ ∧ g < B ∧ w.cell? ⟨g, k * 2, none⟩ = some (.int .i64 p.kind) ∧ w.cell? ⟨g, k * 2 + 1, none⟩ = some (.string (signT p)) := by
  obtain ⟨hk, he⟩ := List.getElem?_eq_some_iff.1 hp
  obtain ⟨g, cap, h1, _, _⟩ := h.row.form (by omega)
  cases h1
  refine ⟨g, rfl, h.vb g rfl, ?_, ?_⟩
  · rw [h.row.cellAt (k * 2) (by omega), Nat.mul_comm k 2, cellsR_kind ps k hk, he]
  · rw [h.row.cellAt (k * 2 + 1) (by omega), Nat.mul_comm k 2, cellsR_sign ps k hk, he]
set_option maxHeartbeats 4000000 in
set_option maxRecDepth 100000 in
theorem Tryd.still_any (ps : List P) (v : Value) (x B r : Nat) (f : Nat → Bool) (w : World) (h : Tryd.Rr w x B ps v) (hBr : B ≤ r) (hr : w.rowIs r 4 (ps.length + 1) (fun i => .bool (f i))) (hrl : r < w.heap.size) (hl : ps.length ≤ 100) :
    Calls Tryd.prog 46 #[.pointer (some ⟨x, 0, none⟩), .slice (some ⟨r, 0, none⟩) (ps.length + 1) (ps.length + 1)] w fun e w' => e = .returned (.tuple #[]) ∧ w.grownBy w' (some r) ∧ w'.heap.size = w.heap.size ∧ w'.rowIs r 4 (ps.length + 1) (fun i => .bool (spF ps f i)) := by
  obtain ⟨a, c, rfl⟩ := h.len
  have HT : Hid (Tryd.Rr w x B ps (.slice a ps.length c)) := h
  have HR : Hid (w.rowIs r 4 (ps.length + 1) (fun i => .bool (f i))) := hr
  have hBw : B ≤ w.heap.size := by omega
  clear h hr
  go_enter Tryd.func46, Tryd.ntmps46
  go_wp2
  go_loopw [4] (fun i wr => ∃ k : Nat, k ≤ ps.length ∧ i = .int .i64 k ∧ w.grownBy wr (some r) ∧ wr.heap.size = w.heap.size ∧ wr.rowIs r 4 (ps.length + 1) (fun j => .bool (if j ≤ k then spF ps f j else f j))) (fun i _ => ps.length - (intOf i).toNat)
  case atStart =>
    refine ⟨0, by omega, rfl, World.grownBy.refl _ _, rfl, HR.out.congr fun i _ => ?_⟩
    by_cases hi : i ≤ 0
    · obtain rfl : i = 0 := by omega
      rfl
    · rw [if_neg hi]
  case round =>
    obtain ⟨k, hk, rfl, hg, hsz, hrow⟩ := hrel
    have hbel : Below B w wr := ⟨hg.os, hg.tape, hg.output, hg.size, fun j hj => hg.block j (by omega) (by simp; omega)⟩
    have hT := HT.out.keep hbel hBw
    have d1 := hT.cell
    by_cases hlt : k < ps.length
    · obtain ⟨p, hpk⟩ : ∃ p, ps[k]? = some p := ⟨_, List.getElem?_eq_getElem hlt⟩
      obtain ⟨g, rfl, hgB, ck, -⟩ := hT.at hpk
      have cr := hrow.cell (i := k) (by omega)
      have cn := hrow.cell (i := k + 1) (by omega)
      have fn := hrow.frozen (k + 1)
      rw [if_pos (Nat.le_refl k)] at cr
      rw [if_neg (by omega)] at cn
      have hsp : spF ps f (k + 1) = (f (k + 1) || (decide (p = .any) && spF ps f k)) := by rw [spF, hpk]; simp
      have stay : (decide (p = .any) && spF ps f k) = false → wr.rowIs r 4 (ps.length + 1) (fun j => .bool (if j ≤ k + 1 then spF ps f j else f j)) := fun hno => hrow.congr fun i _ => by
        by_cases h1 : i ≤ k
        · rw [if_pos h1, if_pos (by omega)]
        · by_cases h2 : i = k + 1
          · subst h2; rw [if_neg h1, if_pos (by omega), hsp, hno, Bool.or_false]
          · rw [if_neg h1, if_neg (by omega)]
      have turn : (decide (p = .any) && spF ps f k) = true → (wr.setCell ⟨r, k + 1, none⟩ (.bool true)).rowIs r 4 (ps.length + 1) (fun j => .bool (if j ≤ k + 1 then spF ps f j else f j)) := fun hno => (hrow.set (k + 1) (.bool true)).congr fun i _ => by
        by_cases h1 : i ≤ k
        · rw [if_neg (by omega), if_pos h1, if_pos (by omega)]
        · by_cases h2 : i = k + 1
          · subst h2; rw [if_pos rfl, if_pos (by omega), hsp, hno, Bool.or_true]
          · rw [if_neg h2, if_neg h1, if_neg (by omega)]
      have hgs := hg.trans (Gl.grown_set wr r (k + 1) (.bool true))
      have hss : (wr.setCell ⟨r, k + 1, none⟩ (.bool true)).heap.size = w.heap.size := by rw [← hsz]; simp [World.setCell]
      have STAY : Hid _ := stay
      have TURN : Hid _ := turn
      have HGS : Hid _ := hgs
      have HSS : Hid _ := hss
      have kd : (p = .any ∧ (p.kind == 2) = true) ∨ (¬ p = .any ∧ (p.kind == 2) = false) := by
        cases p <;> simp [P.kind]
      have b1 : (k : Int) < (ps.length : Int) := by omega
      have b2 : (k : Int) < (ps.length : Int) + 1 := by omega
      have b3 : (k : Int) + 1 < (ps.length : Int) + 1 := by omega
      clear stay turn hgs hss hsp hrow hT hpk HT HR hbel
      generalize hkk : p.kind = kk at *
      generalize hS : spF ps f k = S at *
      cases S with
      | false =>
        clear hkk kd
        go_wp2
        go_roundw
        case rel => exact ⟨k + 1, by omega, by go_num, hg, hsz, STAY.out (by rw [Bool.and_false])⟩
        case measure => simp [intOf]; omega
      | true =>
        rcases kd with ⟨hany, hkd⟩ | ⟨hany, hkd⟩
        · have hda : decide (p = .any) = true := decide_eq_true hany
          clear hkk hany
          go_wp2
          go_roundw
          case rel => exact ⟨k + 1, by omega, by go_num, HGS.out, HSS.out, TURN.out (by rw [hda]; rfl)⟩
          case measure => simp [intOf]; omega
        · have hda : decide (p = .any) = false := decide_eq_false hany
          clear hkk hany
          go_wp2
          go_roundw
          case rel => exact ⟨k + 1, by omega, by go_num, hg, hsz, STAY.out (by rw [hda]; rfl)⟩
          case measure => simp [intOf]; omega
    · have b1 : ¬ (k : Int) < (ps.length : Int) := by omega
      have hend : wr.rowIs r 4 (ps.length + 1) (fun i => .bool (spF ps f i)) := hrow.congr fun i hi => by rw [if_pos (by omega)]
      clear hrow
      go_wp2
      go_end0
      exact ⟨rfl, hg, hsz, hend⟩
end Go.Proofs
