/-
  GLOB: the track.
-/
import Derived.Test.YtjfhpgafglmhdabDoorGr
import Derived.Deep.OwnRows
namespace Go.Proofs
open Go.RowKit Go.Gl
/-- A track in memory, but for what was reached. -/
structure Tryd.Tk (w : World) (t r : Nat) (v : Value) (ps : List P) : Prop where
  blk : w.heap[t]? = some (.cells #[v, .slice (some ⟨r, 0, none⟩) (ps.length + 1) (ps.length + 1)] 81)
  row : w.ownsRow 0 45 2 v ps.length (cellsOf ps)
  tr : t ≠ r
  vr : v.ownBlock ≠ some r
  hr : r < w.heap.size
theorem Tryd.Tk.keep {w w' : World} {t r : Nat} {v : Value} {ps : List P} (h : Tryd.Tk w t r v ps) (hg : w.grownBy w' (some r)) : Tryd.Tk w' t r v ps := by
  refine ⟨?_, ?_, h.tr, h.vr, Nat.lt_of_lt_of_le h.hr hg.size⟩
  · rw [hg.block t (Array.getElem?_eq_some_iff.1 h.blk).1 (by simpa using h.tr)]; exact h.blk
  · exact h.row.kept hg (.inr h.vr)
theorem Tryd.Tk.c0 {w : World} {t r : Nat} {v : Value} {ps : List P} (h : Tryd.Tk w t r v ps) : w.cell? ⟨t, 0, none⟩ = some v := by simp [World.cell?, h.blk]
theorem Tryd.Tk.c1 {w : World} {t r : Nat} {v : Value} {ps : List P} (h : Tryd.Tk w t r v ps) : w.cell? ⟨t, 1, none⟩ = some (.slice (some ⟨r, 0, none⟩) (ps.length + 1) (ps.length + 1)) := by simp [World.cell?, h.blk]
theorem Tryd.info_bool' : (Tryd.prog.info? 4).map (fun i => (i.zero, i.size, i.bytes)) = some (some (.bool false), 1, 1) := by kernel_rfl
set_option maxHeartbeats 1000000 in
theorem Tryd.newTrack_any (ps : List P) (v : Value) (n : Nat) (w : World) (hn : n = ps.length) (hown : w.ownsRow 0 45 2 v n (cellsOf ps)) (hl : n ≤ 1000) :
    Calls Tryd.prog 27 #[v] w fun e w' => ∃ r t, e = .returned (.pointer (some ⟨t, 0, none⟩)) ∧ Tryd.Tk w' t r v ps ∧ w'.rowIs r 4 (ps.length + 1) (fun _ => .bool false) ∧ Below w.heap.size w w' ∧ w.heap.size ≤ r ∧ w.heap.size ≤ t := by
  have hmk := run_make_row' (P := Tryd.prog) 68 4 (.bool false) 1 Tryd.underlying68 Tryd.info_bool' rfl .i64 .i64 (n + 1) (by omega) (by omega)
  have hb1 := (Below.refl w.heap.size w).alloc (Nat.le_refl _) (.cells (madeCells #[.bool false] (n + 1)) 4)
  have hr1 := World.rowIs_made w (.bool false) (n + 1) 4
  have hs1 : (w.alloc (.cells (madeCells #[.bool false] (n + 1)) 4)).heap.size = w.heap.size + 1 := by simp
  generalize hw1 : w.alloc (.cells (madeCells #[.bool false] (n + 1)) 4) = w1 at hb1 hr1 hs1
  have hmk' : (Instr.makeSlice 68 (.int .i64 ((n : Int) + 1)) (.int .i64 ((n : Int) + 1))).run Tryd.prog w = .ok (.slice (some ⟨w.heap.size, 0, none⟩) (n + 1) (n + 1)) w1 := by
    rw [← hw1]
    exact hmk w
  have hvl := hown.lt
  have hwn : wrap64 ((n : Int) + 1) = (n : Int) + 1 := by unfold wrap64; omega
  have fin : ∃ r t, Ending.returned (.pointer (some ⟨w.heap.size + 1, 0, none⟩)) = .returned (.pointer (some ⟨t, 0, none⟩)) ∧ Tryd.Tk (w1.alloc (.cells #[v, .slice (some ⟨w.heap.size, 0, none⟩) (n + 1) (n + 1)] 81)) t r v ps ∧ (w1.alloc (.cells #[v, .slice (some ⟨w.heap.size, 0, none⟩) (n + 1) (n + 1)] 81)).rowIs r 4 (ps.length + 1) (fun _ => .bool false) ∧ Below w.heap.size w (w1.alloc (.cells #[v, .slice (some ⟨w.heap.size, 0, none⟩) (n + 1) (n + 1)] 81)) ∧ w.heap.size ≤ r ∧ w.heap.size ≤ t := by
    subst hn
    refine ⟨w.heap.size, w.heap.size + 1, rfl, ⟨by have := heap_alloc_new w1 (.cells #[v, .slice (some ⟨w.heap.size, 0, none⟩) (ps.length + 1) (ps.length + 1)] 81); rw [hs1] at this; exact this, ?_, by omega, ?_, by simp; omega⟩, ?_, hb1.alloc (by omega) _, Nat.le_refl _, by omega⟩
    · exact Gl.row_alloc (Gl.row_below hown hb1) _
    · intro e; have := hvl _ e; omega
    · exact (hr1.congr (fun i _ => rfl)).of_block (Below.heap_alloc w1 _ _ (by omega))
  clear hmk hw1 hb1 hr1
  rcases hown.2 with ⟨rfl, h0⟩ | ⟨g, cap, cur, rfl, _⟩
  · subst h0
    have Fin : Hid _ := fin
    have hmk0 : (Instr.makeSlice 68 (.int .i64 1) (.int .i64 1)).run Tryd.prog w = .ok (.slice (some ⟨w.heap.size, 0, none⟩) 1 1) w1 := hmk'
    clear fin hown hvl hn hmk'
    go_enter Tryd.func27, Tryd.ntmps27
    go_wp2
    go_ret
    exact Fin.out
  · have Fin : Hid _ := fin
    clear fin hown hvl hn
    go_enter Tryd.func27, Tryd.ntmps27
    go_wp2
    go_ret
    exact Fin.out
set_option maxHeartbeats 1000000 in
theorem Tryd.meant_any (ps : List P) (v : Value) (t r : Nat) (f : Nat → Bool) (w : World) (h : Tryd.Tk w t r v ps) (hr : w.rowIs r 4 (ps.length + 1) (fun i => .bool (f i))) (hl : ps.length ≤ 1000) :
    Calls Tryd.prog 31 #[.pointer (some ⟨t, 0, none⟩)] w fun e w' => e = .returned (.bool (f ps.length)) ∧ w' = w.drew := by
  have c0 := h.c0
  have c1 := h.c1
  have c2 := hr.cell (i := ps.length) (by omega)
  generalize hn : ps.length = n at *
  generalize f n = x at *
  rcases h.row.2 with ⟨rfl, h0⟩ | ⟨g, cap, cur, rfl, _⟩
  · rw [hn] at h0
    subst h0
    clear h hr hn
    go_enter Tryd.func31, Tryd.ntmps31
    go_wp2
    go_region
    go_wp2
    go_ret
    exact ⟨rfl, rfl⟩
  · rw [hn] at c0
    clear h hr hn
    go_enter Tryd.func31, Tryd.ntmps31
    go_wp2
    go_region
    go_wp2
    go_ret
    exact ⟨rfl, rfl⟩
set_option maxHeartbeats 4000000 in
set_option maxRecDepth 100000 in
theorem Tryd.spread_any (ps : List P) (v : Value) (t r : Nat) (f : Nat → Bool) (w : World) (h : Tryd.Tk w t r v ps) (hr : w.rowIs r 4 (ps.length + 1) (fun i => .bool (f i))) (hl : ps.length ≤ 1000) :
    Calls Tryd.prog 43 #[.pointer (some ⟨t, 0, none⟩)] w fun e w' => e = .returned (.tuple #[]) ∧ w.grownBy w' (some r) ∧ w'.rowIs r 4 (ps.length + 1) (fun i => .bool (spF ps f i)) := by
  have c0 := h.c0
  have HT : Hid (Tryd.Tk w t r v ps) := h
  have HR : Hid (w.rowIs r 4 (ps.length + 1) (fun i => .bool (f i))) := hr
  have hlen : ∃ a n cap, v = .slice a n cap ∧ n = ps.length := by
    rcases h.row.2 with ⟨rfl, h0⟩ | ⟨g, cap, cur, rfl, _⟩
    · exact ⟨none, 0, 0, rfl, h0.symm⟩
    · exact ⟨_, _, _, rfl, rfl⟩
  obtain ⟨a, n, cap, rfl, rfl⟩ := hlen
  clear h hr
  go_enter Tryd.func43, Tryd.ntmps43
  go_wp2
  go_loopw [9] (fun i wr => ∃ k : Nat, k ≤ ps.length ∧ i = .int .i64 k ∧ w.grownBy wr (some r) ∧ wr.rowIs r 4 (ps.length + 1) (fun j => .bool (if j ≤ k then spF ps f j else f j))) (fun i _ => ps.length - (intOf i).toNat)
  case atStart =>
    refine ⟨0, by omega, rfl, World.grownBy.refl _ _, HR.out.congr fun i _ => ?_⟩
    by_cases hi : i ≤ 0
    · obtain rfl : i = 0 := by omega
      rfl
    · rw [if_neg hi]
  case round =>
    obtain ⟨k, hk, rfl, hg, hrow⟩ := hrel
    by_cases hlt : k < ps.length
    · have hT := HT.out.keep hg
      have d1 := hT.c1
      have hlt' : k < ps.length := by omega
      obtain ⟨g, cap', hv, _, hgl⟩ := hT.row.form (by omega)
      cases hv
      obtain ⟨p, hpk⟩ : ∃ p, ps[k]? = some p := ⟨_, List.getElem?_eq_getElem hlt'⟩
      have hpk' : ps[k]'hlt' = p := by rw [List.getElem?_eq_getElem hlt'] at hpk; exact Option.some.inj hpk
      have ck : wr.cell? ⟨g, k * 2, none⟩ = some (.int .i64 p.kind) := by rw [hT.row.cellAt (k * 2) (by omega), Nat.mul_comm k 2, cells_kind ps k hlt', hpk']
      have cs : wr.cell? ⟨g, k * 2 + 1, none⟩ = some (.int .i32 p.sign) := by rw [hT.row.cellAt (k * 2 + 1) (by omega), Nat.mul_comm k 2, cells_sign ps k hlt', hpk']
      clear hpk'
      have cr := hrow.cell (i := k) (by omega)
      have cn := hrow.cell (i := k + 1) (by omega)
      rw [if_pos (Nat.le_refl k)] at cr
      rw [if_neg (by omega)] at cn
      have hgr : g ≠ r := fun e => hT.vr (by rw [e]; rfl)
      have htr := hT.tr
      have hrl := hT.hr
      have htl := (Array.getElem?_eq_some_iff.1 hT.blk).1
      have al : ∀ (o : Obj) (p : Addr), p.block < wr.heap.size → (wr.alloc o).cell? p = wr.cell? p := fun o p hp => ((Below.refl wr.heap.size wr).alloc (Nat.le_refl _) o).cell hp
      have a1 := fun o => (al o ⟨t, 1, none⟩ htl).trans d1
      have a2 := fun o => (al o ⟨r, k, none⟩ hrl).trans cr
      have a3 := fun o => (al o ⟨r, k + 1, none⟩ hrl).trans cn
      have a4 : ∀ o, (wr.alloc o).frozen? ⟨r, k + 1, none⟩ = false := fun o => (((Below.refl wr.heap.size wr).alloc (Nat.le_refl _) o).frozen (p := ⟨r, k + 1, none⟩) hrl).trans (hrow.frozen (k + 1))
      have al' : ∀ o, (wr.alloc o).rowIs r 4 (ps.length + 1) (fun j => .bool (if j ≤ k then spF ps f j else f j)) := fun o => hrow.of_block (Below.heap_alloc wr o r hrl)
      have hgo : ∀ o, wr.grownBy (wr.alloc o) (some r) := fun o => World.grownBy_alloc wr o _
      have hset : ∀ (W : World) (x : Value), W.grownBy (W.setCell ⟨r, k + 1, none⟩ x) (some r) := fun W x => ⟨rfl, rfl, rfl, by simp [World.setCell], fun j _ hj => Below.heap_setCell W _ x j (by simpa using hj)⟩
      have hsp : spF ps f (k + 1) = (f (k + 1) || (decide (p = .any) && spF ps f k)) := by rw [spF, hpk]; simp
      have stay : (decide (p = .any) && spF ps f k) = false → ∀ o, (wr.alloc o).rowIs r 4 (ps.length + 1) (fun j => .bool (if j ≤ k + 1 then spF ps f j else f j)) := fun hno o => (al' o).congr fun i _ => by
        by_cases h1 : i ≤ k
        · rw [if_pos h1, if_pos (by omega)]
        · by_cases h2 : i = k + 1
          · subst h2; rw [if_neg h1, if_pos (by omega), hsp, hno, Bool.or_false]
          · rw [if_neg h1, if_neg (by omega)]
      have turn : (decide (p = .any) && spF ps f k) = true → ∀ o, ((wr.setCell ⟨r, k + 1, none⟩ (.bool true)).alloc o).rowIs r 4 (ps.length + 1) (fun j => .bool (if j ≤ k + 1 then spF ps f j else f j)) := fun hno o => ((hrow.set (k + 1) (.bool true)).of_block (Below.heap_alloc _ o r (by simp [World.setCell]; omega))).congr fun i _ => by
        by_cases h1 : i ≤ k
        · rw [if_neg (by omega), if_pos h1, if_pos (by omega)]
        · by_cases h2 : i = k + 1
          · subst h2; rw [if_pos rfl, if_pos (by omega), hsp, hno, Bool.or_true]
          · rw [if_neg h2, if_neg h1, if_neg (by omega)]
      have fin1 : ∀ W : World, wr.grownBy W (some r) → W.rowIs r 4 (ps.length + 1) (fun j => .bool (if j ≤ k + 1 then spF ps f j else f j)) →
          ∃ k_1 : Nat, k_1 ≤ ps.length ∧ Value.int .i64 ((k : Int) + 1) = .int .i64 k_1 ∧ w.grownBy W (some r) ∧ W.rowIs r 4 (ps.length + 1) (fun j => .bool (if j ≤ k_1 then spF ps f j else f j)) :=
        fun W h1 h2 => ⟨k + 1, by omega, by rw [Int.natCast_add]; rfl, hg.trans h1, h2⟩
      have FIN : Hid _ := fin1
      have STAY : Hid _ := stay
      have TURN : Hid _ := turn
      have HGO : Hid _ := hgo
      have HSET : Hid _ := hset
      have kd : (p = .any ∧ (p.kind == 2) = true) ∨ (¬ p = .any ∧ (p.kind == 2) = false) := by
        cases p <;> simp [P.kind]
      have b1 : (k : Int) < (ps.length : Int) := by omega
      have b2 : (k : Int) < (ps.length : Int) + 1 := by omega
      have b3 : (k : Int) + 1 < (ps.length : Int) + 1 := by omega
      clear fin1 stay turn hgo hset al' hsp al hrow hT hg cr cn d1 HT HR
      clear hpk
      generalize hkk : p.kind = kk at *
      generalize p.sign = ss at *
      generalize hN : ps.length = N at *
      clear hN
      generalize hS : spF ps f k = S at *
      rcases kd with ⟨hany, hkd⟩ | ⟨hany, hkd⟩
      · have hda : decide (p = .any) = true := decide_eq_true hany
        cases S with
        | true =>
          clear hkk hany
          go_wp2
          go_roundw
          case rel => exact FIN.out _ ((HSET.out _ _).trans (World.grownBy_alloc _ _ _)) (TURN.out (by rw [hda]; rfl) _)
          case measure => simp [intOf]; omega
        | false =>
          clear hkk hany
          go_wp2
          go_roundw
          case rel => exact FIN.out _ (HGO.out _) (STAY.out (by rw [hda]; rfl) _)
          case measure => simp [intOf]; omega
      · have hda : decide (p = .any) = false := decide_eq_false hany
        clear hkk hany
        go_wp2
        go_roundw
        case rel => exact FIN.out _ (HGO.out _) (STAY.out (by rw [hda]; rfl) _)
        case measure => simp [intOf]; omega
    · have b1 : ¬ (k : Int) < (ps.length : Int) := by omega
      have hend : wr.rowIs r 4 (ps.length + 1) (fun i => .bool (spF ps f i)) := hrow.congr fun i hi => by rw [if_pos (by omega)]
      clear hrow
      go_wp2
      go_end0
      exact ⟨rfl, hg, hend⟩
end Go.Proofs
