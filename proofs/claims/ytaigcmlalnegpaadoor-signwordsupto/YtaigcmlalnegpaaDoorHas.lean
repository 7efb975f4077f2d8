import Derived.Test.YtaigcmlalnegpaaDoorEdge
import Derived.Test.YtaigcmlalnegpaaDoorKmp
import Derived.Deep.RegionWith
import Derived.Deep.OwnRows
namespace Go.Proofs
open Go.RowKit
theorem Sg.wrap_id (n : Int) (h0 : 0 ≤ n) (h1 : n ≤ 9223372036854775807) : IntKind.i64.wrap n = n := by
  have e : n % (2 ^ 64 : Int) = n := Int.emod_eq_of_lt h0 (by omega)
  simp only [IntKind.wrap, IntKind.bits, IntKind.signed, e]
  rw [if_neg]
  simp
  omega
theorem Sg.getD_at (s : ByteArray) (k : Nat) (h : k < s.size) : s.data.toList.getD k 0 = s[k]'h := by
  rw [Lib.getD_get!, Utf8W.get!_of_lt s k h]
theorem Sg.beq_byte (a b : UInt8) : (((a.toNat : Int)) == ((b.toNat : Int))) = decide (a = b) := by
  apply Bool.eq_iff_iff.2
  simp only [beq_iff_eq, decide_eq_true_eq]
  constructor
  · intro h; exact UInt8.toNat_inj.1 (by omega)
  · intro h; rw [h]
theorem Sg.bne_byte (a b : UInt8) : (((a.toNat : Int)) != ((b.toNat : Int))) = !decide (a = b) := by
  unfold bne
  rw [Sg.beq_byte]
set_option maxHeartbeats 4000000 in
theorem Tryd.extend_any (s : ByteArray) (b cap h : Nat) (tab : Nat → Nat) (c : UInt8) (w : World) (h1 : 1 ≤ s.size) (hs : s.size ≤ maxLen) (hh : h ≤ s.size)
    (hc : ∀ i, i < h → w.cell? ⟨b, i, none⟩ = some (.int .i64 (tab i))) (ht : ∀ i, i < h → tab i ≤ i) :
    Calls Tryd.prog 32 #[.string s, .slice (some ⟨b, 0, none⟩) s.size cap, .int .i64 h, .int .u8 c.toNat] w fun e w' => e = .returned (.int .i64 (Sg.ext s.data.toList tab c h)) ∧ w' = w := by
  have hl : s.data.toList.length = s.size := (Lib.size_eq s).symm
  unfold maxLen at hs
  go_enter Tryd.func32, Tryd.ntmps32
  go_wp2
  go_loop [2] (fun v => ∃ k : Nat, k ≤ h ∧ v = .int .i64 k ∧ Sg.ext s.data.toList tab c k = Sg.ext s.data.toList tab c h) (fun v => (intOf v).toNat)
  case atStart => exact ⟨h, Nat.le_refl _, rfl, rfl⟩
  case round =>
    obtain ⟨k, hk, rfl, hx⟩ := hrel
    rw [Sg.ext_step s.data.toList tab c k (fun i hi => ht i (by omega)), hl] at hx
    have Hx : Hid _ := hx
    clear hx
    by_cases hk0 : k = 0
    · subst hk0
      have hg := Sg.getD_at s 0 (by omega)
      cases hd : decide (s[0]'(by omega) = c) with
      | true =>
        have hb := (Sg.beq_byte (s[0]'(by omega)) c).trans hd
        have hd' := of_decide_eq_true hd
        have Hd : Hid _ := hd'
        have Hg : Hid _ := hg
        clear hd hd' hg
        go_wp2
        go_ret
        exact ⟨Sg.ret_int (by rw [← Hx.out, if_neg (by omega), if_pos (Hg.out.trans Hd.out)]; rfl), rfl⟩
      | false =>
        have hb := (Sg.beq_byte (s[0]'(by omega)) c).trans hd
        have hd' := of_decide_eq_false hd
        have Hd : Hid _ := hd'
        have Hg : Hid _ := hg
        clear hd hd' hg
        go_wp2
        go_ret
        exact ⟨Sg.ret_int (by rw [← Hx.out, if_neg (by omega), if_neg (by rw [Hg.out]; exact Hd.out)]; rfl), rfl⟩
    · have hck := hc (k - 1) (by omega)
      have htk := ht (k - 1) (by omega)
      have e1 : ((k : Int) - 1).toNat = k - 1 := by omega
      by_cases hkm : k = s.size
      · have q1 : ((k : Int) == (s.size : Int)) = true := beq_iff_eq.2 (by omega)
        have Hkm : Hid _ := hkm
        clear hkm
        go_wp2
        go_round
        case rel => exact ⟨tab (k - 1), by omega, rfl, by rw [← Hx.out, if_pos ⟨by omega, .inl Hkm.out⟩]⟩
        case measure => simp [intOf]; omega
      · have q1 : ((k : Int) == (s.size : Int)) = false := beq_eq_false_iff_ne.2 (by omega)
        have hlt : k < s.size := by omega
        have hg := Sg.getD_at s k hlt
        cases hd : decide (s[k]'hlt = c) with
        | true =>
          have hb := (Sg.beq_byte (s[k]'hlt) c).trans hd
          have hb2 : (((s[k]'hlt).toNat : Int) != (c.toNat : Int)) = false := by rw [Sg.bne_byte, hd]; rfl
          have hd' := of_decide_eq_true hd
          have Hd : Hid _ := hd'
          have Hg : Hid _ := hg
          clear hd hd' hg
          go_wp2
          go_ret
          exact ⟨Sg.ret_int (by rw [← Hx.out, if_neg (fun h => by rcases h.2 with h2 | h2; exact hkm h2; exact h2 (Hg.out.trans Hd.out)), if_pos (Hg.out.trans Hd.out)]; rfl), rfl⟩
        | false =>
          have hb2 : (((s[k]'hlt).toNat : Int) != (c.toNat : Int)) = true := by rw [Sg.bne_byte, hd]; rfl
          have hd' := of_decide_eq_false hd
          have Hd : Hid _ := hd'
          have Hg : Hid _ := hg
          clear hd hd' hg
          go_wp2
          go_round
          case rel => exact ⟨tab (k - 1), by omega, rfl, by rw [← Hx.out, if_pos ⟨by omega, .inr (by rw [Hg.out]; exact Hd.out)⟩]⟩
          case measure => simp [intOf]; omega
theorem Tryd.info_int : (Tryd.prog.info? 3).map (fun i => (i.zero, i.size, i.bytes)) = some (some (.int .i64 0), 1, 8) := by kernel_rfl
def Sg.cellOf (p : List UInt8) (k i : Nat) : Value := .int .i64 (if i < k then (Sg.sh p i : Int) else 0)
theorem Sg.cellOf_step (s : ByteArray) (j i : Nat) (hlt : j + 1 < s.size) :
    (if i = j + 1 then Value.int .i64 (Sg.ext s.data.toList (Sg.sh s.data.toList) (s[j + 1]'hlt) (Sg.sh s.data.toList j) : Nat) else Sg.cellOf s.data.toList (j + 1) i) = Sg.cellOf s.data.toList (j + 2) i := by
  unfold Sg.cellOf
  by_cases h : i = j + 1
  · subst h
    rw [if_pos rfl, if_pos (by omega), Sg.sh_succ, Sg.getD_at s (j + 1) hlt]
  · rw [if_neg h]
    by_cases h2 : i < j + 1
    · rw [if_pos h2, if_pos (by omega)]
    · rw [if_neg h2, if_neg (by omega)]
set_option maxHeartbeats 4000000 in
set_option maxRecDepth 100000 in
theorem Tryd.borders_any (s : ByteArray) (w : World) (h1 : 1 ≤ s.size) (hs : 8 * s.size ≤ 281474976710656) :
    Calls Tryd.prog 31 #[.string s] w fun e w' => e = .returned (.slice (some ⟨w.heap.size, 0, none⟩) s.size s.size) ∧ Below w.heap.size w w' ∧ w'.rowIs w.heap.size 3 s.size (Sg.cellOf s.data.toList s.size) := by
  have hmk := run_make_row' (P := Tryd.prog) 54 3 (.int .i64 0) 8 Tryd.underlying54 Tryd.info_int rfl .i64 .i64 s.size hs (by omega)
  have hb1 := (Below.refl w.heap.size w).alloc (Nat.le_refl _) (.cells (madeCells #[.int .i64 0] s.size) 3)
  have hr1 := World.rowIs_made w (.int .i64 0) s.size 3
  generalize hw1 : w.alloc (.cells (madeCells #[.int .i64 0] s.size) 3) = w1 at hb1 hr1
  have hmk' : (Instr.makeSlice 54 (.int .i64 (s.size : Int)) (.int .i64 (s.size : Int))).run Tryd.prog w = .ok (.slice (some ⟨w.heap.size, 0, none⟩) s.size s.size) w1 := by rw [← hw1]; exact hmk w
  clear hmk hw1
  go_enter Tryd.func31, Tryd.ntmps31
  go_wp2
  go_loopw [4] (fun i wr => ∃ k : Nat, 1 ≤ k ∧ k ≤ s.size ∧ i = .int .i64 k ∧ Below w.heap.size w wr ∧ wr.rowIs w.heap.size 3 s.size (Sg.cellOf s.data.toList k)) (fun i _ => s.size - (intOf i).toNat)
  case atStart => exact ⟨1, by omega, h1, rfl, hb1, hr1.congr (fun i _ => by
    unfold Sg.cellOf
    by_cases h : i < 1
    · obtain rfl : i = 0 := by omega
      rfl
    · rw [if_neg h])⟩
  case round =>
    obtain ⟨k, hk1, hk, rfl, hb, hr⟩ := hrel
    clear hmk' hb1 hr1
    by_cases hlt : k < s.size
    · obtain ⟨j, rfl⟩ : ∃ j, k = j + 1 := ⟨k - 1, by omega⟩
      have c1 : wr.cell? ⟨w.heap.size, j, none⟩ = some (.int .i64 (Sg.sh s.data.toList j)) := by
        rw [hr.cell (by omega)]; unfold Sg.cellOf; rw [if_pos (by omega)]
      have c2 : ∃ v, wr.cell? ⟨w.heap.size, j + 1, none⟩ = some v := ⟨_, hr.cell hlt⟩
      obtain ⟨v, c2⟩ := c2
      have c3 := hr.frozen (j + 1)
      have hsl := Sg.sh_le s.data.toList j
      have hcall := fun w' (hw' : w'.rowIs w.heap.size 3 s.size (Sg.cellOf s.data.toList (j + 1))) => Tryd.extend_any s w.heap.size s.size (Sg.sh s.data.toList j) (Sg.sh s.data.toList) (s[j + 1]'hlt) w' h1 (by unfold maxLen; omega) (by omega)
        (fun i hi => by rw [hw'.cell (by omega)]; unfold Sg.cellOf; rw [if_pos (by omega)]) (fun i _ => Sg.sh_le _ i)
      have Hcall : Hid _ := hcall
      have hjs : j < s.size := by omega
      have e1 : ((j : Int) + 1 - 1) = (j : Int) := by omega
      have e2 : ((j : Int) + 1).toNat = j + 1 := by omega
      have w1 : IntKind.i64.wrap (j : Int) = (j : Int) := Sg.wrap_id _ (by omega) (by omega)
      have w2 : IntKind.i64.wrap ((j : Int) + 1 - 1) = (j : Int) := by rw [e1]; exact w1
      have w3 : IntKind.i64.wrap (((j + 1 : Nat) : Int) - 1) = (j : Int) := by rw [show ((j + 1 : Nat) : Int) - 1 = (j : Int) from by omega]; exact w1
      have j0 : (0 : Int) ≤ (j : Int) := by omega
      have j1 : (j : Int) < (s.size : Int) := by omega
      have j2 : (j : Int) + 1 < (s.size : Int) := by omega
      clear hcall
      go_wp2
      go_region_with (go_at_call 32; refine (Hcall.out _ hr.drew).mono ?_; rintro e w' ⟨rfl, rfl⟩)
      all_goals
        go_wp2
        go_roundw
        case rel =>
          refine ⟨j + 2, by omega, by omega, by go_num, (hb.setCell (p := ⟨w.heap.size, j + 1, none⟩) (Nat.le_refl _) _).drew, ((hr.set (j + 1) _).congr ?_).drew⟩
          intro i hi
          exact Sg.cellOf_step s j i hlt
        case measure => simp [intOf]; omega
    · obtain rfl : k = s.size := by omega
      go_wp2
      go_ret
      exact ⟨rfl, hb, hr⟩
end Go.Proofs
