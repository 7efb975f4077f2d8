/-
  The program's Hex.
-/
import Derived.Test.YtkfmfdnfjeofiaaDoorIp
namespace Go.Proofs
open Go.RowKit Go.Wi Go.Dg
theorem Dg.hex_next (b : List UInt8) (i : Nat) (h : i < b.length) : hex (b.take (i + 1)) = hex (b.take i) ++ [hexD (b[i].toNat / 16), hexD (b[i].toNat % 16)] := by
  rw [List.take_add_one, List.getElem?_eq_getElem h, Dg.hex_app]
  rfl
theorem Dg.room_step {w wr w1 : World} {g : Nat} (hw : Below w.heap.size w wr) (hg : w.heap.size ≤ g) {o : Obj} (h1 : Wo (fun k => k = g) (wr.alloc o).drew w1) : Below w.heap.size w w1 :=
  Wo.toBelow (hw.alloc hw.size o) (w1 := (wr.alloc o)) (Wo.mk h1.os h1.tape h1.output h1.size h1.block) (fun k e => by rw [e]; exact hg) (Nat.le_trans hw.size (by simp))
theorem Dg.room_step2 {w wr w1 : World} {g : Nat} (hw : Below w.heap.size w wr) (hg : w.heap.size ≤ g) {o : Obj} (h1 : Wo (fun k => k = g) (wr.alloc o) w1) : Below w.heap.size w w1 :=
  Wo.toBelow (hw.alloc hw.size o) (w1 := (wr.alloc o)) h1 (fun k e => by rw [e]; exact hg) (Nat.le_trans hw.size (by simp))
set_option maxRecDepth 20000 in
set_option maxHeartbeats 1000000 in
theorem Tryd.hex_any {w : World} {b : List UInt8} {V : Value} (hb : Bs w V b) (hv : ∀ k, V.ownBlock = some k → k < w.heap.size) (hl : 2 * b.length ≤ 281474976710656) :
    Calls Tryd.prog 12 #[V] w fun e w' => e = .returned (.string ⟨(hex b).toArray⟩) ∧ Below w.heap.size w w' := by
  obtain ⟨ad, cap, rfl, hx⟩ := hb.ex
  clear hx
  obtain ⟨L, hL⟩ : ∃ L, L = b.length := ⟨_, rfl⟩
  have HB : Hid _ := hb
  have HV : Hid _ := hv
  have HL : Hid (L = b.length) := hL
  rw [← hL] at HB HV hl ⊢
  clear hb hv hL
  obtain ⟨L2, hL2⟩ : ∃ L2, L2 = 2 * L := ⟨_, rfl⟩
  have e0 : 2 * (L : Int) = (L2 : Int) := by omega
  have hl2 : (L2 : Int) ≤ 281474976710656 := by omega
  have HL2 : Hid (L2 = 2 * L) := hL2
  have hL2' : L2 ≤ 281474976710656 := by omega
  have hl3 : (L : Int) ≤ 281474976710656 := by omega
  clear hL2
  go_enter Tryd.func12, Tryd.ntmps12
  go_wp2_with (first | (refine Tryd.makeLC rfl _ _ rfl _ _ _ _ 0 L2 rfl rfl rfl rfl (by omega) hL2' ?_; intro w1 ho1 hb1 hs1; have HO1 : Hid _ := ho1; have HB1 : Hid _ := hb1; clear ho1 hb1 hs1) | fail)
  go_loopw [3, 12] (fun v iv wr => ∃ (i N : Nat), v = .slice (some ⟨w.heap.size, 0, none⟩) N L2 ∧ iv = .int .i64 (i : Int) ∧ Hid (N = 2 * i) ∧ i ≤ L ∧ Hid (Ob wr w.heap.size v (hex (b.take i))) ∧ Hid (Below w.heap.size w wr)) (fun _ iv _ => L - (intOf iv).toNat)
  case atStart => exact ⟨0, 0, rfl, rfl, rfl, by omega, by rw [List.take_zero]; exact HO1, HB1⟩
  case round =>
    clear HO1 HB1
    obtain ⟨i, N, rfl, rfl, HN, hi, Ho, Hw⟩ := hrel
    by_cases hlt : i < L
    · have q1 : (i : Int) < (L : Int) := by omega
      have q2 : (0 : Int) ≤ (i : Int) := by omega
      have hib : i < b.length := by rw [← HL.out]; exact hlt
      obtain ⟨g, o, rfl, c1⟩ := Dg.bs_at (HB.out.below Hw.out HV.out) hib
      have HX : Hid _ := Dg.hex_next b i hib
      have x1 := (b[i]).toNat_lt
      generalize (b[i]).toNat = X at *
      obtain ⟨H, hH⟩ : ∃ H : Nat, H = X / 16 := ⟨_, rfl⟩
      obtain ⟨M, hM⟩ : ∃ M : Nat, M = X % 16 := ⟨_, rfl⟩
      have e1 : (X : Int) / 16 = (H : Int) := by omega
      have e1' : IntKind.u8.wrap ((X : Int) / 16) = (H : Int) := by rw [IntKind.wrap_u8]; omega
      have e2 : (X : Int) % 16 = (M : Int) := by omega
      have e2' : (X : Int).tmod 16 = (M : Int) := by rw [Int.tmod_eq_emod_of_nonneg (by omega)]; omega
      have r0 : (0 : Int) ≤ (H : Int) := by omega
      have r3 : (0 : Int) ≤ (M : Int) := by omega
      have r1 : (H : Int) < 16 := by omega
      have r2 : (M : Int) < 16 := by omega
      rw [← hH, ← hM] at HX
      clear hH hM hib x1
      have hcs : #[Value.int .u8 ((⟨#[48, 49, 50, 51, 52, 53, 54, 55, 56, 57, 97, 98, 99, 100, 101, 102]⟩ : ByteArray)[H]'(by show _ < 16; omega)).toNat, Value.int .u8 ((⟨#[48, 49, 50, 51, 52, 53, 54, 55, 56, 57, 97, 98, 99, 100, 101, 102]⟩ : ByteArray)[M]'(by show _ < 16; omega)).toNat] = (Lib.byteCells [hexD H, hexD M]).toArray := by
        rw [Dg.digit H (by omega), Dg.digit M (by omega)]
        rfl
      have Hcs : Hid _ := hcs
      have Hnl : Hid (N = (hex (b.take i)).length) := (by show _ = _; rw [Dg.hex_len, List.length_take, ← HL.out, HN.out]; omega)
      have hr : N + 2 ≤ L2 := by have := HN.out; have := HL2.out; omega
      clear hcs
      go_wp2_with (fail)
      go_region_law (first | (refine Tryd.roomS (by rfl) (.tmp 16) (.tmp 23) (by rfl) (B := w.heap.size) (g := w.heap.size) (C := L2) (l := hex (b.take i)) (n := N) (Ho.out.alloc _).drew Hnl.out (by rfl) [hexD H, hexD M] 2 wr.heap.size (by rfl) rfl _ Hcs.out (heap_alloc_new wr _) hr ?_; intro w1 ho1 hw1) | fail)
      all_goals
        have HO : Hid _ := ho1
        have HB1 : Hid _ := Dg.room_step Hw.out (Nat.le_refl _) hw1
        clear ho1 hw1 Hcs
        go_wp2
        go_roundw
        case rel =>
          refine ⟨i + 1, N + 2, rfl, by go_num, ?_, by omega, ?_, HB1.out⟩
          · have := HN.out
            show _ = _
            omega
          · rw [HX.out]
            exact HO.out
        case measure => simp [intOf]; omega
    · have q1 : ¬ (i : Int) < (L : Int) := by omega
      obtain rfl : i = L := by omega
      have hc := Tryd.conv_bs (Ob.bs Ho.out)
      go_wp2
      go_ret
      rw [List.take_of_length_le (by rw [← HL.out]; omega)]
      exact ⟨rfl, Hw.out⟩
end Go.Proofs
