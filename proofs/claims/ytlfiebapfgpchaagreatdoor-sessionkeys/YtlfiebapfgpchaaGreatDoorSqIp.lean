/-
  Laid together by merge.py of Ip Iq.
-/
import Derived.Test.YtlfiebapfgpchaaGreatDoorSqIm
namespace Go.Proofs
open Go.RowKit Go.Wi Go.Dg
theorem Dg.xor0 (x y : Nat) : x ^^^ y = 0 ↔ x = y := ⟨fun h => Go.Wi.xor_inj (v := y) (by rw [h, Nat.xor_self]), fun h => by rw [h, Nat.xor_self]⟩
theorem Dg.same_next (a b : List UInt8) (i D : Nat) (ha : i < a.length) (hb : i < b.length) (h : D = 0 ↔ a.take i = b.take i) : (D ||| (a[i].toNat ^^^ b[i].toNat) = 0) ↔ a.take (i + 1) = b.take (i + 1) := by
  rw [Nat.or_eq_zero_iff, Dg.xor0, h, List.take_add_one, List.take_add_one, List.getElem?_eq_getElem ha, List.getElem?_eq_getElem hb, Option.toList_some, Option.toList_some]
  constructor
  · rintro ⟨h1, h2⟩
    rw [h1, UInt8.toNat_inj.1 h2]
  · intro h1
    obtain ⟨h2, h3⟩ := List.append_inj' h1 rfl
    injection h3 with h3
    exact ⟨h2, by rw [h3]⟩
/-- A byte of some bytes. -/
theorem Dg.bs_at {w : World} {ad : Option Addr} {L cap : Nat} {b : List UInt8} (h : Bs w (.slice ad L cap) b) {i : Nat} (hi : i < b.length) : ∃ g o, ad = some ⟨g, o, none⟩ ∧ w.cell? ⟨g, o + i, none⟩ = some (.int .u8 ((b[i]'hi).toNat : Nat)) := by
  obtain ⟨ad', cap', e, h1, h2, h3⟩ := h.ex
  injection e with e1 e2 e3
  subst e1
  rcases h3 with h3 | ⟨g, o, rfl, h4, h5⟩
  · rw [h3] at hi
    simp at hi
  · exact ⟨g, o, rfl, h5 i _ (byteCell hi)⟩
theorem Dg.bs_len {w : World} {ad : Option Addr} {L cap : Nat} {b : List UInt8} (h : Bs w (.slice ad L cap) b) : L = b.length := by
  obtain ⟨ad', cap', e, _⟩ := h.ex
  injection e with e1 e2 e3
set_option maxRecDepth 20000 in
set_option maxHeartbeats 1000000 in
theorem Tryz.same_any' {w : World} {a b : List UInt8} {U V : Value} (hu : Bs w U a) (hv : Bs w V b) (hl : a.length ≤ 1000000000000000) :
    Calls Tryz.prog 75 #[U, V] w fun e w' => e = .returned (.bool (decide (a = b))) ∧ ∃ m, w' = w.drewN m := by
  obtain ⟨ad, cap, rfl, hx⟩ := hu.ex
  obtain ⟨ad2, cap2, rfl, hx2⟩ := hv.ex
  clear hx hx2
  obtain ⟨L, hL⟩ : ∃ L, L = a.length := ⟨_, rfl⟩
  obtain ⟨L2, hL2⟩ : ∃ L2, L2 = b.length := ⟨_, rfl⟩
  have HU : Hid _ := hu
  have HV : Hid _ := hv
  have HL : Hid (L = a.length ∧ L2 = b.length) := ⟨hL, hL2⟩
  rw [← hL] at HU hl ⊢
  rw [← hL2] at HV ⊢
  clear hu hv hL hL2
  have hl2 : (L : Int) ≤ 1000000000000000 := by omega
  go_enter Tryz.func75, Tryz.ntmps75
  by_cases hq : L = L2
  · subst hq
    go_wp2
    go_loopw [5, 14] (fun dv iv wr => ∃ (i D m : Nat), dv = .int .u8 (D : Int) ∧ iv = .int .i64 (i : Int) ∧ i ≤ L ∧ D < 256 ∧ Hid (D = 0 ↔ a.take i = b.take i) ∧ wr = w.drewN m) (fun _ iv _ => L - (intOf iv).toNat)
    case atStart => exact ⟨0, 0, 0, rfl, rfl, by omega, by omega, by simp [Hid], rfl⟩
    case round =>
      obtain ⟨i, D, m, rfl, rfl, hi, hD, HR, rfl⟩ := hrel
      by_cases hlt : i < L
      · have q1 : (i : Int) < (L : Int) := by omega
        have hia : i < a.length := by rw [← HL.out.1]; exact hlt
        have hib : i < b.length := by rw [← HL.out.2]; exact hlt
        obtain ⟨g, o, rfl, c1⟩ := Dg.bs_at HU.out hia
        obtain ⟨g2, o2, rfl, c2⟩ := Dg.bs_at HV.out hib
        have HN : Hid _ := Dg.same_next a b i D hia hib HR.out
        have x1 := (a[i]).toNat_lt
        have x2 := (b[i]).toNat_lt
        generalize (a[i]).toNat = X at *
        generalize (b[i]).toNat = Y at *
        have e1 := u8_xor_nat X Y x1 x2
        have xl : X ^^^ Y < 256 := Nat.xor_lt_two_pow (n := 8) x1 x2
        have e2 := u8_or_nat D (X ^^^ Y) hD xl
        have ol : D ||| (X ^^^ Y) < 256 := Nat.or_lt_two_pow (n := 8) hD xl
        obtain ⟨E, hE⟩ : ∃ E, E = D ||| (X ^^^ Y) := ⟨_, rfl⟩
        rw [← hE] at e2 ol HN
        clear hE hia hib
        have d1 : (w.drewN m).cell? ⟨g, o + i, none⟩ = some (.int .u8 (X : Int)) := c1
        have d2 : (w.drewN m).cell? ⟨g2, o2 + i, none⟩ = some (.int .u8 (Y : Int)) := c2
        have q2 : (0 : Int) ≤ (i : Int) := by omega
        clear c1 c2
        generalize hW : w.drewN m = W at *
        have HW : Hid _ := hW
        clear hW
        go_wp2
        go_quiet (fail)
        go_wp2
        go_roundw
        case rel => exact ⟨i + 1, E, m + nq, rfl, by go_num, by omega, ol, HN, by rw [← HW.out, World.drewN_drewN]⟩
        case measure => simp [intOf]; omega
      · have q1 : ¬ (i : Int) < (L : Int) := by omega
        obtain rfl : i = L := by omega
        go_wp2
        go_ret
        refine ⟨?_, m, rfl⟩
        have h1 := HR.out
        rw [List.take_of_length_le (by rw [← HL.out.1]; omega), List.take_of_length_le (by rw [← HL.out.2]; omega)] at h1
        congr 2
        by_cases hab : a = b
        · simp [hab, h1.2 hab]
        · have : ¬ D = 0 := fun e => hab (h1.1 e)
          simp [hab, this]
          try omega
  · have q0 : ((L : Int) != (L2 : Int)) = true := by simp; omega
    go_wp2
    go_ret
    refine ⟨?_, 0, rfl⟩
    have : ¬ a = b := fun e => hq (by rw [HL.out.1, HL.out.2, e])
    simp [this]
end Go.Proofs

namespace Go.Proofs
open Go.RowKit Go.Wi Go.Dg
theorem Dg.hex_next (b : List UInt8) (i : Nat) (h : i < b.length) : hex (b.take (i + 1)) = hex (b.take i) ++ [hexD (b[i].toNat / 16), hexD (b[i].toNat % 16)] := by
  rw [List.take_add_one, List.getElem?_eq_getElem h, Dg.hex_app]
  rfl
theorem Dg.room_step {w wr w1 : World} {g : Nat} (hw : Below w.heap.size w wr) (hg : w.heap.size ≤ g) {o : Obj} (h1 : Wo (fun k => k = g) (wr.alloc o).drew w1) : Below w.heap.size w w1 :=
  Wo.toBelow (hw.alloc hw.size o) (w1 := (wr.alloc o)) (Wo.mk h1.os h1.tape h1.output h1.size h1.block) (fun k e => by rw [e]; exact hg) (Nat.le_trans hw.size (by simp))
theorem Dg.room_step2 {w wr w1 : World} {g : Nat} (hw : Below w.heap.size w wr) (hg : w.heap.size ≤ g) {o : Obj} (h1 : Wo (fun k => k = g) (wr.alloc o) w1) : Below w.heap.size w w1 :=
  Wo.toBelow (hw.alloc hw.size o) (w1 := (wr.alloc o)) h1 (fun k e => by rw [e]; exact hg) (Nat.le_trans hw.size (by simp))
end Go.Proofs
