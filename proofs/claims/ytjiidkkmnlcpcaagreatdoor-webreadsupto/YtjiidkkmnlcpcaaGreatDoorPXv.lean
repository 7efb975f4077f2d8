/-
  Laid together by packg.py of Xv.
-/
import Derived.Test.YtjiidkkmnlcpcaaGreatDoorPXu
namespace Go.Wb
open Go.RowKit Go.Proofs
/-- What the head says of the body, by numbers. -/
def frN (st : Nat) (newer : Bool) (h k : Nat) (c : List UInt8) (n : Nat) (l : List UInt8) (most : Nat) : Nat × Bool × Nat :=
  if st = 0 ∧ (1 < h ∨ newer = true ∧ h = 0) then (0, false, 180)
  else if 0 < k ∧ (0 < n ∨ newer = false) then (0, false, 180)
  else if 0 < k ∧ (1 < k ∨ c.map sm ≠ wChunked) then (0, false, 183)
  else if n = 0 then (0, decide (0 < k), 0)
  else if 1 < n ∨ isNumber l = false then (0, false, 180)
  else if most < numberOf most l then (0, false, 182)
  else (numberOf most l, false, 0)
theorem frame_is (m : Msg) : frame m = frN m.status m.newer (vals m wHost).length (vals m wCoding).length ((vals m wCoding).headD []) (vals m wLength).length ((vals m wLength).headD []) m.most := rfl
theorem row_head {w : World} {B n cap : Nat} {ad : Option Addr} {T : TypeId} {L : List (List UInt8)} (h : w.ownsRow B T 1 (.slice ad n cap) n (strCells L)) (hn : 0 < n) : ∃ g, ad = some ⟨g, 0, none⟩ ∧ w.cell? ⟨g, 0, none⟩ = some (.string ⟨(L.headD []).toArray⟩) := by
  have hl := h.1
  rw [strCells_len, Nat.mul_one] at hl
  rcases h.2 with ⟨e, h0⟩ | ⟨g, cap', cur, e, hB, hg, h1, h2, h3, h4⟩
  · omega
  · injection e with e1 e2 e3
    refine ⟨g, e1, ?_⟩
    rw [cell_of_row _ _ _ _ _ _ hg]
    cases L with
    | nil => simp at hl; omega
    | cons x r =>
      have : (strCells (x :: r))[0]? = some (.string ⟨x.toArray⟩) := rfl
      rw [← h4, List.getElem?_take, if_pos (by omega)] at this
      simpa using this
theorem results3 {fn : Func} {t u v : Tmp} (h : fn.results = #[.tmp t, .tmp u, .tmp v]) (tmps : Array Value) (P : Program) (w : World) :
    (results fn tmps).run P w = .ok (.tuple #[tmps.getD t undef, tmps.getD u undef, tmps.getD v undef]) w := by
  simp [results, h]
end Go.Wb
namespace Go.Proofs
open Go.RowKit Go.Wi Go.Wb
set_option maxRecDepth 20000 in
set_option maxHeartbeats 8000000 in
theorem Tryz.frame_any {T : TypeId} {w : World} {own : Nat → Prop} {b : Nat} {m : Msg} (h : Tryz.Ms T w own b m) (hh : m.headers.length ≤ 4398046511000) (hs : ∀ p ∈ m.headers, p.2.length ≤ 4000000000) (hmo : m.most ≤ 999999999) :
    Calls Tryz.prog 143 #[.pointer (some ⟨b, 0, none⟩)] w fun e w' => e = .returned (.tuple #[.int .i64 ((Wb.frame m).1 : Nat), .bool (Wb.frame m).2.1, .int .i64 ((Wb.frame m).2.2 : Nat)]) ∧ Below w.heap.size w w' := by
  have kV : ∀ (W : World) (nm : List UInt8), Below w.heap.size w W → Calls Tryz.prog 148 #[.pointer (some ⟨b, 0, none⟩), .string ⟨nm.toArray⟩] W fun e w' => ∃ ad cap, e = .returned (.slice ad (vals m nm).length cap) ∧ w'.ownsRow W.heap.size 9 1 (.slice ad (vals m nm).length cap) (vals m nm).length (strCells (vals m nm)) ∧ Below W.heap.size W w' := fun W nm hb => Tryz.values_any (h.below hb) nm hh
  have kv1 := kV w wHost (Below.refl _ _)
  have hc0 : ((vals m wCoding).headD []).length ≤ 4000000000 := by
    cases e : vals m wCoding with
    | nil => exact Nat.zero_le _
    | cons x r => obtain ⟨k, hk⟩ := Wb.vals_mem (m := m) (nm := wCoding) (x := x) (by rw [e]; simp); exact hs _ hk
  have hl0 : ((vals m wLength).headD []).length ≤ 4000000000 := by
    cases e : vals m wLength with
    | nil => exact Nat.zero_le _
    | cons x r => obtain ⟨k, hk⟩ := Wb.vals_mem (m := m) (nm := wLength) (x := x) (by rw [e]; simp); exact hs _ hk
  have ks : ∀ W, Calls Tryz.prog 52 #[.string ⟨((vals m wCoding).headD []).toArray⟩] W fun e w' => e = .returned (.string ⟨(((vals m wCoding).headD []).map sm).toArray⟩) ∧ Below W.heap.size W w' := Tryz.smallText_any _ (by omega)
  have ki : ∀ W, Calls Tryz.prog 149 #[.string ⟨((vals m wLength).headD []).toArray⟩] W fun e w' => e = .returned (.bool (isNumber ((vals m wLength).headD []))) ∧ w' = W := Tryz.isNumber_any _ (by omega)
  have kn : ∀ W, Below w.heap.size w W → isNumber ((vals m wLength).headD []) = true → Calls Tryz.prog 150 #[.pointer (some ⟨b, 0, none⟩), .string ⟨((vals m wLength).headD []).toArray⟩] W fun e w' => e = .returned (.int .i64 (numberOf m.most ((vals m wLength).headD []) : Nat)) ∧ w' = W := fun W hb hd => Tryz.numberOf_any (h.below hb) hmo _ (by omega) (by simp only [isNumber, Bool.and_eq_true] at hd; exact hd.2)
  have kc : ∀ W, Below w.heap.size w W → W.cell? ⟨b, 9, none⟩ = some (.int .i64 m.status) ∧ W.cell? ⟨b, 10, none⟩ = some (.bool m.newer) ∧ W.cell? ⟨b, 16, none⟩ = some (.int .i64 m.most) := fun W hb => by
    obtain ⟨aw, cw, ah, ch, ab, cb, hmw⟩ := h.ex
    have hlt := hmw.lt b hmw.ob
    exact ⟨(hb.cell (p := ⟨b, 9, none⟩) hlt).trans ((cell_of_row _ _ 9 _ _ _ hmw.blk).trans rfl), (hb.cell (p := ⟨b, 10, none⟩) hlt).trans ((cell_of_row _ _ 10 _ _ _ hmw.blk).trans rfl), (hb.cell (p := ⟨b, 16, none⟩) hlt).trans ((cell_of_row _ _ 16 _ _ _ hmw.blk).trans rfl)⟩
  rw [frame_is]
  clear h hh hs hc0 hl0
  have KV : Hid (∀ (W : World) (nm : List UInt8), Below w.heap.size w W → Calls Tryz.prog 148 #[.pointer (some ⟨b, 0, none⟩), .string ⟨nm.toArray⟩] W fun e w' => ∃ ad cap, e = .returned (.slice ad (vals m nm).length cap) ∧ w'.ownsRow W.heap.size 9 1 (.slice ad (vals m nm).length cap) (vals m nm).length (strCells (vals m nm)) ∧ Below W.heap.size W w') := kV
  have KC : Hid (∀ W, Below w.heap.size w W → W.cell? ⟨b, 9, none⟩ = some (.int .i64 m.status) ∧ W.cell? ⟨b, 10, none⟩ = some (.bool m.newer) ∧ W.cell? ⟨b, 16, none⟩ = some (.int .i64 m.most)) := kc
  clear kV kc
  obtain ⟨H, hH⟩ : ∃ H, (vals m wHost).length = H := ⟨_, rfl⟩
  obtain ⟨K, hK⟩ : ∃ K, (vals m wCoding).length = K := ⟨_, rfl⟩
  obtain ⟨N, hN⟩ : ∃ N, (vals m wLength).length = N := ⟨_, rfl⟩
  obtain ⟨Y, hY⟩ : ∃ Y, numberOf m.most ((vals m wLength).headD []) = Y := ⟨_, rfl⟩
  obtain ⟨X, hX⟩ : ∃ X, ((vals m wCoding).headD []).map sm = X := ⟨_, rfl⟩
  obtain ⟨C0, hC0⟩ : ∃ C0, (vals m wCoding).headD [] = C0 := ⟨_, rfl⟩
  obtain ⟨L0, hL0⟩ : ∃ L0, (vals m wLength).headD [] = L0 := ⟨_, rfl⟩
  rw [hC0] at hX ks
  rw [hL0] at hY ki kn
  obtain ⟨nw, hnw⟩ : ∃ nw, m.newer = nw := ⟨_, rfl⟩
  obtain ⟨D, hD⟩ : ∃ D, isNumber L0 = D := ⟨_, rfl⟩
  have kn' : ∀ W, Below w.heap.size w W → D = true → Calls Tryz.prog 150 #[.pointer (some ⟨b, 0, none⟩), .string ⟨L0.toArray⟩] W fun e w' => e = .returned (.int .i64 Y) ∧ w' = W := fun W hb hd => hY ▸ kn W hb (hD.trans hd)
  clear kn
  unfold frN
  simp only [hH, hK, hN, hC0, hL0, hY, hX, hnw, hD]
  simp only [hX] at ks
  simp only [hD] at ki
  by_cases gS : m.status = 0
  · have ps : ((m.status : Int) == 0) = true := by rw [gS]; rfl
    by_cases gH : 1 < H
    · have p1 : (1 : Int) < (H : Int) := by omega
      simp only [gS, gH, true_or, if_true, ne_eq, and_self]
      go_enter Tryz.func143, Tryz.ntmps143
      go_wp2_with (first
        | (go_at_call 148; refine kv1.mono ?_; clear kv1; rintro e w1 ⟨ad1, cap1, rfl, hr1, hb1⟩; have kv2 := KV.out w1 wCoding hb1; simp only [hH])
        | (go_at_call 148; refine kv2.mono ?_; clear kv2; rintro e w2 ⟨ad2, cap2, rfl, hr2, hb2⟩; have hB2 := hb1.trans (hb2.mono hb1.size); have kv3 := KV.out w2 wLength hB2; simp only [hK])
        | (go_at_call 148; refine kv3.mono ?_; clear kv3; rintro e w3 ⟨ad3, cap3, rfl, hr3, hb3⟩; have hB3 := hB2.trans (hb3.mono hB2.size); obtain ⟨d9, d10, d16⟩ := KC.out w3 hB3; rw [hnw] at d10; simp only [hN])
        | fail)
      exact bodyPost_ret (Wb.results3 rfl _ _ _) rfl ⟨rfl, hB3⟩
    · have p1 : ¬ (1 : Int) < (H : Int) := by omega
      cases nw with
      | true =>
        by_cases gH0 : H = 0
        · have p0 : ((H : Int) == 0) = true := by rw [gH0]; rfl
          simp only [gS, gH0, or_true, or_false, if_true, ne_eq, and_self, Bool.true_eq_false, Nat.not_lt_zero]
          go_enter Tryz.func143, Tryz.ntmps143
          go_wp2_with (first
            | (go_at_call 148; refine kv1.mono ?_; clear kv1; rintro e w1 ⟨ad1, cap1, rfl, hr1, hb1⟩; have kv2 := KV.out w1 wCoding hb1; simp only [hH])
            | (go_at_call 148; refine kv2.mono ?_; clear kv2; rintro e w2 ⟨ad2, cap2, rfl, hr2, hb2⟩; have hB2 := hb1.trans (hb2.mono hb1.size); have kv3 := KV.out w2 wLength hB2; simp only [hK])
            | (go_at_call 148; refine kv3.mono ?_; clear kv3; rintro e w3 ⟨ad3, cap3, rfl, hr3, hb3⟩; have hB3 := hB2.trans (hb3.mono hB2.size); obtain ⟨d9, d10, d16⟩ := KC.out w3 hB3; rw [hnw] at d10; simp only [hN])
            | fail)
          exact bodyPost_ret (Wb.results3 rfl _ _ _) rfl ⟨rfl, hB3⟩
        · have p0 : ((H : Int) == 0) = false := by simp; omega
          by_cases gK : 0 < K
          · have r2 : (0 : Int) < (K : Int) := by omega
            by_cases gN : 0 < N
            · have r1 : (0 : Int) < (N : Int) := by omega
              simp only [gS, gH, gH0, gK, gN, true_and, and_false, or_false, if_true, if_false, ne_eq, and_self, or_self, Bool.true_eq_false, decide_true]
              go_enter Tryz.func143, Tryz.ntmps143
              go_wp2_with (first
                | (go_at_call 148; refine kv1.mono ?_; clear kv1; rintro e w1 ⟨ad1, cap1, rfl, hr1, hb1⟩; have kv2 := KV.out w1 wCoding hb1; simp only [hH])
                | (go_at_call 148; refine kv2.mono ?_; clear kv2; rintro e w2 ⟨ad2, cap2, rfl, hr2, hb2⟩; have hB2 := hb1.trans (hb2.mono hb1.size); have kv3 := KV.out w2 wLength hB2; simp only [hK])
                | (go_at_call 148; refine kv3.mono ?_; clear kv3; rintro e w3 ⟨ad3, cap3, rfl, hr3, hb3⟩; have hB3 := hB2.trans (hb3.mono hB2.size); obtain ⟨d9, d10, d16⟩ := KC.out w3 hB3; rw [hnw] at d10; simp only [hN])
                | fail)
              exact bodyPost_ret (Wb.results3 rfl _ _ _) rfl ⟨rfl, hB3⟩
            · have r1 : ¬ (0 : Int) < (N : Int) := by omega
              by_cases gK1 : 1 < K
              · have r3 : (1 : Int) < (K : Int) := by omega
                simp only [gS, gH, gH0, gK, gN, gK1, and_false, true_or, if_true, if_false, ne_eq, and_self, or_self, Bool.true_eq_false, decide_true]
                go_enter Tryz.func143, Tryz.ntmps143
                go_wp2_with (first
                  | (go_at_call 148; refine kv1.mono ?_; clear kv1; rintro e w1 ⟨ad1, cap1, rfl, hr1, hb1⟩; have kv2 := KV.out w1 wCoding hb1; simp only [hH])
                  | (go_at_call 148; refine kv2.mono ?_; clear kv2; rintro e w2 ⟨ad2, cap2, rfl, hr2, hb2⟩; have hB2 := hb1.trans (hb2.mono hb1.size); have kv3 := KV.out w2 wLength hB2; simp only [hK])
                  | (go_at_call 148; refine kv3.mono ?_; clear kv3; rintro e w3 ⟨ad3, cap3, rfl, hr3, hb3⟩; have hB3 := hB2.trans (hb3.mono hB2.size); obtain ⟨d9, d10, d16⟩ := KC.out w3 hB3; rw [hnw] at d10; simp only [hN])
                  | fail)
                exact bodyPost_ret (Wb.results3 rfl _ _ _) rfl ⟨rfl, hB3⟩
              · have r3 : ¬ (1 : Int) < (K : Int) := by omega
                by_cases gC : X = wChunked
                · have r4 : (X == [99, 104, 117, 110, 107, 101, 100]) = true := by rw [gC]; rfl
                  have gN0 : N = 0 := by omega
                  have r5 : ((N : Int) == 0) = true := by rw [gN0]; rfl
                  simp only [gS, gH, gH0, gK, gK1, gC, gN0, and_false, false_or, if_true, if_false, not_true_eq_false, ne_eq, or_self, Bool.true_eq_false, decide_true, Nat.lt_irrefl, Nat.not_lt_zero]
                  go_enter Tryz.func143, Tryz.ntmps143
                  go_wp2_with (first
                    | (go_at_call 148; refine kv1.mono ?_; clear kv1; rintro e w1 ⟨ad1, cap1, rfl, hr1, hb1⟩; have kv2 := KV.out w1 wCoding hb1; simp only [hH])
                    | (go_at_call 148; refine kv2.mono ?_; clear kv2; rintro e w2 ⟨ad2, cap2, rfl, hr2, hb2⟩; have hB2 := hb1.trans (hb2.mono hb1.size); have kv3 := KV.out w2 wLength hB2; simp only [hK])
                    | (go_at_call 148; refine kv3.mono ?_; clear kv3; rintro e w3 ⟨ad3, cap3, rfl, hr3, hb3⟩; have hB3 := hB2.trans (hb3.mono hB2.size); obtain ⟨d9, d10, d16⟩ := KC.out w3 hB3; rw [hnw] at d10; simp only [hN]; rw [hK] at hr2; obtain ⟨gk, rfl, ck⟩ := row_head hr2 (by omega); rw [hC0] at ck; have ck3 := (hb3.cell (p := ⟨gk, 0, none⟩) (World.block_lt_of_cell? _ _ ck)).trans ck; clear ck)
                    | (go_at_call 52; refine (ks _).mono ?_; clear ks; rintro e w4 ⟨rfl, hb4⟩; have hB4 := hB3.trans (hb4.mono hB3.size); obtain ⟨d9, d10, d16⟩ := KC.out w4 hB4)
                    | fail)
                  exact bodyPost_ret (Wb.results3 rfl _ _ _) rfl ⟨rfl, hB4⟩
                · have r4 : (X == [99, 104, 117, 110, 107, 101, 100]) = false := by have := gC; unfold wChunked at this; simpa using this
                  simp only [gS, gH, gH0, gK, gN, gK1, gC, and_false, or_true, if_true, if_false, not_false_eq_true, ne_eq, and_self, or_self, Bool.true_eq_false, decide_true]
                  go_enter Tryz.func143, Tryz.ntmps143
                  go_wp2_with (first
                    | (go_at_call 148; refine kv1.mono ?_; clear kv1; rintro e w1 ⟨ad1, cap1, rfl, hr1, hb1⟩; have kv2 := KV.out w1 wCoding hb1; simp only [hH])
                    | (go_at_call 148; refine kv2.mono ?_; clear kv2; rintro e w2 ⟨ad2, cap2, rfl, hr2, hb2⟩; have hB2 := hb1.trans (hb2.mono hb1.size); have kv3 := KV.out w2 wLength hB2; simp only [hK])
                    | (go_at_call 148; refine kv3.mono ?_; clear kv3; rintro e w3 ⟨ad3, cap3, rfl, hr3, hb3⟩; have hB3 := hB2.trans (hb3.mono hB2.size); obtain ⟨d9, d10, d16⟩ := KC.out w3 hB3; rw [hnw] at d10; simp only [hN]; rw [hK] at hr2; obtain ⟨gk, rfl, ck⟩ := row_head hr2 (by omega); rw [hC0] at ck; have ck3 := (hb3.cell (p := ⟨gk, 0, none⟩) (World.block_lt_of_cell? _ _ ck)).trans ck; clear ck)
                    | (go_at_call 52; refine (ks _).mono ?_; clear ks; rintro e w4 ⟨rfl, hb4⟩; have hB4 := hB3.trans (hb4.mono hB3.size); obtain ⟨d9, d10, d16⟩ := KC.out w4 hB4)
                    | fail)
                  exact bodyPost_ret (Wb.results3 rfl _ _ _) rfl ⟨rfl, hB4⟩
          · have r2 : ¬ (0 : Int) < (K : Int) := by omega
            by_cases gN0 : N = 0
            · have r5 : ((N : Int) == 0) = true := by rw [gN0]; rfl
              simp only [gS, gH, gH0, gK, gN0, false_and, and_false, false_or, if_true, if_false, ne_eq, and_self, or_self, Bool.true_eq_false, decide_false, Nat.lt_irrefl, Nat.not_lt_zero]
              go_enter Tryz.func143, Tryz.ntmps143
              go_wp2_with (first
                | (go_at_call 148; refine kv1.mono ?_; clear kv1; rintro e w1 ⟨ad1, cap1, rfl, hr1, hb1⟩; have kv2 := KV.out w1 wCoding hb1; simp only [hH])
                | (go_at_call 148; refine kv2.mono ?_; clear kv2; rintro e w2 ⟨ad2, cap2, rfl, hr2, hb2⟩; have hB2 := hb1.trans (hb2.mono hb1.size); have kv3 := KV.out w2 wLength hB2; simp only [hK])
                | (go_at_call 148; refine kv3.mono ?_; clear kv3; rintro e w3 ⟨ad3, cap3, rfl, hr3, hb3⟩; have hB3 := hB2.trans (hb3.mono hB2.size); obtain ⟨d9, d10, d16⟩ := KC.out w3 hB3; rw [hnw] at d10; simp only [hN])
                | fail)
              exact bodyPost_ret (Wb.results3 rfl _ _ _) rfl ⟨rfl, hB3⟩
            · have r5 : ((N : Int) == 0) = false := by simp; omega
              by_cases gN1 : 1 < N
              · have r6 : (1 : Int) < (N : Int) := by omega
                simp only [gS, gH, gH0, gK, gN0, gN1, false_and, and_false, true_or, or_false, if_true, if_false, ne_eq, or_self, Bool.true_eq_false, decide_false]
                go_enter Tryz.func143, Tryz.ntmps143
                go_wp2_with (first
                  | (go_at_call 148; refine kv1.mono ?_; clear kv1; rintro e w1 ⟨ad1, cap1, rfl, hr1, hb1⟩; have kv2 := KV.out w1 wCoding hb1; simp only [hH])
                  | (go_at_call 148; refine kv2.mono ?_; clear kv2; rintro e w2 ⟨ad2, cap2, rfl, hr2, hb2⟩; have hB2 := hb1.trans (hb2.mono hb1.size); have kv3 := KV.out w2 wLength hB2; simp only [hK])
                  | (go_at_call 148; refine kv3.mono ?_; clear kv3; rintro e w3 ⟨ad3, cap3, rfl, hr3, hb3⟩; have hB3 := hB2.trans (hb3.mono hB2.size); obtain ⟨d9, d10, d16⟩ := KC.out w3 hB3; rw [hnw] at d10; simp only [hN])
                  | fail)
                exact bodyPost_ret (Wb.results3 rfl _ _ _) rfl ⟨rfl, hB3⟩
              · have r6 : ¬ (1 : Int) < (N : Int) := by omega
                cases D with
                | true =>
                  by_cases gM : m.most < Y
                  · have r7 : (m.most : Int) < (Y : Int) := by omega
                    simp only [gS, gH, gH0, gK, gN0, gN1, gM, false_and, and_false, or_false, if_true, if_false, ne_eq, or_self, Bool.true_eq_false, decide_false]
                    go_enter Tryz.func143, Tryz.ntmps143
                    go_wp2_with (first
                      | (go_at_call 148; refine kv1.mono ?_; clear kv1; rintro e w1 ⟨ad1, cap1, rfl, hr1, hb1⟩; have kv2 := KV.out w1 wCoding hb1; simp only [hH])
                      | (go_at_call 148; refine kv2.mono ?_; clear kv2; rintro e w2 ⟨ad2, cap2, rfl, hr2, hb2⟩; have hB2 := hb1.trans (hb2.mono hb1.size); have kv3 := KV.out w2 wLength hB2; simp only [hK])
                      | (go_at_call 148; refine kv3.mono ?_; clear kv3; rintro e w3 ⟨ad3, cap3, rfl, hr3, hb3⟩; have hB3 := hB2.trans (hb3.mono hB2.size); obtain ⟨d9, d10, d16⟩ := KC.out w3 hB3; rw [hnw] at d10; simp only [hN]; rw [hN] at hr3; obtain ⟨gn, rfl, cn⟩ := row_head hr3 (by omega); rw [hL0] at cn)
                      | (go_at_call 149; refine (ki _).mono ?_; clear ki; rintro e w4 ⟨rfl, rfl⟩; have kn2 := kn' _ hB3 rfl)
                      | (go_at_call 150; refine kn2.mono ?_; clear kn2; rintro e w4 ⟨rfl, rfl⟩)
                      | fail)
                    exact bodyPost_ret (Wb.results3 rfl _ _ _) rfl ⟨rfl, hB3⟩
                  · have r7 : ¬ (m.most : Int) < (Y : Int) := by omega
                    simp only [gS, gH, gH0, gK, gN0, gN1, gM, false_and, and_false, or_false, if_false, ne_eq, or_self, Bool.true_eq_false, decide_false]
                    go_enter Tryz.func143, Tryz.ntmps143
                    go_wp2_with (first
                      | (go_at_call 148; refine kv1.mono ?_; clear kv1; rintro e w1 ⟨ad1, cap1, rfl, hr1, hb1⟩; have kv2 := KV.out w1 wCoding hb1; simp only [hH])
                      | (go_at_call 148; refine kv2.mono ?_; clear kv2; rintro e w2 ⟨ad2, cap2, rfl, hr2, hb2⟩; have hB2 := hb1.trans (hb2.mono hb1.size); have kv3 := KV.out w2 wLength hB2; simp only [hK])
                      | (go_at_call 148; refine kv3.mono ?_; clear kv3; rintro e w3 ⟨ad3, cap3, rfl, hr3, hb3⟩; have hB3 := hB2.trans (hb3.mono hB2.size); obtain ⟨d9, d10, d16⟩ := KC.out w3 hB3; rw [hnw] at d10; simp only [hN]; rw [hN] at hr3; obtain ⟨gn, rfl, cn⟩ := row_head hr3 (by omega); rw [hL0] at cn)
                      | (go_at_call 149; refine (ki _).mono ?_; clear ki; rintro e w4 ⟨rfl, rfl⟩; have kn2 := kn' _ hB3 rfl)
                      | (go_at_call 150; refine kn2.mono ?_; clear kn2; rintro e w4 ⟨rfl, rfl⟩)
                      | fail)
                    exact bodyPost_ret (Wb.results3 rfl _ _ _) rfl ⟨rfl, hB3⟩
                | false =>
                  simp only [gS, gH, gH0, gK, gN0, gN1, false_and, and_false, or_true, or_false, if_true, if_false, ne_eq, or_self, Bool.true_eq_false, decide_false]
                  go_enter Tryz.func143, Tryz.ntmps143
                  go_wp2_with (first
                    | (go_at_call 148; refine kv1.mono ?_; clear kv1; rintro e w1 ⟨ad1, cap1, rfl, hr1, hb1⟩; have kv2 := KV.out w1 wCoding hb1; simp only [hH])
                    | (go_at_call 148; refine kv2.mono ?_; clear kv2; rintro e w2 ⟨ad2, cap2, rfl, hr2, hb2⟩; have hB2 := hb1.trans (hb2.mono hb1.size); have kv3 := KV.out w2 wLength hB2; simp only [hK])
                    | (go_at_call 148; refine kv3.mono ?_; clear kv3; rintro e w3 ⟨ad3, cap3, rfl, hr3, hb3⟩; have hB3 := hB2.trans (hb3.mono hB2.size); obtain ⟨d9, d10, d16⟩ := KC.out w3 hB3; rw [hnw] at d10; simp only [hN]; rw [hN] at hr3; obtain ⟨gn, rfl, cn⟩ := row_head hr3 (by omega); rw [hL0] at cn)
                    | (go_at_call 149; refine (ki _).mono ?_; clear ki; rintro e w4 ⟨rfl, rfl⟩)
                    | fail)
                  exact bodyPost_ret (Wb.results3 rfl _ _ _) rfl ⟨rfl, hB3⟩
      | false =>
        by_cases gK : 0 < K
        · have r2 : (0 : Int) < (K : Int) := by omega
          by_cases gN : 0 < N
          · have r1 : (0 : Int) < (N : Int) := by omega
            simp only [gS, gH, gK, gN, true_and, false_and, and_false, if_true, if_false, ne_eq, and_self, or_self, Bool.false_eq_true, decide_true]
            go_enter Tryz.func143, Tryz.ntmps143
            go_wp2_with (first
              | (go_at_call 148; refine kv1.mono ?_; clear kv1; rintro e w1 ⟨ad1, cap1, rfl, hr1, hb1⟩; have kv2 := KV.out w1 wCoding hb1; simp only [hH])
              | (go_at_call 148; refine kv2.mono ?_; clear kv2; rintro e w2 ⟨ad2, cap2, rfl, hr2, hb2⟩; have hB2 := hb1.trans (hb2.mono hb1.size); have kv3 := KV.out w2 wLength hB2; simp only [hK])
              | (go_at_call 148; refine kv3.mono ?_; clear kv3; rintro e w3 ⟨ad3, cap3, rfl, hr3, hb3⟩; have hB3 := hB2.trans (hb3.mono hB2.size); obtain ⟨d9, d10, d16⟩ := KC.out w3 hB3; rw [hnw] at d10; simp only [hN])
              | fail)
            exact bodyPost_ret (Wb.results3 rfl _ _ _) rfl ⟨rfl, hB3⟩
          · have r1 : ¬ (0 : Int) < (N : Int) := by omega
            simp only [gS, gH, gK, gN, true_and, false_and, and_false, or_true, if_true, if_false, ne_eq, and_self, or_self, Bool.false_eq_true, decide_true]
            go_enter Tryz.func143, Tryz.ntmps143
            go_wp2_with (first
              | (go_at_call 148; refine kv1.mono ?_; clear kv1; rintro e w1 ⟨ad1, cap1, rfl, hr1, hb1⟩; have kv2 := KV.out w1 wCoding hb1; simp only [hH])
              | (go_at_call 148; refine kv2.mono ?_; clear kv2; rintro e w2 ⟨ad2, cap2, rfl, hr2, hb2⟩; have hB2 := hb1.trans (hb2.mono hb1.size); have kv3 := KV.out w2 wLength hB2; simp only [hK])
              | (go_at_call 148; refine kv3.mono ?_; clear kv3; rintro e w3 ⟨ad3, cap3, rfl, hr3, hb3⟩; have hB3 := hB2.trans (hb3.mono hB2.size); obtain ⟨d9, d10, d16⟩ := KC.out w3 hB3; rw [hnw] at d10; simp only [hN])
              | fail)
            exact bodyPost_ret (Wb.results3 rfl _ _ _) rfl ⟨rfl, hB3⟩
        · have r2 : ¬ (0 : Int) < (K : Int) := by omega
          by_cases gN0 : N = 0
          · have r5 : ((N : Int) == 0) = true := by rw [gN0]; rfl
            simp only [gS, gH, gK, gN0, and_true, false_and, and_false, or_true, false_or, if_true, if_false, ne_eq, or_self, Bool.false_eq_true, decide_false, Nat.lt_irrefl, Nat.not_lt_zero]
            go_enter Tryz.func143, Tryz.ntmps143
            go_wp2_with (first
              | (go_at_call 148; refine kv1.mono ?_; clear kv1; rintro e w1 ⟨ad1, cap1, rfl, hr1, hb1⟩; have kv2 := KV.out w1 wCoding hb1; simp only [hH])
              | (go_at_call 148; refine kv2.mono ?_; clear kv2; rintro e w2 ⟨ad2, cap2, rfl, hr2, hb2⟩; have hB2 := hb1.trans (hb2.mono hb1.size); have kv3 := KV.out w2 wLength hB2; simp only [hK])
              | (go_at_call 148; refine kv3.mono ?_; clear kv3; rintro e w3 ⟨ad3, cap3, rfl, hr3, hb3⟩; have hB3 := hB2.trans (hb3.mono hB2.size); obtain ⟨d9, d10, d16⟩ := KC.out w3 hB3; rw [hnw] at d10; simp only [hN])
              | fail)
            exact bodyPost_ret (Wb.results3 rfl _ _ _) rfl ⟨rfl, hB3⟩
          · have r5 : ((N : Int) == 0) = false := by simp; omega
            by_cases gN1 : 1 < N
            · have r6 : (1 : Int) < (N : Int) := by omega
              simp only [gS, gH, gK, gN0, gN1, and_true, false_and, and_false, true_or, or_true, if_true, if_false, ne_eq, or_self, Bool.false_eq_true, decide_false]
              go_enter Tryz.func143, Tryz.ntmps143
              go_wp2_with (first
                | (go_at_call 148; refine kv1.mono ?_; clear kv1; rintro e w1 ⟨ad1, cap1, rfl, hr1, hb1⟩; have kv2 := KV.out w1 wCoding hb1; simp only [hH])
                | (go_at_call 148; refine kv2.mono ?_; clear kv2; rintro e w2 ⟨ad2, cap2, rfl, hr2, hb2⟩; have hB2 := hb1.trans (hb2.mono hb1.size); have kv3 := KV.out w2 wLength hB2; simp only [hK])
                | (go_at_call 148; refine kv3.mono ?_; clear kv3; rintro e w3 ⟨ad3, cap3, rfl, hr3, hb3⟩; have hB3 := hB2.trans (hb3.mono hB2.size); obtain ⟨d9, d10, d16⟩ := KC.out w3 hB3; rw [hnw] at d10; simp only [hN])
                | fail)
              exact bodyPost_ret (Wb.results3 rfl _ _ _) rfl ⟨rfl, hB3⟩
            · have r6 : ¬ (1 : Int) < (N : Int) := by omega
              cases D with
              | true =>
                by_cases gM : m.most < Y
                · have r7 : (m.most : Int) < (Y : Int) := by omega
                  simp only [gS, gH, gK, gN0, gN1, gM, and_true, false_and, and_false, or_true, if_true, if_false, ne_eq, or_self, Bool.false_eq_true, Bool.true_eq_false, decide_false]
                  go_enter Tryz.func143, Tryz.ntmps143
                  go_wp2_with (first
                    | (go_at_call 148; refine kv1.mono ?_; clear kv1; rintro e w1 ⟨ad1, cap1, rfl, hr1, hb1⟩; have kv2 := KV.out w1 wCoding hb1; simp only [hH])
                    | (go_at_call 148; refine kv2.mono ?_; clear kv2; rintro e w2 ⟨ad2, cap2, rfl, hr2, hb2⟩; have hB2 := hb1.trans (hb2.mono hb1.size); have kv3 := KV.out w2 wLength hB2; simp only [hK])
                    | (go_at_call 148; refine kv3.mono ?_; clear kv3; rintro e w3 ⟨ad3, cap3, rfl, hr3, hb3⟩; have hB3 := hB2.trans (hb3.mono hB2.size); obtain ⟨d9, d10, d16⟩ := KC.out w3 hB3; rw [hnw] at d10; simp only [hN]; rw [hN] at hr3; obtain ⟨gn, rfl, cn⟩ := row_head hr3 (by omega); rw [hL0] at cn)
                    | (go_at_call 149; refine (ki _).mono ?_; clear ki; rintro e w4 ⟨rfl, rfl⟩; have kn2 := kn' _ hB3 rfl)
                    | (go_at_call 150; refine kn2.mono ?_; clear kn2; rintro e w4 ⟨rfl, rfl⟩)
                    | fail)
                  exact bodyPost_ret (Wb.results3 rfl _ _ _) rfl ⟨rfl, hB3⟩
                · have r7 : ¬ (m.most : Int) < (Y : Int) := by omega
                  simp only [gS, gH, gK, gN0, gN1, gM, and_true, false_and, and_false, or_true, if_false, ne_eq, or_self, Bool.false_eq_true, Bool.true_eq_false, decide_false]
                  go_enter Tryz.func143, Tryz.ntmps143
                  go_wp2_with (first
                    | (go_at_call 148; refine kv1.mono ?_; clear kv1; rintro e w1 ⟨ad1, cap1, rfl, hr1, hb1⟩; have kv2 := KV.out w1 wCoding hb1; simp only [hH])
                    | (go_at_call 148; refine kv2.mono ?_; clear kv2; rintro e w2 ⟨ad2, cap2, rfl, hr2, hb2⟩; have hB2 := hb1.trans (hb2.mono hb1.size); have kv3 := KV.out w2 wLength hB2; simp only [hK])
                    | (go_at_call 148; refine kv3.mono ?_; clear kv3; rintro e w3 ⟨ad3, cap3, rfl, hr3, hb3⟩; have hB3 := hB2.trans (hb3.mono hB2.size); obtain ⟨d9, d10, d16⟩ := KC.out w3 hB3; rw [hnw] at d10; simp only [hN]; rw [hN] at hr3; obtain ⟨gn, rfl, cn⟩ := row_head hr3 (by omega); rw [hL0] at cn)
                    | (go_at_call 149; refine (ki _).mono ?_; clear ki; rintro e w4 ⟨rfl, rfl⟩; have kn2 := kn' _ hB3 rfl)
                    | (go_at_call 150; refine kn2.mono ?_; clear kn2; rintro e w4 ⟨rfl, rfl⟩)
                    | fail)
                  exact bodyPost_ret (Wb.results3 rfl _ _ _) rfl ⟨rfl, hB3⟩
              | false =>
                simp only [gS, gH, gK, gN0, gN1, and_true, false_and, and_false, or_true, if_true, if_false, ne_eq, or_self, Bool.false_eq_true, decide_false]
                go_enter Tryz.func143, Tryz.ntmps143
                go_wp2_with (first
                  | (go_at_call 148; refine kv1.mono ?_; clear kv1; rintro e w1 ⟨ad1, cap1, rfl, hr1, hb1⟩; have kv2 := KV.out w1 wCoding hb1; simp only [hH])
                  | (go_at_call 148; refine kv2.mono ?_; clear kv2; rintro e w2 ⟨ad2, cap2, rfl, hr2, hb2⟩; have hB2 := hb1.trans (hb2.mono hb1.size); have kv3 := KV.out w2 wLength hB2; simp only [hK])
                  | (go_at_call 148; refine kv3.mono ?_; clear kv3; rintro e w3 ⟨ad3, cap3, rfl, hr3, hb3⟩; have hB3 := hB2.trans (hb3.mono hB2.size); obtain ⟨d9, d10, d16⟩ := KC.out w3 hB3; rw [hnw] at d10; simp only [hN]; rw [hN] at hr3; obtain ⟨gn, rfl, cn⟩ := row_head hr3 (by omega); rw [hL0] at cn)
                  | (go_at_call 149; refine (ki _).mono ?_; clear ki; rintro e w4 ⟨rfl, rfl⟩)
                  | fail)
                exact bodyPost_ret (Wb.results3 rfl _ _ _) rfl ⟨rfl, hB3⟩
  · have ps : ((m.status : Int) == 0) = false := by simp; omega
    cases nw with
    | true =>
      by_cases gK : 0 < K
      · have r2 : (0 : Int) < (K : Int) := by omega
        by_cases gN : 0 < N
        · have r1 : (0 : Int) < (N : Int) := by omega
          simp only [gS, gK, gN, true_and, false_and, or_false, if_true, if_false, ne_eq, and_self, Bool.true_eq_false, decide_true]
          go_enter Tryz.func143, Tryz.ntmps143
          go_wp2_with (first
            | (go_at_call 148; refine kv1.mono ?_; clear kv1; rintro e w1 ⟨ad1, cap1, rfl, hr1, hb1⟩; have kv2 := KV.out w1 wCoding hb1; simp only [hH])
            | (go_at_call 148; refine kv2.mono ?_; clear kv2; rintro e w2 ⟨ad2, cap2, rfl, hr2, hb2⟩; have hB2 := hb1.trans (hb2.mono hb1.size); have kv3 := KV.out w2 wLength hB2; simp only [hK])
            | (go_at_call 148; refine kv3.mono ?_; clear kv3; rintro e w3 ⟨ad3, cap3, rfl, hr3, hb3⟩; have hB3 := hB2.trans (hb3.mono hB2.size); obtain ⟨d9, d10, d16⟩ := KC.out w3 hB3; rw [hnw] at d10; simp only [hN])
            | fail)
          exact bodyPost_ret (Wb.results3 rfl _ _ _) rfl ⟨rfl, hB3⟩
        · have r1 : ¬ (0 : Int) < (N : Int) := by omega
          by_cases gK1 : 1 < K
          · have r3 : (1 : Int) < (K : Int) := by omega
            simp only [gS, gK, gN, gK1, true_and, false_and, and_false, true_or, if_true, if_false, ne_eq, and_self, or_self, Bool.true_eq_false, decide_true]
            go_enter Tryz.func143, Tryz.ntmps143
            go_wp2_with (first
              | (go_at_call 148; refine kv1.mono ?_; clear kv1; rintro e w1 ⟨ad1, cap1, rfl, hr1, hb1⟩; have kv2 := KV.out w1 wCoding hb1; simp only [hH])
              | (go_at_call 148; refine kv2.mono ?_; clear kv2; rintro e w2 ⟨ad2, cap2, rfl, hr2, hb2⟩; have hB2 := hb1.trans (hb2.mono hb1.size); have kv3 := KV.out w2 wLength hB2; simp only [hK])
              | (go_at_call 148; refine kv3.mono ?_; clear kv3; rintro e w3 ⟨ad3, cap3, rfl, hr3, hb3⟩; have hB3 := hB2.trans (hb3.mono hB2.size); obtain ⟨d9, d10, d16⟩ := KC.out w3 hB3; rw [hnw] at d10; simp only [hN])
              | fail)
            exact bodyPost_ret (Wb.results3 rfl _ _ _) rfl ⟨rfl, hB3⟩
          · have r3 : ¬ (1 : Int) < (K : Int) := by omega
            by_cases gC : X = wChunked
            · have r4 : (X == [99, 104, 117, 110, 107, 101, 100]) = true := by rw [gC]; rfl
              have gN0 : N = 0 := by omega
              have r5 : ((N : Int) == 0) = true := by rw [gN0]; rfl
              simp only [gS, gK, gK1, gC, gN0, true_and, false_and, and_false, false_or, if_true, if_false, not_true_eq_false, ne_eq, or_self, Bool.true_eq_false, decide_true, Nat.lt_irrefl, Nat.not_lt_zero]
              go_enter Tryz.func143, Tryz.ntmps143
              go_wp2_with (first
                | (go_at_call 148; refine kv1.mono ?_; clear kv1; rintro e w1 ⟨ad1, cap1, rfl, hr1, hb1⟩; have kv2 := KV.out w1 wCoding hb1; simp only [hH])
                | (go_at_call 148; refine kv2.mono ?_; clear kv2; rintro e w2 ⟨ad2, cap2, rfl, hr2, hb2⟩; have hB2 := hb1.trans (hb2.mono hb1.size); have kv3 := KV.out w2 wLength hB2; simp only [hK])
                | (go_at_call 148; refine kv3.mono ?_; clear kv3; rintro e w3 ⟨ad3, cap3, rfl, hr3, hb3⟩; have hB3 := hB2.trans (hb3.mono hB2.size); obtain ⟨d9, d10, d16⟩ := KC.out w3 hB3; rw [hnw] at d10; simp only [hN]; rw [hK] at hr2; obtain ⟨gk, rfl, ck⟩ := row_head hr2 (by omega); rw [hC0] at ck; have ck3 := (hb3.cell (p := ⟨gk, 0, none⟩) (World.block_lt_of_cell? _ _ ck)).trans ck; clear ck)
                | (go_at_call 52; refine (ks _).mono ?_; clear ks; rintro e w4 ⟨rfl, hb4⟩; have hB4 := hB3.trans (hb4.mono hB3.size); obtain ⟨d9, d10, d16⟩ := KC.out w4 hB4)
                | fail)
              exact bodyPost_ret (Wb.results3 rfl _ _ _) rfl ⟨rfl, hB4⟩
            · have r4 : (X == [99, 104, 117, 110, 107, 101, 100]) = false := by have := gC; unfold wChunked at this; simpa using this
              simp only [gS, gK, gN, gK1, gC, true_and, false_and, and_false, or_true, if_true, if_false, not_false_eq_true, ne_eq, and_self, or_self, Bool.true_eq_false, decide_true]
              go_enter Tryz.func143, Tryz.ntmps143
              go_wp2_with (first
                | (go_at_call 148; refine kv1.mono ?_; clear kv1; rintro e w1 ⟨ad1, cap1, rfl, hr1, hb1⟩; have kv2 := KV.out w1 wCoding hb1; simp only [hH])
                | (go_at_call 148; refine kv2.mono ?_; clear kv2; rintro e w2 ⟨ad2, cap2, rfl, hr2, hb2⟩; have hB2 := hb1.trans (hb2.mono hb1.size); have kv3 := KV.out w2 wLength hB2; simp only [hK])
                | (go_at_call 148; refine kv3.mono ?_; clear kv3; rintro e w3 ⟨ad3, cap3, rfl, hr3, hb3⟩; have hB3 := hB2.trans (hb3.mono hB2.size); obtain ⟨d9, d10, d16⟩ := KC.out w3 hB3; rw [hnw] at d10; simp only [hN]; rw [hK] at hr2; obtain ⟨gk, rfl, ck⟩ := row_head hr2 (by omega); rw [hC0] at ck; have ck3 := (hb3.cell (p := ⟨gk, 0, none⟩) (World.block_lt_of_cell? _ _ ck)).trans ck; clear ck)
                | (go_at_call 52; refine (ks _).mono ?_; clear ks; rintro e w4 ⟨rfl, hb4⟩; have hB4 := hB3.trans (hb4.mono hB3.size); obtain ⟨d9, d10, d16⟩ := KC.out w4 hB4)
                | fail)
              exact bodyPost_ret (Wb.results3 rfl _ _ _) rfl ⟨rfl, hB4⟩
      · have r2 : ¬ (0 : Int) < (K : Int) := by omega
        by_cases gN0 : N = 0
        · have r5 : ((N : Int) == 0) = true := by rw [gN0]; rfl
          simp only [gS, gK, gN0, true_and, false_and, false_or, if_true, if_false, ne_eq, and_self, or_self, Bool.true_eq_false, decide_false, Nat.lt_irrefl, Nat.not_lt_zero]
          go_enter Tryz.func143, Tryz.ntmps143
          go_wp2_with (first
            | (go_at_call 148; refine kv1.mono ?_; clear kv1; rintro e w1 ⟨ad1, cap1, rfl, hr1, hb1⟩; have kv2 := KV.out w1 wCoding hb1; simp only [hH])
            | (go_at_call 148; refine kv2.mono ?_; clear kv2; rintro e w2 ⟨ad2, cap2, rfl, hr2, hb2⟩; have hB2 := hb1.trans (hb2.mono hb1.size); have kv3 := KV.out w2 wLength hB2; simp only [hK])
            | (go_at_call 148; refine kv3.mono ?_; clear kv3; rintro e w3 ⟨ad3, cap3, rfl, hr3, hb3⟩; have hB3 := hB2.trans (hb3.mono hB2.size); obtain ⟨d9, d10, d16⟩ := KC.out w3 hB3; rw [hnw] at d10; simp only [hN])
            | fail)
          exact bodyPost_ret (Wb.results3 rfl _ _ _) rfl ⟨rfl, hB3⟩
        · have r5 : ((N : Int) == 0) = false := by simp; omega
          by_cases gN1 : 1 < N
          · have r6 : (1 : Int) < (N : Int) := by omega
            simp only [gS, gK, gN0, gN1, true_and, false_and, true_or, or_false, if_true, if_false, ne_eq, Bool.true_eq_false, decide_false]
            go_enter Tryz.func143, Tryz.ntmps143
            go_wp2_with (first
              | (go_at_call 148; refine kv1.mono ?_; clear kv1; rintro e w1 ⟨ad1, cap1, rfl, hr1, hb1⟩; have kv2 := KV.out w1 wCoding hb1; simp only [hH])
              | (go_at_call 148; refine kv2.mono ?_; clear kv2; rintro e w2 ⟨ad2, cap2, rfl, hr2, hb2⟩; have hB2 := hb1.trans (hb2.mono hb1.size); have kv3 := KV.out w2 wLength hB2; simp only [hK])
              | (go_at_call 148; refine kv3.mono ?_; clear kv3; rintro e w3 ⟨ad3, cap3, rfl, hr3, hb3⟩; have hB3 := hB2.trans (hb3.mono hB2.size); obtain ⟨d9, d10, d16⟩ := KC.out w3 hB3; rw [hnw] at d10; simp only [hN])
              | fail)
            exact bodyPost_ret (Wb.results3 rfl _ _ _) rfl ⟨rfl, hB3⟩
          · have r6 : ¬ (1 : Int) < (N : Int) := by omega
            cases D with
            | true =>
              by_cases gM : m.most < Y
              · have r7 : (m.most : Int) < (Y : Int) := by omega
                simp only [gS, gK, gN0, gN1, gM, true_and, false_and, or_false, if_true, if_false, ne_eq, or_self, Bool.true_eq_false, decide_false]
                go_enter Tryz.func143, Tryz.ntmps143
                go_wp2_with (first
                  | (go_at_call 148; refine kv1.mono ?_; clear kv1; rintro e w1 ⟨ad1, cap1, rfl, hr1, hb1⟩; have kv2 := KV.out w1 wCoding hb1; simp only [hH])
                  | (go_at_call 148; refine kv2.mono ?_; clear kv2; rintro e w2 ⟨ad2, cap2, rfl, hr2, hb2⟩; have hB2 := hb1.trans (hb2.mono hb1.size); have kv3 := KV.out w2 wLength hB2; simp only [hK])
                  | (go_at_call 148; refine kv3.mono ?_; clear kv3; rintro e w3 ⟨ad3, cap3, rfl, hr3, hb3⟩; have hB3 := hB2.trans (hb3.mono hB2.size); obtain ⟨d9, d10, d16⟩ := KC.out w3 hB3; rw [hnw] at d10; simp only [hN]; rw [hN] at hr3; obtain ⟨gn, rfl, cn⟩ := row_head hr3 (by omega); rw [hL0] at cn)
                  | (go_at_call 149; refine (ki _).mono ?_; clear ki; rintro e w4 ⟨rfl, rfl⟩; have kn2 := kn' _ hB3 rfl)
                  | (go_at_call 150; refine kn2.mono ?_; clear kn2; rintro e w4 ⟨rfl, rfl⟩)
                  | fail)
                exact bodyPost_ret (Wb.results3 rfl _ _ _) rfl ⟨rfl, hB3⟩
              · have r7 : ¬ (m.most : Int) < (Y : Int) := by omega
                simp only [gS, gK, gN0, gN1, gM, true_and, false_and, or_false, if_false, ne_eq, or_self, Bool.true_eq_false, decide_false]
                go_enter Tryz.func143, Tryz.ntmps143
                go_wp2_with (first
                  | (go_at_call 148; refine kv1.mono ?_; clear kv1; rintro e w1 ⟨ad1, cap1, rfl, hr1, hb1⟩; have kv2 := KV.out w1 wCoding hb1; simp only [hH])
                  | (go_at_call 148; refine kv2.mono ?_; clear kv2; rintro e w2 ⟨ad2, cap2, rfl, hr2, hb2⟩; have hB2 := hb1.trans (hb2.mono hb1.size); have kv3 := KV.out w2 wLength hB2; simp only [hK])
                  | (go_at_call 148; refine kv3.mono ?_; clear kv3; rintro e w3 ⟨ad3, cap3, rfl, hr3, hb3⟩; have hB3 := hB2.trans (hb3.mono hB2.size); obtain ⟨d9, d10, d16⟩ := KC.out w3 hB3; rw [hnw] at d10; simp only [hN]; rw [hN] at hr3; obtain ⟨gn, rfl, cn⟩ := row_head hr3 (by omega); rw [hL0] at cn)
                  | (go_at_call 149; refine (ki _).mono ?_; clear ki; rintro e w4 ⟨rfl, rfl⟩; have kn2 := kn' _ hB3 rfl)
                  | (go_at_call 150; refine kn2.mono ?_; clear kn2; rintro e w4 ⟨rfl, rfl⟩)
                  | fail)
                exact bodyPost_ret (Wb.results3 rfl _ _ _) rfl ⟨rfl, hB3⟩
            | false =>
              simp only [gS, gK, gN0, gN1, true_and, false_and, or_true, or_false, if_true, if_false, ne_eq, Bool.true_eq_false, decide_false]
              go_enter Tryz.func143, Tryz.ntmps143
              go_wp2_with (first
                | (go_at_call 148; refine kv1.mono ?_; clear kv1; rintro e w1 ⟨ad1, cap1, rfl, hr1, hb1⟩; have kv2 := KV.out w1 wCoding hb1; simp only [hH])
                | (go_at_call 148; refine kv2.mono ?_; clear kv2; rintro e w2 ⟨ad2, cap2, rfl, hr2, hb2⟩; have hB2 := hb1.trans (hb2.mono hb1.size); have kv3 := KV.out w2 wLength hB2; simp only [hK])
                | (go_at_call 148; refine kv3.mono ?_; clear kv3; rintro e w3 ⟨ad3, cap3, rfl, hr3, hb3⟩; have hB3 := hB2.trans (hb3.mono hB2.size); obtain ⟨d9, d10, d16⟩ := KC.out w3 hB3; rw [hnw] at d10; simp only [hN]; rw [hN] at hr3; obtain ⟨gn, rfl, cn⟩ := row_head hr3 (by omega); rw [hL0] at cn)
                | (go_at_call 149; refine (ki _).mono ?_; clear ki; rintro e w4 ⟨rfl, rfl⟩)
                | fail)
              exact bodyPost_ret (Wb.results3 rfl _ _ _) rfl ⟨rfl, hB3⟩
    | false =>
      by_cases gK : 0 < K
      · have r2 : (0 : Int) < (K : Int) := by omega
        by_cases gN : 0 < N
        · have r1 : (0 : Int) < (N : Int) := by omega
          simp only [gS, gK, gN, true_and, false_and, or_false, if_true, if_false, ne_eq, and_self, or_self, Bool.false_eq_true, decide_true]
          go_enter Tryz.func143, Tryz.ntmps143
          go_wp2_with (first
            | (go_at_call 148; refine kv1.mono ?_; clear kv1; rintro e w1 ⟨ad1, cap1, rfl, hr1, hb1⟩; have kv2 := KV.out w1 wCoding hb1; simp only [hH])
            | (go_at_call 148; refine kv2.mono ?_; clear kv2; rintro e w2 ⟨ad2, cap2, rfl, hr2, hb2⟩; have hB2 := hb1.trans (hb2.mono hb1.size); have kv3 := KV.out w2 wLength hB2; simp only [hK])
            | (go_at_call 148; refine kv3.mono ?_; clear kv3; rintro e w3 ⟨ad3, cap3, rfl, hr3, hb3⟩; have hB3 := hB2.trans (hb3.mono hB2.size); obtain ⟨d9, d10, d16⟩ := KC.out w3 hB3; rw [hnw] at d10; simp only [hN])
            | fail)
          exact bodyPost_ret (Wb.results3 rfl _ _ _) rfl ⟨rfl, hB3⟩
        · have r1 : ¬ (0 : Int) < (N : Int) := by omega
          simp only [gS, gK, gN, true_and, false_and, or_true, or_false, if_true, if_false, ne_eq, and_self, Bool.false_eq_true, decide_true]
          go_enter Tryz.func143, Tryz.ntmps143
          go_wp2_with (first
            | (go_at_call 148; refine kv1.mono ?_; clear kv1; rintro e w1 ⟨ad1, cap1, rfl, hr1, hb1⟩; have kv2 := KV.out w1 wCoding hb1; simp only [hH])
            | (go_at_call 148; refine kv2.mono ?_; clear kv2; rintro e w2 ⟨ad2, cap2, rfl, hr2, hb2⟩; have hB2 := hb1.trans (hb2.mono hb1.size); have kv3 := KV.out w2 wLength hB2; simp only [hK])
            | (go_at_call 148; refine kv3.mono ?_; clear kv3; rintro e w3 ⟨ad3, cap3, rfl, hr3, hb3⟩; have hB3 := hB2.trans (hb3.mono hB2.size); obtain ⟨d9, d10, d16⟩ := KC.out w3 hB3; rw [hnw] at d10; simp only [hN])
            | fail)
          exact bodyPost_ret (Wb.results3 rfl _ _ _) rfl ⟨rfl, hB3⟩
      · have r2 : ¬ (0 : Int) < (K : Int) := by omega
        by_cases gN0 : N = 0
        · have r5 : ((N : Int) == 0) = true := by rw [gN0]; rfl
          simp only [gS, gK, gN0, and_true, false_and, or_true, false_or, or_false, if_true, if_false, ne_eq, Bool.false_eq_true, decide_false, Nat.lt_irrefl, Nat.not_lt_zero]
          go_enter Tryz.func143, Tryz.ntmps143
          go_wp2_with (first
            | (go_at_call 148; refine kv1.mono ?_; clear kv1; rintro e w1 ⟨ad1, cap1, rfl, hr1, hb1⟩; have kv2 := KV.out w1 wCoding hb1; simp only [hH])
            | (go_at_call 148; refine kv2.mono ?_; clear kv2; rintro e w2 ⟨ad2, cap2, rfl, hr2, hb2⟩; have hB2 := hb1.trans (hb2.mono hb1.size); have kv3 := KV.out w2 wLength hB2; simp only [hK])
            | (go_at_call 148; refine kv3.mono ?_; clear kv3; rintro e w3 ⟨ad3, cap3, rfl, hr3, hb3⟩; have hB3 := hB2.trans (hb3.mono hB2.size); obtain ⟨d9, d10, d16⟩ := KC.out w3 hB3; rw [hnw] at d10; simp only [hN])
            | fail)
          exact bodyPost_ret (Wb.results3 rfl _ _ _) rfl ⟨rfl, hB3⟩
        · have r5 : ((N : Int) == 0) = false := by simp; omega
          by_cases gN1 : 1 < N
          · have r6 : (1 : Int) < (N : Int) := by omega
            simp only [gS, gK, gN0, gN1, and_true, false_and, true_or, or_true, or_false, if_true, if_false, ne_eq, Bool.false_eq_true, decide_false]
            go_enter Tryz.func143, Tryz.ntmps143
            go_wp2_with (first
              | (go_at_call 148; refine kv1.mono ?_; clear kv1; rintro e w1 ⟨ad1, cap1, rfl, hr1, hb1⟩; have kv2 := KV.out w1 wCoding hb1; simp only [hH])
              | (go_at_call 148; refine kv2.mono ?_; clear kv2; rintro e w2 ⟨ad2, cap2, rfl, hr2, hb2⟩; have hB2 := hb1.trans (hb2.mono hb1.size); have kv3 := KV.out w2 wLength hB2; simp only [hK])
              | (go_at_call 148; refine kv3.mono ?_; clear kv3; rintro e w3 ⟨ad3, cap3, rfl, hr3, hb3⟩; have hB3 := hB2.trans (hb3.mono hB2.size); obtain ⟨d9, d10, d16⟩ := KC.out w3 hB3; rw [hnw] at d10; simp only [hN])
              | fail)
            exact bodyPost_ret (Wb.results3 rfl _ _ _) rfl ⟨rfl, hB3⟩
          · have r6 : ¬ (1 : Int) < (N : Int) := by omega
            cases D with
            | true =>
              by_cases gM : m.most < Y
              · have r7 : (m.most : Int) < (Y : Int) := by omega
                simp only [gS, gK, gN0, gN1, gM, and_true, false_and, or_true, or_false, if_true, if_false, ne_eq, or_self, Bool.false_eq_true, Bool.true_eq_false, decide_false]
                go_enter Tryz.func143, Tryz.ntmps143
                go_wp2_with (first
                  | (go_at_call 148; refine kv1.mono ?_; clear kv1; rintro e w1 ⟨ad1, cap1, rfl, hr1, hb1⟩; have kv2 := KV.out w1 wCoding hb1; simp only [hH])
                  | (go_at_call 148; refine kv2.mono ?_; clear kv2; rintro e w2 ⟨ad2, cap2, rfl, hr2, hb2⟩; have hB2 := hb1.trans (hb2.mono hb1.size); have kv3 := KV.out w2 wLength hB2; simp only [hK])
                  | (go_at_call 148; refine kv3.mono ?_; clear kv3; rintro e w3 ⟨ad3, cap3, rfl, hr3, hb3⟩; have hB3 := hB2.trans (hb3.mono hB2.size); obtain ⟨d9, d10, d16⟩ := KC.out w3 hB3; rw [hnw] at d10; simp only [hN]; rw [hN] at hr3; obtain ⟨gn, rfl, cn⟩ := row_head hr3 (by omega); rw [hL0] at cn)
                  | (go_at_call 149; refine (ki _).mono ?_; clear ki; rintro e w4 ⟨rfl, rfl⟩; have kn2 := kn' _ hB3 rfl)
                  | (go_at_call 150; refine kn2.mono ?_; clear kn2; rintro e w4 ⟨rfl, rfl⟩)
                  | fail)
                exact bodyPost_ret (Wb.results3 rfl _ _ _) rfl ⟨rfl, hB3⟩
              · have r7 : ¬ (m.most : Int) < (Y : Int) := by omega
                simp only [gS, gK, gN0, gN1, gM, and_true, false_and, or_true, or_false, if_false, ne_eq, or_self, Bool.false_eq_true, Bool.true_eq_false, decide_false]
                go_enter Tryz.func143, Tryz.ntmps143
                go_wp2_with (first
                  | (go_at_call 148; refine kv1.mono ?_; clear kv1; rintro e w1 ⟨ad1, cap1, rfl, hr1, hb1⟩; have kv2 := KV.out w1 wCoding hb1; simp only [hH])
                  | (go_at_call 148; refine kv2.mono ?_; clear kv2; rintro e w2 ⟨ad2, cap2, rfl, hr2, hb2⟩; have hB2 := hb1.trans (hb2.mono hb1.size); have kv3 := KV.out w2 wLength hB2; simp only [hK])
                  | (go_at_call 148; refine kv3.mono ?_; clear kv3; rintro e w3 ⟨ad3, cap3, rfl, hr3, hb3⟩; have hB3 := hB2.trans (hb3.mono hB2.size); obtain ⟨d9, d10, d16⟩ := KC.out w3 hB3; rw [hnw] at d10; simp only [hN]; rw [hN] at hr3; obtain ⟨gn, rfl, cn⟩ := row_head hr3 (by omega); rw [hL0] at cn)
                  | (go_at_call 149; refine (ki _).mono ?_; clear ki; rintro e w4 ⟨rfl, rfl⟩; have kn2 := kn' _ hB3 rfl)
                  | (go_at_call 150; refine kn2.mono ?_; clear kn2; rintro e w4 ⟨rfl, rfl⟩)
                  | fail)
                exact bodyPost_ret (Wb.results3 rfl _ _ _) rfl ⟨rfl, hB3⟩
            | false =>
              simp only [gS, gK, gN0, gN1, and_true, false_and, or_true, or_false, if_true, if_false, ne_eq, Bool.false_eq_true, decide_false]
              go_enter Tryz.func143, Tryz.ntmps143
              go_wp2_with (first
                | (go_at_call 148; refine kv1.mono ?_; clear kv1; rintro e w1 ⟨ad1, cap1, rfl, hr1, hb1⟩; have kv2 := KV.out w1 wCoding hb1; simp only [hH])
                | (go_at_call 148; refine kv2.mono ?_; clear kv2; rintro e w2 ⟨ad2, cap2, rfl, hr2, hb2⟩; have hB2 := hb1.trans (hb2.mono hb1.size); have kv3 := KV.out w2 wLength hB2; simp only [hK])
                | (go_at_call 148; refine kv3.mono ?_; clear kv3; rintro e w3 ⟨ad3, cap3, rfl, hr3, hb3⟩; have hB3 := hB2.trans (hb3.mono hB2.size); obtain ⟨d9, d10, d16⟩ := KC.out w3 hB3; rw [hnw] at d10; simp only [hN]; rw [hN] at hr3; obtain ⟨gn, rfl, cn⟩ := row_head hr3 (by omega); rw [hL0] at cn)
                | (go_at_call 149; refine (ki _).mono ?_; clear ki; rintro e w4 ⟨rfl, rfl⟩)
                | fail)
              exact bodyPost_ret (Wb.results3 rfl _ _ _) rfl ⟨rfl, hB3⟩
end Go.Proofs
