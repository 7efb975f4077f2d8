/-
  Laid together by packg.py of TmH.
-/
import Derived.Test.YtcakkkafanpjaaaGreatDoorPTmF
import Derived.Test.YtcakkkafanpjaaaGreatDoorPTmG
import Derived.Test.YtcakkkafanpjaaaGreatDoorQaD
import Derived.Test.YtcakkkafanpjaaaGreatDoorQaL
namespace Go.Proofs
open Go.RowKit Go.Jv
/-- What 'escape' answers: bytes of its own. -/
structure Tryz.Esc (w : World) (p : Nat) (t : ByteArray) (o : Nat) (Q : R (Nat × Nat)) (en : Ending) (w' : World) : Prop where
  no : ∀ a e, Q = .bad a e → en = .returned (.slice none 0 0)
  yes : ∀ r q, Q = .ok (r, q) → ∃ g, en = .returned (.slice (some ⟨g, 0, none⟩) (Lib.byteCells (Lib.encodeRune (r : Int))).length (Lib.byteCells (Lib.encodeRune (r : Int))).length) ∧ w.heap.size ≤ g ∧ w'.heap[g]? = some (.cells (Lib.byteCells (Lib.encodeRune (r : Int))).toArray 5 (0, 0))
  rd : Tryz.DS w' p t o Q
  wk : Wk p w w'
theorem Tryz.esc_none {w w' : World} {p : Nat} {t : ByteArray} {o : Nat} {Q : R (Nat × Nat)} {a e : Nat} (hQ : Q = .bad a e) (hR : Tryz.DS w' p t o (.bad a e : R (Nat × Nat))) (hW : Wk p w w') : Tryz.Esc w p t o Q (.returned (.slice none 0 0)) w' := by
  subst hQ
  exact ⟨fun a e h => rfl, fun r q h => (by cases h), hR, hW⟩
theorem Tryz.esc_new {w w1 : World} {p : Nat} {t : ByteArray} {o q r : Nat} {Q : R (Nat × Nat)} {xs : List Value} {l : List UInt8} (hQ : Q = .ok (r, q)) (hl : l = Lib.encodeRune (r : Int)) (_hl4 : l.length ≤ 4) (hx : xs = Lib.byteCells l) (hR : Tryz.DS w1 p t o (.ok (r, q) : R (Nat × Nat))) (hW : Wk p w w1) (n : Nat) (hn : n = xs.length) (g : Nat) (hg : g = w1.heap.size) :
    Tryz.Esc w p t o Q (.returned (.slice (some ⟨g, 0, none⟩) n n)) (w1.alloc (.cells xs.toArray 5)) := by
  subst hQ hn hg
  subst hl hx
  refine ⟨fun a e h => (by cases h), fun r' q' e => ?_, hR.heap (Below.heap_alloc w1 _ p hR.lt), hW.below ((Below.refl w1.heap.size _).alloc (Nat.le_refl _) _) hW.size⟩
  injection e with e
  injection e with e1 e2
  subst e1
  exact ⟨_, rfl, hW.size, heap_alloc_new w1 _⟩
set_option maxRecDepth 20000 in
set_option maxHeartbeats 800000 in
theorem Tryz.dsEscape {α : Type} {w : World} {p : Nat} {t : ByteArray} {o : Nat} {y : α × Nat} (h : Tryz.DS w p t o (.ok y : R (α × Nat))) (hlt : y.2 < t.size) (h92 : t.get! y.2 = 92) :
    Calls Tryz.prog 112 #[.pointer (some ⟨p, 0, none⟩)] w fun e w' => Tryz.Esc w p t o (escape t y.2) e w' := by
  obtain ⟨i, er, c0, c1, -, -, fz, hi, hs, -, hy, -⟩ := h.place
  obtain ⟨e1, -⟩ := hy y rfl
  rw [← e1] at c1 hi
  have f1 := fz 1
  obtain ⟨yv, p0⟩ := y
  have H0 : Hid (Tryz.DS w p t o (.ok (yv, p0) : R (α × Nat))) := h
  have kf : Hid (∀ (a k : Nat), k ≠ 0 → ∀ W : World, W.heap = w.heap → Calls Tryz.prog 59 #[.pointer (some ⟨p, 0, none⟩), .int .i64 a, .int .i64 k] W fun e w' => (∃ v, e = .returned v) ∧ Tryz.DS w' p t o (.bad a k : R (Nat × Nat)) ∧ Wk p W w' ∧ w'.heap.size = W.heap.size) := fun a k hk W e => Tryz.dsFail Nat (H0.out.heap (w' := W) (by rw [e])) a k hk
  clear hy fz e1 h
  simp only at hlt h92 c1 hi
  by_cases hs1 : t.size ≤ p0 + 1
  · have HE : Hid (escape t p0 = .bad t.size 20) := escape_end t p0 hlt hs1
    have q1 : (t.size : Int) ≤ (p0 : Int) + 1 := by omega
    have k1 := kf.out t.size 20 (by decide)
    clear kf hs1 h92
    go_enter Tryz.func112, Tryz.ntmps112
    go_wp2_with (first | (go_at_call 59; refine (k1 _ (by rfl)).mono ?_; clear k1; rintro e w2 ⟨⟨v, rfl⟩, G1, G2, G3⟩) | fail)
    go_ret
    exact Tryz.esc_none HE.out G1 G2
  · have q1 : ¬ (t.size : Int) ≤ (p0 : Int) + 1 := by omega
    have q2 : (p0 : Int) + 1 < (t.size : Int) := by omega
    have q0 : (0 : Int) ≤ (p0 : Int) + 1 := by omega
    have hg := Jv.get_eq t (p0 + 1) (by omega)
    have H1 : Hid (∀ x, escOf (t.get! (p0 + 1)) = some x → escape t p0 = .ok (x.toNat, p0 + 2)) := fun x hx => escape_one t p0 (by omega) x hx
    have H2 : Hid (t.get! (p0 + 1) ≠ 117 → escOf (t.get! (p0 + 1)) = none → escape t p0 = .bad p0 20) := fun h3 hx => escape_none t p0 hlt h92 (by omega) h3 hx
    have H3 : Hid (t.get! (p0 + 1) = 117 → _) := fun h3 => escape_point t p0 hlt h92 (by omega) h3
    have HM : Hid (∀ (W : World) (v : Nat) (z : Int), W.heap = w.heap → z = ((p0 + 2 : Nat) : Int) → Tryz.DS (W.setCell ⟨p, 1, none⟩ (.int .i64 z)) p t o (.ok (v, p0 + 2) : R (Nat × Nat))) := fun W v z e hz => (H0.out.heap (w' := W) (by rw [e])).move0 z (p0 + 2) hz (by omega) v
    have HMW : Hid (∀ (W : World) (z : Value), W.heap = w.heap → W.os = w.os → W.tape = w.tape → W.output = w.output → Wk p w (W.setCell ⟨p, 1, none⟩ z)) := fun W z e1 e2 e3 e4 => (Wk.same (Wk.refl p w) e1 e2 e3 e4).setCell _ _ _
    generalize t.get! (p0 + 1) = c at *
    clear h92
    by_cases e34 : c = 34
    · have HE : Hid (escape t p0 = .ok (34, p0 + 2)) := H1.out 34 (by rw [e34]; rfl)
      subst e34
      clear H1 H2 H3 kf
      go_enter Tryz.func112, Tryz.ntmps112
      go_wp2
      go_ret
      exact Tryz.esc_new (l := [34]) (xs := [.int .u8 34]) HE.out (by decide +kernel) (by decide) (by rfl) (HM.out _ 34 _ (by rfl) (by rfl)) (HMW.out _ _ (by rfl) (by rfl) (by rfl) (by rfl)) _ (by rfl) _ (by simp)
    · skip
      by_cases e92 : c = 92
      · have HE : Hid (escape t p0 = .ok (92, p0 + 2)) := H1.out 92 (by rw [e92]; rfl)
        subst e92
        clear H1 H2 H3 kf
        go_enter Tryz.func112, Tryz.ntmps112
        go_wp2
        go_ret
        exact Tryz.esc_new (l := [92]) (xs := [.int .u8 92]) HE.out (by decide +kernel) (by decide) (by rfl) (HM.out _ 92 _ (by rfl) (by rfl)) (HMW.out _ _ (by rfl) (by rfl) (by rfl) (by rfl)) _ (by rfl) _ (by simp)
      · skip
        by_cases e47 : c = 47
        · have HE : Hid (escape t p0 = .ok (47, p0 + 2)) := H1.out 47 (by rw [e47]; rfl)
          subst e47
          clear H1 H2 H3 kf
          go_enter Tryz.func112, Tryz.ntmps112
          go_wp2
          go_ret
          exact Tryz.esc_new (l := [47]) (xs := [.int .u8 47]) HE.out (by decide +kernel) (by decide) (by rfl) (HM.out _ 47 _ (by rfl) (by rfl)) (HMW.out _ _ (by rfl) (by rfl) (by rfl) (by rfl)) _ (by rfl) _ (by simp)
        · skip
          by_cases e98 : c = 98
          · have HE : Hid (escape t p0 = .ok (8, p0 + 2)) := H1.out 8 (by rw [e98]; rfl)
            subst e98
            clear H1 H2 H3 kf
            go_enter Tryz.func112, Tryz.ntmps112
            go_wp2
            go_ret
            exact Tryz.esc_new (l := [8]) (xs := [.int .u8 8]) HE.out (by decide +kernel) (by decide) (by rfl) (HM.out _ 8 _ (by rfl) (by rfl)) (HMW.out _ _ (by rfl) (by rfl) (by rfl) (by rfl)) _ (by rfl) _ (by simp)
          · skip
            by_cases e102 : c = 102
            · have HE : Hid (escape t p0 = .ok (12, p0 + 2)) := H1.out 12 (by rw [e102]; rfl)
              subst e102
              clear H1 H2 H3 kf
              go_enter Tryz.func112, Tryz.ntmps112
              go_wp2
              go_ret
              exact Tryz.esc_new (l := [12]) (xs := [.int .u8 12]) HE.out (by decide +kernel) (by decide) (by rfl) (HM.out _ 12 _ (by rfl) (by rfl)) (HMW.out _ _ (by rfl) (by rfl) (by rfl) (by rfl)) _ (by rfl) _ (by simp)
            · skip
              by_cases e110 : c = 110
              · have HE : Hid (escape t p0 = .ok (10, p0 + 2)) := H1.out 10 (by rw [e110]; rfl)
                subst e110
                clear H1 H2 H3 kf
                go_enter Tryz.func112, Tryz.ntmps112
                go_wp2
                go_ret
                exact Tryz.esc_new (l := [10]) (xs := [.int .u8 10]) HE.out (by decide +kernel) (by decide) (by rfl) (HM.out _ 10 _ (by rfl) (by rfl)) (HMW.out _ _ (by rfl) (by rfl) (by rfl) (by rfl)) _ (by rfl) _ (by simp)
              · skip
                by_cases e114 : c = 114
                · have HE : Hid (escape t p0 = .ok (13, p0 + 2)) := H1.out 13 (by rw [e114]; rfl)
                  subst e114
                  clear H1 H2 H3 kf
                  go_enter Tryz.func112, Tryz.ntmps112
                  go_wp2
                  go_ret
                  exact Tryz.esc_new (l := [13]) (xs := [.int .u8 13]) HE.out (by decide +kernel) (by decide) (by rfl) (HM.out _ 13 _ (by rfl) (by rfl)) (HMW.out _ _ (by rfl) (by rfl) (by rfl) (by rfl)) _ (by rfl) _ (by simp)
                · skip
                  by_cases e116 : c = 116
                  · have HE : Hid (escape t p0 = .ok (9, p0 + 2)) := H1.out 9 (by rw [e116]; rfl)
                    subst e116
                    clear H1 H2 H3 kf
                    go_enter Tryz.func112, Tryz.ntmps112
                    go_wp2
                    go_ret
                    exact Tryz.esc_new (l := [9]) (xs := [.int .u8 9]) HE.out (by decide +kernel) (by decide) (by rfl) (HM.out _ 9 _ (by rfl) (by rfl)) (HMW.out _ _ (by rfl) (by rfl) (by rfl) (by rfl)) _ (by rfl) _ (by simp)
                  · skip
                    by_cases e117 : c = 117
                    · have h3 := H3.out e117
                      subst e117
                      have kp := Tryz.dsPoint c0 p0 (by omega) hs
                      clear H1 H2 H3
                      obtain ⟨Z, hZ⟩ : ∃ Z, pointF t p0 = Z := ⟨_, rfl⟩
                      rw [hZ] at kp h3
                      clear hZ
                      obtain ⟨zn, zs, zc⟩ := Z
                      simp only at kp h3
                      rcases h3 with ⟨a1, a2⟩ | ⟨a1, a2, a3⟩ | ⟨m, a1, a2, a3, a4, a5, a6⟩
                      · subst a1
                        have HE : Hid (escape t p0 = .bad t.size 20) := a2
                        have k1 := kf.out t.size 20 (by decide)
                        clear kf a2 HM HMW
                        go_enter Tryz.func112, Tryz.ntmps112
                        go_wp2_with (first | (go_at_call 133; refine kp.mono ?_; clear kp; rintro e w1 ⟨rfl, n1, rfl⟩) | (go_at_call 59; refine (k1 _ (by rfl)).mono ?_; clear k1; rintro e w2 ⟨⟨v, rfl⟩, G1, G2, G3⟩) | fail)
                        go_ret
                        exact Tryz.esc_none HE.out G1 (((Wk.refl p w).drewN n1).trans G2)
                      · subst a1 a2
                        have HE : Hid (escape t p0 = .bad p0 20) := a3
                        have k1 := kf.out p0 20 (by decide)
                        clear kf a3 HM HMW
                        go_enter Tryz.func112, Tryz.ntmps112
                        go_wp2_with (first | (go_at_call 133; refine kp.mono ?_; clear kp; rintro e w1 ⟨rfl, n1, rfl⟩) | (go_at_call 59; refine (k1 _ (by rfl)).mono ?_; clear k1; rintro e w2 ⟨⟨v, rfl⟩, G1, G2, G3⟩) | fail)
                        go_ret
                        exact Tryz.esc_none HE.out G1 (((Wk.refl p w).drewN n1).trans G2)
                      · subst a1 a3
                        have HE : Hid (escape t p0 = .ok (m, p0 + zs)) := a4
                        have hm := (Jv.escape_ok a4).1
                        have ke := Tryz.encoded_any m hm a6
                        have r1 : ((zs : Int) == 0) = false := beq_eq_false_iff_ne.2 (by omega)
                        have r2 : (p0 : Int) + (zs : Int) ≤ 4096 := by omega
                        have HM2 : Hid (∀ (W : World) (z : Int), W.heap = w.heap → z = ((p0 + zs : Nat) : Int) → Tryz.DS (W.setCell ⟨p, 1, none⟩ (.int .i64 z)) p t o (.ok (m, p0 + zs) : R (Nat × Nat))) := fun W z e hz => (H0.out.heap (w' := W) (by rw [e])).move0 z (p0 + zs) hz a5 m
                        have hl4 : Hid ((Lib.encodeRune (m : Int)).length ≤ 4) := (by show _ ≤ 4; unfold Lib.encodeRune; rw [List.length_map]; exact (Lib.encodeRuneZ_length _).2)
                        clear kf a4 HM hm a6 a2
                        go_enter Tryz.func112, Tryz.ntmps112
                        go_wp2_with (first | (go_at_call 133; refine kp.mono ?_; clear kp; rintro e w1 ⟨rfl, n1, rfl⟩) | (go_at_call 134; refine (ke _).mono ?_; clear ke; rintro e w2 ⟨rfl, rfl⟩) | fail)
                        go_ret
                        exact Tryz.esc_new (l := Lib.encodeRune (m : Int)) (xs := Lib.byteCells (Lib.encodeRune (m : Int))) HE.out rfl hl4.out (by rfl) (HM2.out _ _ (by rfl) (by simp)) (HMW.out _ _ (by rfl) (by rfl) (by rfl) (by rfl)) _ (by rfl) _ (by simp)
                    · have hn : escOf c = none := by unfold escOf; rw [if_neg e34, if_neg e92, if_neg e47, if_neg e98, if_neg e102, if_neg e110, if_neg e114, if_neg e116]
                      have HE : Hid (escape t p0 = .bad p0 20) := H2.out e117 hn
                      have d34 : ((c.toNat : Int) == 34) = false := beq_eq_false_iff_ne.2 fun e => e34 (UInt8.toNat_inj.1 (by show c.toNat = 34; omega))
                      have d92 : ((c.toNat : Int) == 92) = false := beq_eq_false_iff_ne.2 fun e => e92 (UInt8.toNat_inj.1 (by show c.toNat = 92; omega))
                      have d47 : ((c.toNat : Int) == 47) = false := beq_eq_false_iff_ne.2 fun e => e47 (UInt8.toNat_inj.1 (by show c.toNat = 47; omega))
                      have d98 : ((c.toNat : Int) == 98) = false := beq_eq_false_iff_ne.2 fun e => e98 (UInt8.toNat_inj.1 (by show c.toNat = 98; omega))
                      have d102 : ((c.toNat : Int) == 102) = false := beq_eq_false_iff_ne.2 fun e => e102 (UInt8.toNat_inj.1 (by show c.toNat = 102; omega))
                      have d110 : ((c.toNat : Int) == 110) = false := beq_eq_false_iff_ne.2 fun e => e110 (UInt8.toNat_inj.1 (by show c.toNat = 110; omega))
                      have d114 : ((c.toNat : Int) == 114) = false := beq_eq_false_iff_ne.2 fun e => e114 (UInt8.toNat_inj.1 (by show c.toNat = 114; omega))
                      have d116 : ((c.toNat : Int) == 116) = false := beq_eq_false_iff_ne.2 fun e => e116 (UInt8.toNat_inj.1 (by show c.toNat = 116; omega))
                      have d117 : ((c.toNat : Int) == 117) = false := beq_eq_false_iff_ne.2 fun e => e117 (UInt8.toNat_inj.1 (by show c.toNat = 117; omega))
                      have k1 : Hid (∀ (W : World) (z : Int), W.heap = w.heap → z = ((p0 + 2 : Nat) : Int) → Calls Tryz.prog 59 #[.pointer (some ⟨p, 0, none⟩), .int .i64 p0, .int .i64 20] (W.setCell ⟨p, 1, none⟩ (.int .i64 z)) fun e w' => (∃ v, e = .returned v) ∧ Tryz.DS w' p t o (.bad p0 20 : R (Nat × Nat)) ∧ Wk p (W.setCell ⟨p, 1, none⟩ (.int .i64 z)) w' ∧ w'.heap.size = (W.setCell ⟨p, 1, none⟩ (.int .i64 z)).heap.size) := fun W z e hz => Tryz.dsFail Nat (HM.out W 0 z e hz) p0 20 (by decide)
                      clear H1 H2 H3 kf hn HM e34 e92 e47 e98 e102 e110 e114 e116 e117
                      go_enter Tryz.func112, Tryz.ntmps112
                      go_wp2_with (first | (go_at_call 59; refine (k1.out _ _ (by rfl) (by rfl)).mono ?_; clear k1; rintro e w2 ⟨⟨v, rfl⟩, G1, G2, G3⟩) | fail)
                      go_ret
                      exact Tryz.esc_none HE.out G1 ((HMW.out _ _ (by rfl) (by rfl) (by rfl) (by rfl)).trans G2)
end Go.Proofs
