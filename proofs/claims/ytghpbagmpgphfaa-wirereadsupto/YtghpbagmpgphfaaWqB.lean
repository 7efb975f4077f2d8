/-
  The document's reader: Count.
-/
import Derived.Test.YtghpbagmpgphfaaWqA
namespace Go.Proofs
open Go.RowKit Go.Wi
theorem Wi.at_drop {t : List UInt8} {p i : Nat} (h : i < (t.drop p).length) : ∃ h2 : p + i < t.length, (t.drop p)[i] = t[p + i] := by
  rw [List.length_drop] at h
  exact ⟨by omega, by rw [List.getElem_drop]⟩
set_option maxHeartbeats 4000000 in
set_option maxRecDepth 20000 in
theorem Try.xCount_any {w : World} {own : Nat → Prop} {x : Nat} {s : Rs} (h : Try.Xd w own x s) :
    Calls Try.prog 34 #[.pointer (some ⟨x, 0, none⟩)] w fun e w' => e = .returned (.int .u64 (s.cnt.1 : Nat)) ∧ Try.XChg own w w' x s.cnt.2 := by
  obtain ⟨V, hx, hbs, -⟩ := h.ex
  have c0 := cell_of_row w x 0 _ _ _ hx
  have c1 := cell_of_row w x 1 _ _ _ hx
  have c2 := cell_of_row w x 2 _ _ _ hx
  have f1 : w.frozen? ⟨x, 1, none⟩ = false := frozen_of_row w x 1 _ _ hx
  have hin := h.inn
  have hlen := h.len
  obtain ⟨t, p, f⟩ := s
  unfold Rs.In at hin
  simp only at hin hlen c0 c1 c2 hbs
  cases f with
  | some a =>
    have c3 : w.cell? ⟨x, 2, none⟩ = some (.int .i64 (a : Int)) := c2
    have q : (0 : Int) ≤ (a : Int) := by omega
    have H : Hid (Try.Xd w own x ⟨t, p, some a⟩) := h
    clear h hx hbs c2
    go_enter Try.func34, Try.ntmps34
    go_wp2
    go_ret
    exact ⟨rfl, Try.XChg.refl H.out⟩
  | none =>
    have c3 : w.cell? ⟨x, 2, none⟩ = some (.int .i64 (-1)) := c2
    have H : Hid (Try.Xd w own x ⟨t, p, none⟩) := h
    obtain ⟨ad, cap, rfl, hcap, hn, hat⟩ := hbs.ex
    have HAT : Hid (∀ i (hi : i < t.length), ∃ g o, ad = some ⟨g, o, none⟩ ∧ w.cell? ⟨g, o + i, none⟩ = some (.int .u8 (t[i].toNat : Nat))) := fun i hi => by
      rcases hat with e | ⟨g, o, e, hg, hc⟩
      · rw [e] at hi; simp at hi
      · exact ⟨g, o, e, hc i _ (byteCell hi)⟩
    have HIN : Hid (p ≤ t.length) := hin
    have HLEN : Hid (t.length ≤ 140737488355328) := hlen
    clear h hx hbs c2 hat hn hcap
    obtain ⟨l, hl⟩ : ∃ l, l = t.drop p := ⟨_, rfl⟩
    have hll : l.length = t.length - p := by rw [hl, List.length_drop]
    have HL : Hid (l = t.drop p) := hl
    have HCNT : Hid ((Rs.mk t p none).cnt = match rdC l 0 0 with
      | .ok n k => (n, ⟨t, p + k, none⟩)
      | .bad k => (0, ⟨t, p, some (p + k)⟩)) := by rw [hl]; rfl
    obtain ⟨N, hN⟩ : ∃ N, N = t.length := ⟨_, rfl⟩
    rw [← hN] at hll hin hlen c0
    have HN : Hid (N = t.length) := hN
    clear hl hN
    go_enter Try.func34, Try.ntmps34
    go_wp2
    go_loopw [3] (fun ev wr => ∃ i : Nat, ev = .int .i64 ((p + i : Nat) : Int) ∧ i ≤ 9 ∧ i ≤ l.length ∧ (∀ m (hm : m < l.length), m < i → 128 ≤ l[m].toNat) ∧ wr = w) (fun ev _ => p + 9 - (intOf ev).toNat)
    case atStart => exact ⟨0, rfl, by omega, by omega, fun m _ h => absurd h (Nat.not_lt_zero _), rfl⟩
    case round =>
      obtain ⟨i, rfl, h9, hil, hb, rfl⟩ := hrel
      have HB : Hid (∀ m (hm : m < l.length), m < i → 128 ≤ l[m].toNat) := hb
      clear hb
      have e9 : IntKind.i64.wrap ((p : Int) + 9) = (p : Int) + 9 := by rw [IntKind.wrap_i64]; omega
      by_cases hA : i = l.length
      · have HR : Hid ((Rs.mk t p none).cnt = (0, ⟨t, p, some (p + i)⟩)) := by
          have h1 := (rdC_end hil h9 HB.out).1 hA
          show (Rs.mk t p none).cnt = _
          rw [HCNT.out, h1]
        have q1 : ¬ ((p : Int) + (i : Int)) < (N : Int) := by omega
        have q2 : (N : Int) ≤ (p : Int) + (i : Int) := by omega
        have hpi : (N : Int) = ((p + i : Nat) : Int) := by omega
        clear hA
        have hfl : ∀ z : Int, z = ((p + i : Nat) : Int) → Calls Try.prog 35 #[.pointer (some ⟨x, 0, none⟩), .int .i64 z] wr fun e w' => (∃ v, e = .returned v) ∧ Try.XChg own wr w' x ⟨t, p, some (p + i)⟩ := fun z hz => by rw [hz]; exact Try.xFails_any H.out (p + i)
        have hz0 : (0 : Int) ≤ ((p + i : Nat) : Int) := by omega
        go_wp2_with (first
          | (go_at_call 35; refine (hfl _ (by omega)).mono ?_; clear hfl; rintro e2 w2 ⟨⟨v2, rfl⟩, hc2⟩
             have d2 : w2.cell? ⟨x, 2, none⟩ = some (.int .i64 ((p + i : Nat) : Int)) := by obtain ⟨V, k1, -⟩ := hc2.rd.ex; exact cell_of_row w2 x 2 _ _ _ k1
             have HC2 : Hid (Try.XChg own wr w2 x ⟨t, p, some (p + i)⟩) := hc2
             clear hc2)
          | fail)
        go_ret
        exact ⟨by rw [HR.out]; rfl, by rw [HR.out]; exact HC2.out⟩
      · have hlt : i < l.length := by omega
        obtain ⟨b, hb⟩ : ∃ b, b = l[i] := ⟨_, rfl⟩
        have HBI : Hid (b = l[i]) := hb
        obtain ⟨g, o, rfl, cb⟩ : ∃ g o, ad = some ⟨g, o, none⟩ ∧ wr.cell? ⟨g, o + (p + i), none⟩ = some (.int .u8 (b.toNat : Nat)) := by
          have h3 : i < (t.drop p).length := by rw [← HL.out]; exact hlt
          obtain ⟨h4, h5⟩ := Wi.at_drop h3
          obtain ⟨g, o, h6, h7⟩ := HAT.out (p + i) h4
          refine ⟨g, o, h6, ?_⟩
          rw [h7, hb]
          congr 3
          rw [← h5]
          simp only [HL.out]
        clear hb
        have q1 : ((p : Int) + (i : Int)) < (N : Int) := by omega
        by_cases hgo : i < 9 ∧ 128 ≤ b.toNat
        · obtain ⟨g9, g128⟩ := hgo
          have q2 : ((p : Int) + (i : Int)) < (p : Int) + 9 := by omega
          have q3 : (128 : Int) ≤ (b.toNat : Int) := by omega
          go_wp2
          go_roundw
          case rel =>
            refine ⟨i + 1, by go_num, by omega, by omega, fun m hm hmi => ?_, by trivial⟩
            rcases Nat.lt_or_ge m i with h | h
            · exact HB.out m hm h
            · have e : m = i := by omega
              subst e
              rw [← HBI.out]; exact g128
          case measure => simp [intOf]; omega
        · by_cases h9e : i = 9
          · subst h9e
            have q5 : ¬ (N : Int) ≤ (p : Int) + 9 := by omega
            by_cases hb1 : 1 < b.toNat
            · have HR : Hid ((Rs.mk t p none).cnt = (0, ⟨t, p, some (p + 9)⟩)) := by
                have h1 := ((rdC_end hil h9 HB.out).2 hlt).1 (by rw [← HBI.out]; omega)
                show (Rs.mk t p none).cnt = _
                rw [HCNT.out, h1]
              have q6 : (1 : Int) < (b.toNat : Int) := by omega
              have hfl : ∀ z : Int, z = ((p + 9 : Nat) : Int) → Calls Try.prog 35 #[.pointer (some ⟨x, 0, none⟩), .int .i64 z] wr fun e w' => (∃ v, e = .returned v) ∧ Try.XChg own wr w' x ⟨t, p, some (p + 9)⟩ := fun z hz => by rw [hz]; exact Try.xFails_any H.out (p + 9)
              have hz0 : (0 : Int) ≤ ((p + 9 : Nat) : Int) := by omega
              go_wp2_with (first
                | (go_at_call 35; refine (hfl _ (by omega)).mono ?_; clear hfl; rintro e2 w2 ⟨⟨v2, rfl⟩, hc2⟩
                   have d2 : w2.cell? ⟨x, 2, none⟩ = some (.int .i64 ((p + 9 : Nat) : Int)) := by obtain ⟨V, k1, -⟩ := hc2.rd.ex; exact cell_of_row w2 x 2 _ _ _ k1
                   have HC2 : Hid (Try.XChg own wr w2 x ⟨t, p, some (p + 9)⟩) := hc2
                   clear hc2)
                | fail)
              go_ret
              exact ⟨by rw [HR.out]; rfl, by rw [HR.out]; exact HC2.out⟩
            · have q6 : ¬ (1 : Int) < (b.toNat : Int) := by omega
              have q7 : (p : Int) < (p : Int) + 9 := by omega
              by_cases hb0 : b.toNat = 0
              · have HR : Hid ((Rs.mk t p none).cnt = (0, ⟨t, p, some (p + 9)⟩)) := by
                  have h1 := ((rdC_end hil h9 HB.out).2 hlt).1 (by rw [← HBI.out]; omega)
                  show (Rs.mk t p none).cnt = _
                  rw [HCNT.out, h1]
                have q8 : (b.toNat : Int) = 0 := by omega
                have hfl : ∀ z : Int, z = ((p + 9 : Nat) : Int) → Calls Try.prog 35 #[.pointer (some ⟨x, 0, none⟩), .int .i64 z] wr fun e w' => (∃ v, e = .returned v) ∧ Try.XChg own wr w' x ⟨t, p, some (p + 9)⟩ := fun z hz => by rw [hz]; exact Try.xFails_any H.out (p + 9)
                have hz0 : (0 : Int) ≤ ((p + 9 : Nat) : Int) := by omega
                go_wp2_with (first
                  | (go_at_call 35; refine (hfl _ (by omega)).mono ?_; clear hfl; rintro e2 w2 ⟨⟨v2, rfl⟩, hc2⟩
                     have d2 : w2.cell? ⟨x, 2, none⟩ = some (.int .i64 ((p + 9 : Nat) : Int)) := by obtain ⟨V, k1, -⟩ := hc2.rd.ex; exact cell_of_row w2 x 2 _ _ _ k1
                     have HC2 : Hid (Try.XChg own wr w2 x ⟨t, p, some (p + 9)⟩) := hc2
                     clear hc2)
                  | fail)
                go_ret
                exact ⟨by rw [HR.out]; rfl, by rw [HR.out]; exact HC2.out⟩
              · have h1 := ((rdC_end hil h9 HB.out).2 hlt).2 (by rw [← HBI.out]; omega) (by rw [← HBI.out]; omega)
                have HLT : Hid (hz (l.take (9 + 1)) < 18446744073709551616) := hz_lt h1 rfl
                have HR : Hid ((Rs.mk t p none).cnt = (hz (l.take (9 + 1)), ⟨t, p + (9 + 1), none⟩)) := by
                  show (Rs.mk t p none).cnt = _
                  rw [HCNT.out, h1]
                clear h1
                have q8 : ¬ (b.toNat : Int) = 0 := by omega
                have e1 : IntKind.i64.wrap (((p : Int) + (9 : Int)) + 1) = (p : Int) + (9 : Int) + 1 := by rw [IntKind.wrap_i64]; omega
                go_wp2
                obtain ⟨wo, hwo⟩ : ∃ wo, wo = wr := ⟨_, rfl⟩
                subst hwo
                go_loopw [4, 5] (fun nv iv wx => ∃ (k nn : Nat) (J : Int), k ≤ 9 + 1 ∧ iv = .int .i64 J ∧ J = (p : Int) + (k : Int) - 1 ∧ nv = .int .u64 (nn : Nat) ∧ nn = hz ((l.take (9 + 1)).drop k) ∧ wx = wo) (fun _ iv _ => (intOf iv - p + 1).toNat)
                case atStart => exact ⟨9 + 1, 0, _, Nat.le_refl _, rfl, by omega, rfl, by rw [List.drop_of_length_le (by rw [List.length_take]; omega)]; rfl, by trivial⟩
                case round =>
                  obtain ⟨k, nn, J, hk, rfl, hJ, rfl, hnn, rfl⟩ := hrel
                  have HNN : Hid (nn = hz ((l.take (9 + 1)).drop k)) := hnn
                  clear hnn
                  by_cases hk0 : k = 0
                  · subst hk0
                    have HJ : Hid (J = (p : Int) + ((0 : Nat) : Int) - 1) := hJ
                    have q : ¬ (p : Int) ≤ J := by omega
                    have HNN2 : Hid (nn = hz (l.take (9 + 1))) := HNN.out
                    clear hJ HNN
                    go_wp2
                    go_ret
                    exact ⟨by rw [HR.out, HNN2.out]; rfl, by rw [HR.out]; exact H.out.setP (p + (9 + 1)) _ (by first | omega | (rw [e1]; omega)) (by show p + (9 + 1) ≤ t.length; have := HN.out; omega)⟩
                  · obtain ⟨k', rfl⟩ : ∃ k', k = k' + 1 := ⟨k - 1, by omega⟩
                    have hJ2 : J = (p : Int) + (k' : Int) := by omega
                    clear hJ
                    subst hJ2
                    have hkl : k' < l.length := by omega
                    obtain ⟨c, hc⟩ : ∃ c, c = l[k'] := ⟨_, rfl⟩
                    have HD : Hid (hz ((l.take (9 + 1)).drop k') = c.toNat % 128 + 128 * nn) := by
                      show _ = _
                      rw [hz_drop (by rw [List.length_take]; omega), HNN.out, List.getElem_take, hc]
                    have hle := hz_le (l.take (9 + 1)) k'
                    rw [HD.out] at hle
                    have hlt := HLT.out
                    have cc : wr.cell? ⟨g, o + (p + k'), none⟩ = some (.int .u8 (c.toNat : Nat)) := by
                      have h3 : k' < (t.drop p).length := by rw [← HL.out]; exact hkl
                      obtain ⟨h4, h5⟩ := Wi.at_drop h3
                      obtain ⟨g', o', h6, h7⟩ := HAT.out (p + k') h4
                      injection h6 with h6
                      injection h6 with h6 h8 _
                      subst h6 h8
                      rw [h7, hc]
                      congr 3
                      rw [← h5]
                      simp only [HL.out]
                    have hcn := c.toNat_lt
                    generalize c.toNat = cn at *
                    have q : (p : Int) ≤ (p : Int) + (k' : Int) := by omega
                    have q9 : (p : Int) + (k' : Int) < (N : Int) := by omega
                    have e2 : IntKind.u64.wrap (128 * (nn : Int)) = 128 * (nn : Int) := by rw [IntKind.wrap_u64]; omega
                    have e3 : IntKind.u64.wrap (128 * (nn : Int) + (cn : Int) % 128) = ((cn % 128 + 128 * nn : Nat) : Int) := by rw [IntKind.wrap_u64]; omega
                    have e4 : IntKind.i64.wrap ((p : Int) + (k' : Int) - 1) = (p : Int) + (k' : Int) - 1 := by rw [IntKind.wrap_i64]; omega
                    clear hc hkl hle
                    go_wp2
                    go_roundw
                    case rel => exact ⟨k', cn % 128 + 128 * nn, _, by omega, rfl, rfl, by trivial, HD.out.symm, by trivial⟩
                    case measure => simp [intOf]; omega
          · have hb8 : b.toNat < 128 := by
              rcases Nat.lt_or_ge b.toNat 128 with h | h
              · exact h
              · exact absurd ⟨by omega, h⟩ hgo
            have q2 : ((p : Int) + (i : Int)) < (p : Int) + 9 := by omega
            have q3 : ¬ (128 : Int) ≤ (b.toNat : Int) := by omega
            have q4 : ¬ (p : Int) + (i : Int) = (p : Int) + 9 := by omega
            have q5 : ¬ (N : Int) ≤ (p : Int) + (i : Int) := by omega
            by_cases hi0 : 0 < i
            · have q7 : (p : Int) < (p : Int) + (i : Int) := by omega
              by_cases hb0 : b.toNat = 0
              · have HR : Hid ((Rs.mk t p none).cnt = (0, ⟨t, p, some (p + i)⟩)) := by
                  have h1 := ((rdC_end hil h9 HB.out).2 hlt).1 (by rw [← HBI.out]; omega)
                  show (Rs.mk t p none).cnt = _
                  rw [HCNT.out, h1]
                have q8 : (b.toNat : Int) = 0 := by omega
                have hfl : ∀ z : Int, z = ((p + i : Nat) : Int) → Calls Try.prog 35 #[.pointer (some ⟨x, 0, none⟩), .int .i64 z] wr fun e w' => (∃ v, e = .returned v) ∧ Try.XChg own wr w' x ⟨t, p, some (p + i)⟩ := fun z hz => by rw [hz]; exact Try.xFails_any H.out (p + i)
                have hz0 : (0 : Int) ≤ ((p + i : Nat) : Int) := by omega
                go_wp2_with (first
                  | (go_at_call 35; refine (hfl _ (by omega)).mono ?_; clear hfl; rintro e2 w2 ⟨⟨v2, rfl⟩, hc2⟩
                     have d2 : w2.cell? ⟨x, 2, none⟩ = some (.int .i64 ((p + i : Nat) : Int)) := by obtain ⟨V, k1, -⟩ := hc2.rd.ex; exact cell_of_row w2 x 2 _ _ _ k1
                     have HC2 : Hid (Try.XChg own wr w2 x ⟨t, p, some (p + i)⟩) := hc2
                     clear hc2)
                  | fail)
                go_ret
                exact ⟨by rw [HR.out]; rfl, by rw [HR.out]; exact HC2.out⟩
              · have h1 := ((rdC_end hil h9 HB.out).2 hlt).2 (by rw [← HBI.out]; omega) (by rw [← HBI.out]; omega)
                have HLT : Hid (hz (l.take (i + 1)) < 18446744073709551616) := hz_lt h1 rfl
                have HR : Hid ((Rs.mk t p none).cnt = (hz (l.take (i + 1)), ⟨t, p + (i + 1), none⟩)) := by
                  show (Rs.mk t p none).cnt = _
                  rw [HCNT.out, h1]
                clear h1
                have q8 : ¬ (b.toNat : Int) = 0 := by omega
                have e1 : IntKind.i64.wrap (((p : Int) + (i : Int)) + 1) = (p : Int) + (i : Int) + 1 := by rw [IntKind.wrap_i64]; omega
                go_wp2
                obtain ⟨wo, hwo⟩ : ∃ wo, wo = wr := ⟨_, rfl⟩
                subst hwo
                go_loopw [4, 5] (fun nv iv wx => ∃ (k nn : Nat) (J : Int), k ≤ i + 1 ∧ iv = .int .i64 J ∧ J = (p : Int) + (k : Int) - 1 ∧ nv = .int .u64 (nn : Nat) ∧ nn = hz ((l.take (i + 1)).drop k) ∧ wx = wo) (fun _ iv _ => (intOf iv - p + 1).toNat)
                case atStart => exact ⟨i + 1, 0, _, Nat.le_refl _, rfl, by omega, rfl, by rw [List.drop_of_length_le (by rw [List.length_take]; omega)]; rfl, by trivial⟩
                case round =>
                  obtain ⟨k, nn, J, hk, rfl, hJ, rfl, hnn, rfl⟩ := hrel
                  have HNN : Hid (nn = hz ((l.take (i + 1)).drop k)) := hnn
                  clear hnn
                  by_cases hk0 : k = 0
                  · subst hk0
                    have HJ : Hid (J = (p : Int) + ((0 : Nat) : Int) - 1) := hJ
                    have q : ¬ (p : Int) ≤ J := by omega
                    have HNN2 : Hid (nn = hz (l.take (i + 1))) := HNN.out
                    clear hJ HNN
                    go_wp2
                    go_ret
                    exact ⟨by rw [HR.out, HNN2.out]; rfl, by rw [HR.out]; exact H.out.setP (p + (i + 1)) _ (by first | omega | (rw [e1]; omega)) (by show p + (i + 1) ≤ t.length; have := HN.out; omega)⟩
                  · obtain ⟨k', rfl⟩ : ∃ k', k = k' + 1 := ⟨k - 1, by omega⟩
                    have hJ2 : J = (p : Int) + (k' : Int) := by omega
                    clear hJ
                    subst hJ2
                    have hkl : k' < l.length := by omega
                    obtain ⟨c, hc⟩ : ∃ c, c = l[k'] := ⟨_, rfl⟩
                    have HD : Hid (hz ((l.take (i + 1)).drop k') = c.toNat % 128 + 128 * nn) := by
                      show _ = _
                      rw [hz_drop (by rw [List.length_take]; omega), HNN.out, List.getElem_take, hc]
                    have hle := hz_le (l.take (i + 1)) k'
                    rw [HD.out] at hle
                    have hlt := HLT.out
                    have cc : wr.cell? ⟨g, o + (p + k'), none⟩ = some (.int .u8 (c.toNat : Nat)) := by
                      have h3 : k' < (t.drop p).length := by rw [← HL.out]; exact hkl
                      obtain ⟨h4, h5⟩ := Wi.at_drop h3
                      obtain ⟨g', o', h6, h7⟩ := HAT.out (p + k') h4
                      injection h6 with h6
                      injection h6 with h6 h8 _
                      subst h6 h8
                      rw [h7, hc]
                      congr 3
                      rw [← h5]
                      simp only [HL.out]
                    have hcn := c.toNat_lt
                    generalize c.toNat = cn at *
                    have q : (p : Int) ≤ (p : Int) + (k' : Int) := by omega
                    have q9 : (p : Int) + (k' : Int) < (N : Int) := by omega
                    have e2 : IntKind.u64.wrap (128 * (nn : Int)) = 128 * (nn : Int) := by rw [IntKind.wrap_u64]; omega
                    have e3 : IntKind.u64.wrap (128 * (nn : Int) + (cn : Int) % 128) = ((cn % 128 + 128 * nn : Nat) : Int) := by rw [IntKind.wrap_u64]; omega
                    have e4 : IntKind.i64.wrap ((p : Int) + (k' : Int) - 1) = (p : Int) + (k' : Int) - 1 := by rw [IntKind.wrap_i64]; omega
                    clear hc hkl hle
                    go_wp2
                    go_roundw
                    case rel => exact ⟨k', cn % 128 + 128 * nn, _, by omega, rfl, rfl, by trivial, HD.out.symm, by trivial⟩
                    case measure => simp [intOf]; omega
            · have q7 : ¬ (p : Int) < (p : Int) + (i : Int) := by omega
              have h1 := ((rdC_end hil h9 HB.out).2 hlt).2 (by rw [← HBI.out]; omega) (by rw [← HBI.out]; omega)
              have HLT : Hid (hz (l.take (i + 1)) < 18446744073709551616) := hz_lt h1 rfl
              have HR : Hid ((Rs.mk t p none).cnt = (hz (l.take (i + 1)), ⟨t, p + (i + 1), none⟩)) := by
                show (Rs.mk t p none).cnt = _
                rw [HCNT.out, h1]
              clear h1
              have e1 : IntKind.i64.wrap (((p : Int) + (i : Int)) + 1) = (p : Int) + (i : Int) + 1 := by rw [IntKind.wrap_i64]; omega
              go_wp2
              obtain ⟨wo, hwo⟩ : ∃ wo, wo = wr := ⟨_, rfl⟩
              subst hwo
              go_loopw [4, 5] (fun nv iv wx => ∃ (k nn : Nat) (J : Int), k ≤ i + 1 ∧ iv = .int .i64 J ∧ J = (p : Int) + (k : Int) - 1 ∧ nv = .int .u64 (nn : Nat) ∧ nn = hz ((l.take (i + 1)).drop k) ∧ wx = wo) (fun _ iv _ => (intOf iv - p + 1).toNat)
              case atStart => exact ⟨i + 1, 0, _, Nat.le_refl _, rfl, by omega, rfl, by rw [List.drop_of_length_le (by rw [List.length_take]; omega)]; rfl, by trivial⟩
              case round =>
                obtain ⟨k, nn, J, hk, rfl, hJ, rfl, hnn, rfl⟩ := hrel
                have HNN : Hid (nn = hz ((l.take (i + 1)).drop k)) := hnn
                clear hnn
                by_cases hk0 : k = 0
                · subst hk0
                  have HJ : Hid (J = (p : Int) + ((0 : Nat) : Int) - 1) := hJ
                  have q : ¬ (p : Int) ≤ J := by omega
                  have HNN2 : Hid (nn = hz (l.take (i + 1))) := HNN.out
                  clear hJ HNN
                  go_wp2
                  go_ret
                  exact ⟨by rw [HR.out, HNN2.out]; rfl, by rw [HR.out]; exact H.out.setP (p + (i + 1)) _ (by first | omega | (rw [e1]; omega)) (by show p + (i + 1) ≤ t.length; have := HN.out; omega)⟩
                · obtain ⟨k', rfl⟩ : ∃ k', k = k' + 1 := ⟨k - 1, by omega⟩
                  have hJ2 : J = (p : Int) + (k' : Int) := by omega
                  clear hJ
                  subst hJ2
                  have hkl : k' < l.length := by omega
                  obtain ⟨c, hc⟩ : ∃ c, c = l[k'] := ⟨_, rfl⟩
                  have HD : Hid (hz ((l.take (i + 1)).drop k') = c.toNat % 128 + 128 * nn) := by
                    show _ = _
                    rw [hz_drop (by rw [List.length_take]; omega), HNN.out, List.getElem_take, hc]
                  have hle := hz_le (l.take (i + 1)) k'
                  rw [HD.out] at hle
                  have hlt := HLT.out
                  have cc : wr.cell? ⟨g, o + (p + k'), none⟩ = some (.int .u8 (c.toNat : Nat)) := by
                    have h3 : k' < (t.drop p).length := by rw [← HL.out]; exact hkl
                    obtain ⟨h4, h5⟩ := Wi.at_drop h3
                    obtain ⟨g', o', h6, h7⟩ := HAT.out (p + k') h4
                    injection h6 with h6
                    injection h6 with h6 h8 _
                    subst h6 h8
                    rw [h7, hc]
                    congr 3
                    rw [← h5]
                    simp only [HL.out]
                  have hcn := c.toNat_lt
                  generalize c.toNat = cn at *
                  have q : (p : Int) ≤ (p : Int) + (k' : Int) := by omega
                  have q9 : (p : Int) + (k' : Int) < (N : Int) := by omega
                  have e2 : IntKind.u64.wrap (128 * (nn : Int)) = 128 * (nn : Int) := by rw [IntKind.wrap_u64]; omega
                  have e3 : IntKind.u64.wrap (128 * (nn : Int) + (cn : Int) % 128) = ((cn % 128 + 128 * nn : Nat) : Int) := by rw [IntKind.wrap_u64]; omega
                  have e4 : IntKind.i64.wrap ((p : Int) + (k' : Int) - 1) = (p : Int) + (k' : Int) - 1 := by rw [IntKind.wrap_i64]; omega
                  clear hc hkl hle
                  go_wp2
                  go_roundw
                  case rel => exact ⟨k', cn % 128 + 128 * nn, _, by omega, rfl, rfl, by trivial, HD.out.symm, by trivial⟩
                  case measure => simp [intOf]; omega
end Go.Proofs
