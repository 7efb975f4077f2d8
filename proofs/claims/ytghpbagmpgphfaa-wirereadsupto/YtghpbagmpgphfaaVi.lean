/-
  A READER: count.
-/
import Derived.Test.YtghpbagmpgphfaaVh
namespace Go.Proofs
open Go.RowKit Go.Wi
theorem Wi.or_shl (i acc c : Nat) (hi : i ≤ 9) (hc : c < 128) (h9 : i = 9 → c ≤ 1) (ha : acc < 128 ^ i) : bits .or .u64 (acc : Int) ((c : Int) * 2 ^ (7 * i) % 18446744073709551616) = ((acc + c * 128 ^ i : Nat) : Int) := by
  have hp : (128 : Nat) ^ i = 2 ^ (7 * i) := by rw [Nat.pow_mul]
  have hlt : acc + c * 128 ^ i < 18446744073709551616 := by
    by_cases e : i = 9
    · subst e
      have := h9 rfl
      have h2 : (128 : Nat) ^ 9 = 9223372036854775808 := by decide
      rw [h2] at ha ⊢
      omega
    · have h1 : c * 128 ^ i ≤ 127 * 128 ^ i := Nat.mul_le_mul_right _ (by omega)
      have h2 : (128 : Nat) ^ (i + 1) ≤ 128 ^ 9 := Nat.pow_le_pow_right (by decide) (by omega)
      have h3 : (128 : Nat) ^ 9 = 9223372036854775808 := by decide
      have h4 : 128 ^ i * 128 = 128 ^ (i + 1) := (Nat.pow_succ ..).symm
      omega
  have e : (c : Int) * 2 ^ (7 * i) % 18446744073709551616 = ((c * 128 ^ i : Nat) : Int) := by
    rw [hp] at hlt ⊢
    have : (c : Int) * 2 ^ (7 * i) = ((c * 2 ^ (7 * i) : Nat) : Int) := by simp
    rw [this]
    omega
  rw [e, u64_or_nat acc _ (by omega) (by omega), Nat.or_comm, nat_join (7 * i) _ acc (by rw [hp]; exact Nat.mul_mod_left _ _) (by rw [← hp]; exact ha), Nat.add_comm]
theorem Wi.or_shl2 (i acc c : Nat) (hi : i ≤ 9) (h9 : i = 9 → c % 128 ≤ 1) (ha : acc < 128 ^ i) : bits .or .u64 (acc : Int) (IntKind.u64.wrap ((c : Int) % 128 * 2 ^ (7 * i))) = ((acc + c % 128 * 128 ^ i : Nat) : Int) := by
  rw [← Wi.or_shl i acc (c % 128) hi (by omega) h9 ha, IntKind.wrap_u64]
  simp
theorem Wi.drop_get {t : List UInt8} {p : Nat} (h : p < t.length) : t.drop p = t[p] :: t.drop (p + 1) := List.drop_eq_getElem_cons h
set_option maxRecDepth 4000 in
set_option maxHeartbeats 2000000 in
theorem Try.rCount_any {w : World} {own : Nat → Prop} {x : Nat} {s : Rs} (h : Try.Rd w own x s) :
    Calls Try.prog 31 #[.pointer (some ⟨x, 0, none⟩)] w fun e w' => e = .returned (.int .u64 s.cnt.1) ∧ Try.RChg own w w' x s.cnt.2 := by
  obtain ⟨V, fv, hx, hbs, hV, hVo, hfv⟩ := h.ex
  have c0 := cell_of_row w x 0 _ _ _ hx
  have c1 := cell_of_row w x 1 _ _ _ hx
  have c2 := cell_of_row w x 2 _ _ _ hx
  have f1 := frozen_of_row w x 1 _ _ hx
  obtain ⟨ad, cap, rfl, hcap, hn, h1⟩ := hbs.ex
  clear hx hbs
  rcases hfv with ⟨hf, rfl⟩ | ⟨b, y, hf, rfl, hy, hyx, hyo⟩
  · obtain ⟨t, p, f⟩ := s
    simp only at hf c0 c1 hcap h1
    subst hf
    have hin : p ≤ t.length := h.inn
    have hlen := h.len
    simp only at hlen
    have hcnt : ∀ n k, rdC (t.drop p) 0 0 = .ok n k → (Rs.mk t p none).cnt = (n, ⟨t, p + k, none⟩) := fun n k e => by simp only [Rs.cnt, e]
    have hbad : ∀ k, rdC (t.drop p) 0 0 = .bad k → (Rs.mk t p none).cnt = (0, ⟨t, p, some (p + k)⟩) := fun k e => by simp only [Rs.cnt, e]
    have Hlen : Hid (t.length ≤ 140737488355328) := hlen
    by_cases hp : p < t.length
    · have hcell : ∃ g o, ad = some ⟨g, o, none⟩ ∧ ∀ j (hj : j < t.length), w.cell? ⟨g, o + j, none⟩ = some (.int .u8 (t[j].toNat : Nat)) := by
        rcases h1 with rfl | ⟨g, o, e, _, h2⟩
        · simp at hp
        · exact ⟨g, o, e, fun j hj => h2 j _ (Wi.byteCell hj)⟩
      obtain ⟨g, o, rfl, hcell⟩ := hcell
      have q1 : (p : Int) ≤ (t.length : Int) := by omega
      have q2 : (t.length : Int) ≤ (cap : Int) := by omega
      have q3 : ¬ (cap : Int) - (p : Int) = 0 := by omega
      have q4 : cap - p ≠ 0 := by omega
      clear hlen h1
      go_enter Try.func31, Try.ntmps31
      go_wp2
      go_region
      have HR : Hid (Try.Rd w.drew own x ⟨t, p, none⟩) := h.drewN 1
      have d1 : w.drew.cell? ⟨x, 1, none⟩ = some (.int .i64 p) := c1
      have d0 : w.drew.cell? ⟨x, 0, none⟩ = some (.slice (some ⟨g, o, none⟩) t.length cap) := c0
      have e1 : w.drew.frozen? ⟨x, 1, none⟩ = false := f1
      have hcell' : ∀ j (hj : j < t.length), w.drew.cell? ⟨g, o + j, none⟩ = some (.int .u8 (t[j].toNat : Nat)) := hcell
      have hwo : Wo (fun k => k = x) w w.drew := (Wo.refl _ w).drew
      have hs : w.drew.heap.size = w.heap.size := rfl
      generalize w.drew = wd at *
      clear hcell c0 c1 c2 f1 h q3 q4 hn
      go_wp2
      go_loopw [3, 4, 5, 6, 22] (fun a _ _ _ i wr => ∃ k acc : Nat, k ≤ t.length - p ∧ k ≤ 9 ∧ i = .int .i64 k ∧ a = .int .u64 acc ∧ acc < 128 ^ k ∧ rdC (t.drop p) 0 0 = rdC (t.drop (p + k)) k acc ∧ wr = wd) (fun _ _ _ _ i _ => t.length - p - (intOf i).toNat)
      case atStart => exact ⟨0, 0, by omega, by omega, rfl, rfl, by decide, rfl, rfl⟩
      case round =>
        obtain ⟨k, acc, hk, hk9, rfl, rfl, hacc, hrd, rfl⟩ := hrel
        have hfl : ∀ z : Int, z = ((p + k : Nat) : Int) → Calls Try.prog 33 #[.pointer (some ⟨x, 0, none⟩), .int .i64 z] wr fun e w' => (∃ v, e = .returned v) ∧ Try.RChg own wr w' x ⟨t, p, some (p + k)⟩ := fun z hz => by
          subst hz
          exact Try.fail_any HR.out (p + k) (by have := Hlen.out; omega)
        by_cases hkm : k < t.length - p
        · have q0 : (k : Int) < ((t.length - p : Nat) : Int) := by omega
          have hcl := hcell' (p + k) (by omega)
          rw [← Nat.add_assoc] at hcl
          rw [Wi.drop_get (show p + k < t.length by omega), rdC] at hrd
          have hc8 := (t[p + k]'(by omega)).toNat_lt
          generalize hcc : (t[p + k]'(by omega)).toNat = c at hcl hrd hc8
          clear hcc hcell'
          by_cases hl : c < 128
          · have q1 : (c : Int) < 128 := by omega
            by_cases hb1 : k = 9 ∧ 1 < c
            · obtain ⟨rfl, hc1⟩ := hb1
              have q2 : (1 : Int) < c := by omega
              rw [if_pos (.inl ⟨rfl, hc1⟩)] at hrd
              have hb := hbad _ hrd
              have Hb : Hid ((Rs.mk t p none).cnt = (0, ⟨t, p, some (p + 9)⟩)) := hb
              clear hb hrd hbad hcnt
              go_wp2_with (first | (go_at_call 33; refine (hfl _ (by have hL := Hlen.out; first | omega | (unfold wrap64; omega))).mono ?_; clear hfl; rintro e w2 ⟨⟨v, rfl⟩, hR⟩) | fail)
              go_ret
              rw [Hb.out]
              exact ⟨rfl, Try.RChg.trans hwo (fun k e => .inl e) hR⟩
            · by_cases hb2 : c = 0 ∧ 0 < k
              · obtain ⟨rfl, hk0⟩ := hb2
                rw [if_pos (.inr ⟨rfl, hk0⟩)] at hrd
                have Hb : Hid ((Rs.mk t p none).cnt = (0, ⟨t, p, some (p + k)⟩)) := hbad _ hrd
                have q4 : (0 : Int) < k := by omega
                clear hrd hbad hcnt
                by_cases h9 : k = 9
                · subst h9
                  go_wp2_with (first | (go_at_call 33; refine (hfl _ (by have hL := Hlen.out; first | omega | (unfold wrap64; omega))).mono ?_; clear hfl; rintro e w2 ⟨⟨v, rfl⟩, hR⟩) | fail)
                  go_ret
                  rw [Hb.out]
                  exact ⟨rfl, Try.RChg.trans hwo (fun k e => .inl e) hR⟩
                · have q5 : ¬ (k : Int) = 9 := by omega
                  go_wp2_with (first | (go_at_call 33; refine (hfl _ (by have hL := Hlen.out; first | omega | (unfold wrap64; omega))).mono ?_; clear hfl; rintro e w2 ⟨⟨v, rfl⟩, hR⟩) | fail)
                  go_ret
                  rw [Hb.out]
                  exact ⟨rfl, Try.RChg.trans hwo (fun k e => .inl e) hR⟩
              · rw [if_neg (by rintro (e | e); exact hb1 e; exact hb2 e), if_pos hl] at hrd
                have Hb : Hid ((Rs.mk t p none).cnt = (acc + c % 128 * 128 ^ k, ⟨t, p + (k + 1), none⟩)) := hcnt _ _ hrd
                have hor := Wi.or_shl k acc (c % 128) hk9 (by omega) (by omega) hacc
                have hor2 := Wi.or_shl2 k acc c hk9 (by omega) hacc
                have hR : ∀ z : Int, z = ((p + (k + 1) : Nat) : Int) → Try.RChg own wr (wr.setCell ⟨x, 1, none⟩ (.int .i64 z)) x ⟨t, p + (k + 1), none⟩ := fun z hz => HR.out.setP (p + (k + 1)) z hz (by simp only; omega)
                clear hrd hbad hcnt hfl
                by_cases h9 : k = 9
                · subst h9
                  have hc1 : c ≤ 1 := by omega
                  have q6 : ¬ (1 : Int) < c := by omega
                  have q7 : ¬ (c : Int) = 0 := by omega
                  clear hor2
                  have e9 : ((c % 128 : Nat) : Int) * 2 ^ (7 * 9) % 18446744073709551616 = (c : Int) % 128 * 9223372036854775808 := by
                    have : (2 : Int) ^ (7 * 9) = 9223372036854775808 := by decide
                    rw [this]; omega
                  rw [e9] at hor
                  have Hor : Hid (bits .or .u64 (acc : Int) ((c : Int) % 128 * 9223372036854775808) = ((acc + c % 128 * 128 ^ 9 : Nat) : Int)) := hor
                  clear e9 hor
                  go_wp2
                  go_ret
                  rw [Hb.out, Hor.out]
                  exact ⟨rfl, Try.RChg.trans hwo (fun k e => .inl e) (hR _ (by have hL := Hlen.out; first | omega | (unfold wrap64; omega)))⟩
                · have q5 : ¬ (k : Int) = 9 := by omega
                  have Hor := hor2
                  have Hor' : Hid (bits .or .u64 (acc : Int) (IntKind.u64.wrap ((c : Int) % 128 * 2 ^ (7 * k))) = ((acc + c % 128 * 128 ^ k : Nat) : Int)) := hor2
                  clear Hor hor hor2
                  by_cases hc0 : c = 0
                  · have hk0 : k = 0 := by omega
                    subst hk0
                    have hac : acc = 0 := by simp at hacc; exact hacc
                    subst hc0 hac
                    simp only [Nat.add_zero] at hcl
                    clear q0 q1 q5 Hor' hb1 hb2
                    have q0 : (0 : Int) < ((t.length - p : Nat) : Int) := by omega
                    go_wp2
                    go_ret
                    rw [Hb.out]
                    refine ⟨by first | rfl | (simp; rfl) | simp | (simp; decide), Try.RChg.trans hwo (fun k e => .inl e) (hR _ (by have hL := Hlen.out; first | omega | (unfold wrap64; omega)))⟩
                  · have q7 : ¬ (c : Int) = 0 := by omega
                    go_wp2
                    go_ret
                    rw [Hb.out, Hor'.out]
                    exact ⟨rfl, Try.RChg.trans hwo (fun k e => .inl e) (hR _ (by have hL := Hlen.out; first | omega | (unfold wrap64; omega)))⟩
          · have q1 : ¬ (c : Int) < 128 := by omega
            by_cases h9 : k = 9
            · subst h9
              have q2 : (1 : Int) < c := by omega
              rw [if_pos (.inl ⟨rfl, by omega⟩)] at hrd
              have Hb : Hid ((Rs.mk t p none).cnt = (0, ⟨t, p, some (p + 9)⟩)) := hbad _ hrd
              clear hrd hbad hcnt
              go_wp2_with (first | (go_at_call 33; refine (hfl _ (by have hL := Hlen.out; first | omega | (unfold wrap64; omega))).mono ?_; clear hfl; rintro e w2 ⟨⟨v, rfl⟩, hR⟩) | fail)
              go_ret
              rw [Hb.out]
              exact ⟨rfl, Try.RChg.trans hwo (fun k e => .inl e) hR⟩
            · have q5 : ¬ (k : Int) = 9 := by omega
              rw [if_neg (by omega), if_neg hl] at hrd
              have hor2 := Wi.or_shl2 k acc c hk9 (by omega) hacc
              clear hfl hbad hcnt
              go_wp2
              go_roundw
              case rel => 
                have h1 : c % 128 * 128 ^ k ≤ 127 * 128 ^ k := Nat.mul_le_mul_right _ (by omega)
                have h4 : 128 ^ k * 128 = 128 ^ (k + 1) := (Nat.pow_succ ..).symm
                exact ⟨k + 1, acc + c % 128 * 128 ^ k, by omega, by omega, by go_num, rfl, by omega, by rw [hrd, Nat.add_assoc], trivial⟩
              case measure => simp [intOf]; omega
        · have q0 : ¬ (k : Int) < ((t.length - p : Nat) : Int) := by omega
          have hkk : p + k = t.length := by omega
          rw [hkk, List.drop_of_length_le (Nat.le_refl _), rdC] at hrd
          have Hb : Hid ((Rs.mk t p none).cnt = (0, ⟨t, p, some (p + k)⟩)) := hbad _ hrd
          clear hrd hbad hcnt
          go_wp2_with (first | (go_at_call 33; refine (hfl _ (by have hL := Hlen.out; first | omega | (unfold wrap64; omega))).mono ?_; clear hfl; rintro e w2 ⟨⟨v, rfl⟩, hR⟩) | fail)
          go_ret
          rw [Hb.out]
          exact ⟨rfl, Try.RChg.trans hwo (fun k e => .inl e) hR⟩
    · have hpl : p = t.length := by omega
      have hb := hbad 0 (by rw [hpl, List.drop_of_length_le (Nat.le_refl _), rdC])
      have Hb : Hid ((Rs.mk t p none).cnt = (0, ⟨t, p, some (p + 0)⟩)) := hb
      have hfl : ∀ W : World, W = w.drew → Calls Try.prog 33 #[.pointer (some ⟨x, 0, none⟩), .int .i64 t.length] W fun e w' => (∃ v, e = .returned v) ∧ Try.RChg own w.drew w' x ⟨t, p, some (p + 0)⟩ := fun W hW => by
        subst hW
        rw [← hpl]
        exact Try.fail_any (h.drewN 1) p (by have := Hlen.out; omega)
      have hwo : Wo (fun k => k = x) w w.drew := (Wo.refl _ w).drew
      have q1 : (p : Int) ≤ (t.length : Int) := by omega
      have q2 : (t.length : Int) ≤ (cap : Int) := by omega
      have hz : t.length - p = 0 := by omega
      have Hpl : Hid (p = t.length) := hpl
      clear hb hbad hcnt hlen h1 hpl hp
      cases ad with
      | none =>
        have hc0 := hn rfl
        have hl0 : t.length = 0 := by omega
        have hp0 : p = 0 := by omega
        clear hn
        subst hp0 hc0
        rw [hl0] at c0 hfl
        clear q1 q2 hz hin hl0 hcap
        go_enter Try.func31, Try.ntmps31
        go_wp2
        go_region
        go_wp2
        go_loopw [22] (fun i wr => i = .int .i64 0 ∧ wr = w.drew) (fun _ _ => 0)
        case atStart => exact ⟨rfl, rfl⟩
        case round =>
          obtain ⟨rfl, rfl⟩ := hrel
          go_wp2_with (first | (go_at_call 33; refine (hfl _ rfl).mono ?_; clear hfl; rintro e w2 ⟨⟨v, rfl⟩, hR⟩) | fail)
          go_ret
          rw [Hb.out]
          exact ⟨rfl, Try.RChg.trans hwo (fun k e => .inl e) hR⟩
      | some d =>
        clear hn
        by_cases hcp : cap = p
        · have q3 : (cap : Int) - (p : Int) = 0 := by omega
          have q4 : cap - p = 0 := by omega
          clear hcp
          go_enter Try.func31, Try.ntmps31
          go_wp2
          go_region
          go_wp2
          go_loopw [22] (fun i wr => i = .int .i64 0 ∧ wr = w.drew) (fun _ _ => 0)
          case atStart => exact ⟨rfl, rfl⟩
          case round =>
            obtain ⟨rfl, rfl⟩ := hrel
            go_wp2_with (first | (go_at_call 33; refine (hfl _ rfl).mono ?_; clear hfl; rintro e w2 ⟨⟨v, rfl⟩, hR⟩) | fail)
            go_ret
            rw [Hb.out]
            exact ⟨rfl, Try.RChg.trans hwo (fun k e => .inl e) hR⟩
        · have q3 : ¬ (cap : Int) - (p : Int) = 0 := by omega
          have q4 : ¬ cap - p = 0 := by omega
          clear hcp
          go_enter Try.func31, Try.ntmps31
          go_wp2
          go_region
          go_wp2
          go_loopw [22] (fun i wr => i = .int .i64 0 ∧ wr = w.drew) (fun _ _ => 0)
          case atStart => exact ⟨rfl, rfl⟩
          case round =>
            obtain ⟨rfl, rfl⟩ := hrel
            go_wp2_with (first | (go_at_call 33; refine (hfl _ rfl).mono ?_; clear hfl; rintro e w2 ⟨⟨v, rfl⟩, hR⟩) | fail)
            go_ret
            rw [Hb.out]
            exact ⟨rfl, Try.RChg.trans hwo (fun k e => .inl e) hR⟩
  · have he : s.cnt = (0, s) := by unfold Rs.cnt; rw [hf]
    rw [he]
    have hR := Try.RChg.refl h
    clear he hf h hy h1
    go_enter Try.func31, Try.ntmps31
    go_wp2
    go_ret
    exact ⟨rfl, hR⟩
end Go.Proofs
