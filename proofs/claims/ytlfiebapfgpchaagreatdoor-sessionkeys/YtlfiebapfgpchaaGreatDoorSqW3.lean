/-
  Laid together by merge.py of Vi Vj Vk.
-/
import Derived.Test.YtlfiebapfgpchaaGreatDoorSqW2
import Derived.Shelf.Bytes.SlSmallAll
import Derived.Lib.SlBytesConst
namespace Go.Proofs
open Go.RowKit Go.Wi
theorem Wi.or_shl (i acc c : Nat) (hi : i ≤ 9) (hc : c < 128) (h9 : i = 9 → c ≤ 1) (ha : acc < 128 ^ i) : bits .or .u64 (acc : Int) ((c : Int) * 2 ^ (7 * i) % 18446744073709551616) = ((acc + c * 128 ^ i : Nat) : Int) := by
  have hp : (128 : Nat) ^ i = 2 ^ (7 * i) := by rw [Nat.pow_mul]
  have hlt : acc + c * 128 ^ i < 18446744073709551616 := by
    by_cases e : i = 9
    · subst e
      have := h9 rfl
      have h2 : (128 : Nat) ^ 9 = 9223372036854775808 := by decide
      rw [h2] at ha ⊢
      omega
    · have h1 : c * 128 ^ i ≤ 127 * 128 ^ i := Nat.mul_le_mul_right _ (by omega)
      have h2 : (128 : Nat) ^ (i + 1) ≤ 128 ^ 9 := Nat.pow_le_pow_right (by decide) (by omega)
      have h3 : (128 : Nat) ^ 9 = 9223372036854775808 := by decide
      have h4 : 128 ^ i * 128 = 128 ^ (i + 1) := (Nat.pow_succ ..).symm
      omega
  have e : (c : Int) * 2 ^ (7 * i) % 18446744073709551616 = ((c * 128 ^ i : Nat) : Int) := by
    rw [hp] at hlt ⊢
    have : (c : Int) * 2 ^ (7 * i) = ((c * 2 ^ (7 * i) : Nat) : Int) := by simp
    rw [this]
    omega
  rw [e, u64_or_nat acc _ (by omega) (by omega), Nat.or_comm, nat_join (7 * i) _ acc (by rw [hp]; exact Nat.mul_mod_left _ _) (by rw [← hp]; exact ha), Nat.add_comm]
theorem Wi.or_shl2 (i acc c : Nat) (hi : i ≤ 9) (h9 : i = 9 → c % 128 ≤ 1) (ha : acc < 128 ^ i) : bits .or .u64 (acc : Int) (IntKind.u64.wrap ((c : Int) % 128 * 2 ^ (7 * i))) = ((acc + c % 128 * 128 ^ i : Nat) : Int) := by
  rw [← Wi.or_shl i acc (c % 128) hi (by omega) h9 ha, IntKind.wrap_u64]
  simp
theorem Wi.drop_get {t : List UInt8} {p : Nat} (h : p < t.length) : t.drop p = t[p] :: t.drop (p + 1) := List.drop_eq_getElem_cons h
set_option maxRecDepth 4000 in
set_option maxHeartbeats 2000000 in
theorem Tryz.rCount_any {w : World} {own : Nat → Prop} {x : Nat} {s : Rs} (h : Tryz.Rd w own x s) :
    Calls Tryz.prog 95 #[.pointer (some ⟨x, 0, none⟩)] w fun e w' => e = .returned (.int .u64 s.cnt.1) ∧ Tryz.RChg own w w' x s.cnt.2 := by
  obtain ⟨V, fv, hx, hbs, hV, hVo, hfv⟩ := h.ex
  have c0 := cell_of_row w x 0 _ _ _ hx
  have c1 := cell_of_row w x 1 _ _ _ hx
  have c2 := cell_of_row w x 2 _ _ _ hx
  have f1 := frozen_of_row w x 1 _ _ hx
  obtain ⟨ad, cap, rfl, hcap, hn, h1⟩ := hbs.ex
  clear hx hbs
  rcases hfv with ⟨hf, rfl⟩ | ⟨b, y, hf, rfl, hy, hyx, hyo⟩
  · obtain ⟨t, p, f⟩ := s
    simp only at hf c0 c1 hcap h1
    subst hf
    have hin : p ≤ t.length := h.inn
    have hlen := h.len
    simp only at hlen
    have hcnt : ∀ n k, rdC (t.drop p) 0 0 = .ok n k → (Rs.mk t p none).cnt = (n, ⟨t, p + k, none⟩) := fun n k e => by simp only [Rs.cnt, e]
    have hbad : ∀ k, rdC (t.drop p) 0 0 = .bad k → (Rs.mk t p none).cnt = (0, ⟨t, p, some (p + k)⟩) := fun k e => by simp only [Rs.cnt, e]
    have Hlen : Hid (t.length ≤ 140737488355328) := hlen
    by_cases hp : p < t.length
    · have hcell : ∃ g o, ad = some ⟨g, o, none⟩ ∧ ∀ j (hj : j < t.length), w.cell? ⟨g, o + j, none⟩ = some (.int .u8 (t[j].toNat : Nat)) := by
        rcases h1 with rfl | ⟨g, o, e, _, h2⟩
        · simp at hp
        · exact ⟨g, o, e, fun j hj => h2 j _ (Wi.byteCell hj)⟩
      obtain ⟨g, o, rfl, hcell⟩ := hcell
      have q1 : (p : Int) ≤ (t.length : Int) := by omega
      have q2 : (t.length : Int) ≤ (cap : Int) := by omega
      have q3 : ¬ (cap : Int) - (p : Int) = 0 := by omega
      have q4 : cap - p ≠ 0 := by omega
      clear hlen h1
      go_enter Tryz.func95, Tryz.ntmps95
      go_wp2
      go_region
      have HR : Hid (Tryz.Rd w.drew own x ⟨t, p, none⟩) := h.drewN 1
      have d1 : w.drew.cell? ⟨x, 1, none⟩ = some (.int .i64 p) := c1
      have d0 : w.drew.cell? ⟨x, 0, none⟩ = some (.slice (some ⟨g, o, none⟩) t.length cap) := c0
      have e1 : w.drew.frozen? ⟨x, 1, none⟩ = false := f1
      have hcell' : ∀ j (hj : j < t.length), w.drew.cell? ⟨g, o + j, none⟩ = some (.int .u8 (t[j].toNat : Nat)) := hcell
      have hwo : Wo (fun k => k = x) w w.drew := (Wo.refl _ w).drew
      have hs : w.drew.heap.size = w.heap.size := rfl
      generalize w.drew = wd at *
      clear hcell c0 c1 c2 f1 h q3 q4 hn
      go_wp2
      go_loopw [3, 4, 5, 6, 22] (fun a _ _ _ i wr => ∃ k acc : Nat, k ≤ t.length - p ∧ k ≤ 9 ∧ i = .int .i64 k ∧ a = .int .u64 acc ∧ acc < 128 ^ k ∧ rdC (t.drop p) 0 0 = rdC (t.drop (p + k)) k acc ∧ wr = wd) (fun _ _ _ _ i _ => t.length - p - (intOf i).toNat)
      case atStart => exact ⟨0, 0, by omega, by omega, rfl, rfl, by decide, rfl, rfl⟩
      case round =>
        obtain ⟨k, acc, hk, hk9, rfl, rfl, hacc, hrd, rfl⟩ := hrel
        have hfl : ∀ z : Int, z = ((p + k : Nat) : Int) → Calls Tryz.prog 97 #[.pointer (some ⟨x, 0, none⟩), .int .i64 z] wr fun e w' => (∃ v, e = .returned v) ∧ Tryz.RChg own wr w' x ⟨t, p, some (p + k)⟩ := fun z hz => by
          subst hz
          exact Tryz.fail_any HR.out (p + k) (by have := Hlen.out; omega)
        by_cases hkm : k < t.length - p
        · have q0 : (k : Int) < ((t.length - p : Nat) : Int) := by omega
          have hcl := hcell' (p + k) (by omega)
          rw [← Nat.add_assoc] at hcl
          rw [Wi.drop_get (show p + k < t.length by omega), rdC] at hrd
          have hc8 := (t[p + k]'(by omega)).toNat_lt
          generalize hcc : (t[p + k]'(by omega)).toNat = c at hcl hrd hc8
          clear hcc hcell'
          by_cases hl : c < 128
          · have q1 : (c : Int) < 128 := by omega
            by_cases hb1 : k = 9 ∧ 1 < c
            · obtain ⟨rfl, hc1⟩ := hb1
              have q2 : (1 : Int) < c := by omega
              rw [if_pos (.inl ⟨rfl, hc1⟩)] at hrd
              have hb := hbad _ hrd
              have Hb : Hid ((Rs.mk t p none).cnt = (0, ⟨t, p, some (p + 9)⟩)) := hb
              clear hb hrd hbad hcnt
              go_wp2_with (first | (go_at_call 97; refine (hfl _ (by have hL := Hlen.out; first | omega | (unfold wrap64; omega))).mono ?_; clear hfl; rintro e w2 ⟨⟨v, rfl⟩, hR⟩) | fail)
              go_ret
              rw [Hb.out]
              exact ⟨rfl, Tryz.RChg.trans hwo (fun k e => .inl e) hR⟩
            · by_cases hb2 : c = 0 ∧ 0 < k
              · obtain ⟨rfl, hk0⟩ := hb2
                rw [if_pos (.inr ⟨rfl, hk0⟩)] at hrd
                have Hb : Hid ((Rs.mk t p none).cnt = (0, ⟨t, p, some (p + k)⟩)) := hbad _ hrd
                have q4 : (0 : Int) < k := by omega
                clear hrd hbad hcnt
                by_cases h9 : k = 9
                · subst h9
                  go_wp2_with (first | (go_at_call 97; refine (hfl _ (by have hL := Hlen.out; first | omega | (unfold wrap64; omega))).mono ?_; clear hfl; rintro e w2 ⟨⟨v, rfl⟩, hR⟩) | fail)
                  go_ret
                  rw [Hb.out]
                  exact ⟨rfl, Tryz.RChg.trans hwo (fun k e => .inl e) hR⟩
                · have q5 : ¬ (k : Int) = 9 := by omega
                  go_wp2_with (first | (go_at_call 97; refine (hfl _ (by have hL := Hlen.out; first | omega | (unfold wrap64; omega))).mono ?_; clear hfl; rintro e w2 ⟨⟨v, rfl⟩, hR⟩) | fail)
                  go_ret
                  rw [Hb.out]
                  exact ⟨rfl, Tryz.RChg.trans hwo (fun k e => .inl e) hR⟩
              · rw [if_neg (by rintro (e | e); exact hb1 e; exact hb2 e), if_pos hl] at hrd
                have Hb : Hid ((Rs.mk t p none).cnt = (acc + c % 128 * 128 ^ k, ⟨t, p + (k + 1), none⟩)) := hcnt _ _ hrd
                have hor := Wi.or_shl k acc (c % 128) hk9 (by omega) (by omega) hacc
                have hor2 := Wi.or_shl2 k acc c hk9 (by omega) hacc
                have hR : ∀ z : Int, z = ((p + (k + 1) : Nat) : Int) → Tryz.RChg own wr (wr.setCell ⟨x, 1, none⟩ (.int .i64 z)) x ⟨t, p + (k + 1), none⟩ := fun z hz => HR.out.setP (p + (k + 1)) z hz (by simp only; omega)
                clear hrd hbad hcnt hfl
                by_cases h9 : k = 9
                · subst h9
                  have hc1 : c ≤ 1 := by omega
                  have q6 : ¬ (1 : Int) < c := by omega
                  have q7 : ¬ (c : Int) = 0 := by omega
                  clear hor2
                  have e9 : ((c % 128 : Nat) : Int) * 2 ^ (7 * 9) % 18446744073709551616 = (c : Int) % 128 * 9223372036854775808 := by
                    have : (2 : Int) ^ (7 * 9) = 9223372036854775808 := by decide
                    rw [this]; omega
                  rw [e9] at hor
                  have Hor : Hid (bits .or .u64 (acc : Int) ((c : Int) % 128 * 9223372036854775808) = ((acc + c % 128 * 128 ^ 9 : Nat) : Int)) := hor
                  clear e9 hor
                  go_wp2
                  go_ret
                  rw [Hb.out, Hor.out]
                  exact ⟨rfl, Tryz.RChg.trans hwo (fun k e => .inl e) (hR _ (by have hL := Hlen.out; first | omega | (unfold wrap64; omega)))⟩
                · have q5 : ¬ (k : Int) = 9 := by omega
                  have Hor := hor2
                  have Hor' : Hid (bits .or .u64 (acc : Int) (IntKind.u64.wrap ((c : Int) % 128 * 2 ^ (7 * k))) = ((acc + c % 128 * 128 ^ k : Nat) : Int)) := hor2
                  clear Hor hor hor2
                  by_cases hc0 : c = 0
                  · have hk0 : k = 0 := by omega
                    subst hk0
                    have hac : acc = 0 := by simp at hacc; exact hacc
                    subst hc0 hac
                    simp only [Nat.add_zero] at hcl
                    clear q0 q1 q5 Hor' hb1 hb2
                    have q0 : (0 : Int) < ((t.length - p : Nat) : Int) := by omega
                    go_wp2
                    go_ret
                    rw [Hb.out]
                    refine ⟨by first | rfl | (simp; rfl) | simp | (simp; decide), Tryz.RChg.trans hwo (fun k e => .inl e) (hR _ (by have hL := Hlen.out; first | omega | (unfold wrap64; omega)))⟩
                  · have q7 : ¬ (c : Int) = 0 := by omega
                    go_wp2
                    go_ret
                    rw [Hb.out, Hor'.out]
                    exact ⟨rfl, Tryz.RChg.trans hwo (fun k e => .inl e) (hR _ (by have hL := Hlen.out; first | omega | (unfold wrap64; omega)))⟩
          · have q1 : ¬ (c : Int) < 128 := by omega
            by_cases h9 : k = 9
            · subst h9
              have q2 : (1 : Int) < c := by omega
              rw [if_pos (.inl ⟨rfl, by omega⟩)] at hrd
              have Hb : Hid ((Rs.mk t p none).cnt = (0, ⟨t, p, some (p + 9)⟩)) := hbad _ hrd
              clear hrd hbad hcnt
              go_wp2_with (first | (go_at_call 97; refine (hfl _ (by have hL := Hlen.out; first | omega | (unfold wrap64; omega))).mono ?_; clear hfl; rintro e w2 ⟨⟨v, rfl⟩, hR⟩) | fail)
              go_ret
              rw [Hb.out]
              exact ⟨rfl, Tryz.RChg.trans hwo (fun k e => .inl e) hR⟩
            · have q5 : ¬ (k : Int) = 9 := by omega
              rw [if_neg (by omega), if_neg hl] at hrd
              have hor2 := Wi.or_shl2 k acc c hk9 (by omega) hacc
              clear hfl hbad hcnt
              go_wp2
              go_roundw
              case rel => 
                have h1 : c % 128 * 128 ^ k ≤ 127 * 128 ^ k := Nat.mul_le_mul_right _ (by omega)
                have h4 : 128 ^ k * 128 = 128 ^ (k + 1) := (Nat.pow_succ ..).symm
                exact ⟨k + 1, acc + c % 128 * 128 ^ k, by omega, by omega, by go_num, rfl, by omega, by rw [hrd, Nat.add_assoc], trivial⟩
              case measure => simp [intOf]; omega
        · have q0 : ¬ (k : Int) < ((t.length - p : Nat) : Int) := by omega
          have hkk : p + k = t.length := by omega
          rw [hkk, List.drop_of_length_le (Nat.le_refl _), rdC] at hrd
          have Hb : Hid ((Rs.mk t p none).cnt = (0, ⟨t, p, some (p + k)⟩)) := hbad _ hrd
          clear hrd hbad hcnt
          go_wp2_with (first | (go_at_call 97; refine (hfl _ (by have hL := Hlen.out; first | omega | (unfold wrap64; omega))).mono ?_; clear hfl; rintro e w2 ⟨⟨v, rfl⟩, hR⟩) | fail)
          go_ret
          rw [Hb.out]
          exact ⟨rfl, Tryz.RChg.trans hwo (fun k e => .inl e) hR⟩
    · have hpl : p = t.length := by omega
      have hb := hbad 0 (by rw [hpl, List.drop_of_length_le (Nat.le_refl _), rdC])
      have Hb : Hid ((Rs.mk t p none).cnt = (0, ⟨t, p, some (p + 0)⟩)) := hb
      have hfl : ∀ W : World, W = w.drew → Calls Tryz.prog 97 #[.pointer (some ⟨x, 0, none⟩), .int .i64 t.length] W fun e w' => (∃ v, e = .returned v) ∧ Tryz.RChg own w.drew w' x ⟨t, p, some (p + 0)⟩ := fun W hW => by
        subst hW
        rw [← hpl]
        exact Tryz.fail_any (h.drewN 1) p (by have := Hlen.out; omega)
      have hwo : Wo (fun k => k = x) w w.drew := (Wo.refl _ w).drew
      have q1 : (p : Int) ≤ (t.length : Int) := by omega
      have q2 : (t.length : Int) ≤ (cap : Int) := by omega
      have hz : t.length - p = 0 := by omega
      have Hpl : Hid (p = t.length) := hpl
      clear hb hbad hcnt hlen h1 hpl hp
      cases ad with
      | none =>
        have hc0 := hn rfl
        have hl0 : t.length = 0 := by omega
        have hp0 : p = 0 := by omega
        clear hn
        subst hp0 hc0
        rw [hl0] at c0 hfl
        clear q1 q2 hz hin hl0 hcap
        go_enter Tryz.func95, Tryz.ntmps95
        go_wp2
        go_region
        go_wp2
        go_loopw [22] (fun i wr => i = .int .i64 0 ∧ wr = w.drew) (fun _ _ => 0)
        case atStart => exact ⟨rfl, rfl⟩
        case round =>
          obtain ⟨rfl, rfl⟩ := hrel
          go_wp2_with (first | (go_at_call 97; refine (hfl _ rfl).mono ?_; clear hfl; rintro e w2 ⟨⟨v, rfl⟩, hR⟩) | fail)
          go_ret
          rw [Hb.out]
          exact ⟨rfl, Tryz.RChg.trans hwo (fun k e => .inl e) hR⟩
      | some d =>
        clear hn
        by_cases hcp : cap = p
        · have q3 : (cap : Int) - (p : Int) = 0 := by omega
          have q4 : cap - p = 0 := by omega
          clear hcp
          go_enter Tryz.func95, Tryz.ntmps95
          go_wp2
          go_region
          go_wp2
          go_loopw [22] (fun i wr => i = .int .i64 0 ∧ wr = w.drew) (fun _ _ => 0)
          case atStart => exact ⟨rfl, rfl⟩
          case round =>
            obtain ⟨rfl, rfl⟩ := hrel
            go_wp2_with (first | (go_at_call 97; refine (hfl _ rfl).mono ?_; clear hfl; rintro e w2 ⟨⟨v, rfl⟩, hR⟩) | fail)
            go_ret
            rw [Hb.out]
            exact ⟨rfl, Tryz.RChg.trans hwo (fun k e => .inl e) hR⟩
        · have q3 : ¬ (cap : Int) - (p : Int) = 0 := by omega
          have q4 : ¬ cap - p = 0 := by omega
          clear hcp
          go_enter Tryz.func95, Tryz.ntmps95
          go_wp2
          go_region
          go_wp2
          go_loopw [22] (fun i wr => i = .int .i64 0 ∧ wr = w.drew) (fun _ _ => 0)
          case atStart => exact ⟨rfl, rfl⟩
          case round =>
            obtain ⟨rfl, rfl⟩ := hrel
            go_wp2_with (first | (go_at_call 97; refine (hfl _ rfl).mono ?_; clear hfl; rintro e w2 ⟨⟨v, rfl⟩, hR⟩) | fail)
            go_ret
            rw [Hb.out]
            exact ⟨rfl, Tryz.RChg.trans hwo (fun k e => .inl e) hR⟩
  · have he : s.cnt = (0, s) := by unfold Rs.cnt; rw [hf]
    rw [he]
    have hR := Tryz.RChg.refl h
    clear he hf h hy h1
    go_enter Tryz.func95, Tryz.ntmps95
    go_wp2
    go_ret
    exact ⟨rfl, hR⟩
end Go.Proofs

namespace Go.Proofs
open Go.RowKit Go.Wi
theorem Wi.unzig_bits (m : Nat) (h : m < 18446744073709551616) : bits .xor .i64 ((m : Int) / 2) (-((m : Int) % 2)) = unzig m := by
  have e : unzig m = if m % 2 = 0 then (m : Int) / 2 else -((m : Int) / 2) - 1 := by unfold unzig; split <;> simp
  rw [e]
  by_cases h2 : m % 2 = 0
  · rw [show (m : Int) % 2 = 0 by omega, if_pos h2]
    exact Wi.xor0 _ (by omega) (by omega)
  · rw [show (m : Int) % 2 = 1 by omega, if_neg h2]
    exact Wi.xorm _ (by omega) (by omega)
theorem Wi.and1 (m : Nat) (h : m < 18446744073709551616) : bits .and .u64 (m : Int) 1 = (m : Int) % 2 := by
  have := u64_and_nat m 1 h (by decide)
  rw [nat_mask1] at this
  simpa using this
set_option maxHeartbeats 1000000 in
theorem Tryz.rInt_any {w : World} {own : Nat → Prop} {x : Nat} {s : Rs} (h : Tryz.Rd w own x s) :
    Calls Tryz.prog 88 #[.pointer (some ⟨x, 0, none⟩)] w fun e w' => e = .returned (.int .i64 s.int.1) ∧ Tryz.RChg own w w' x s.int.2 := by
  have h1 := Tryz.rCount_any h
  have h2 := (s.cnt_in h.inn).2.2
  have hu := Wi.unzig_bits _ h2
  have ha := Wi.and1 _ h2
  have Hi : Hid (s.int = (unzig s.cnt.1, s.cnt.2)) := rfl
  generalize s.cnt = c at *
  obtain ⟨n, s'⟩ := c
  simp only at h1 h2 hu ha
  have hw1 : IntKind.i64.wrap ((n : Int) / 2) = (n : Int) / 2 := by rw [IntKind.wrap_i64]; omega
  clear h2
  go_enter Tryz.func88, Tryz.ntmps88
  go_wp2_with (first | (go_at_call 95; refine h1.mono ?_; clear h1; rintro e w2 ⟨rfl, h2⟩) | fail)
  go_ret
  rw [Hi.out]
  exact ⟨rfl, h2⟩
/-- Bytes that lie somewhere, as a text. -/
theorem Tryz.conv_any {w : World} {g o : Nat} {cap : Nat} (l : List UInt8) (h : ∀ j (hj : j < l.length), w.cell? ⟨g, o + j, none⟩ = some (.int .u8 (l[j].toNat : Nat))) :
    (convert 29 9 (.slice (some ⟨g, o, none⟩) l.length cap)).run Tryz.prog w = .ok (.string ⟨l.toArray⟩) w := by
  have := run_convert_bytes_back (P := Tryz.prog) w 29 9 5 ⟨g, o, none⟩ cap l Tryz.underlying29 Tryz.underlying5 Tryz.underlying9 (fun j hj => by
    rw [Addr.add_mid, h j hj])
  simpa using this
set_option maxHeartbeats 2000000 in
theorem Tryz.rText_any {w : World} {own : Nat → Prop} {x : Nat} {s : Rs} (h : Tryz.Rd w own x s) :
    Calls Tryz.prog 87 #[.pointer (some ⟨x, 0, none⟩)] w fun e w' => e = .returned (.string ⟨s.text.1.toArray⟩) ∧ Tryz.RChg own w w' x s.text.2 := by
  have h1 := Tryz.rCount_any h
  obtain ⟨hin, ht, hlt⟩ := s.cnt_in h.inn
  have Ht : Hid (s.text = if s.cnt.2.t.length - s.cnt.2.p < s.cnt.1 then ([], s.cnt.2.fail s.cnt.2.p) else ((s.cnt.2.t.drop s.cnt.2.p).take s.cnt.1, { s.cnt.2 with p := s.cnt.2.p + s.cnt.1 })) := rfl
  have hlen := h.len
  generalize s.cnt = c at *
  obtain ⟨n, s'⟩ := c
  simp only at h1 hin ht hlt Ht
  unfold Rs.In at hin
  rw [← ht] at hlen
  have Hlen : Hid (s'.t.length ≤ 140737488355328) := hlen
  clear hlt ht hlen
  by_cases hc : s'.t.length - s'.p < n
  · have q1 : ((s'.t.length - s'.p : Nat) : Int) < (n : Int) := by omega
    have q2 : IntKind.u64.wrap ((s'.t.length - s'.p : Nat) : Int) = ((s'.t.length - s'.p : Nat) : Int) := by have := Hlen.out; rw [IntKind.wrap_u64]; omega
    have Ht2 : Hid (s.text = ([], s'.fail s'.p)) := by show _ = _; rw [Ht.out, if_pos hc]
    clear Ht hc
    go_enter Tryz.func87, Tryz.ntmps87
    go_wp2_with (first
      | (go_at_call 95; refine h1.mono ?_; clear h1; rintro e w2 ⟨rfl, h2⟩; obtain ⟨own1, hR, ho⟩ := h2.ex; have hl := Tryz.left_any hR; obtain ⟨V, fv, hx, -⟩ := hR.ex; have c1 := cell_of_row w2 x 1 _ _ _ hx; clear hx)
      | (go_at_call 96; refine hl.mono ?_; clear hl; rintro e w3 ⟨rfl, m, rfl⟩; have hfl := Tryz.fail_any (hR.drewN m) s'.p (by have := Hlen.out; omega))
      | (go_at_call 97; refine hfl.mono ?_; clear hfl; rintro e w4 ⟨⟨v, rfl⟩, h4⟩)
      | fail)
    go_ret
    rw [Ht2.out]
    exact ⟨rfl, Tryz.RChg.trans h2.wo ho (Tryz.RChg.trans ((Wo.refl _ w2).drewN m) (fun k e => .inl e) h4)⟩
  · have q1 : ¬ ((s'.t.length - s'.p : Nat) : Int) < (n : Int) := by omega
    have q2 : IntKind.u64.wrap ((s'.t.length - s'.p : Nat) : Int) = ((s'.t.length - s'.p : Nat) : Int) := by have := Hlen.out; rw [IntKind.wrap_u64]; omega
    have q3 : IntKind.i64.wrap (n : Int) = (n : Int) := by have := Hlen.out; rw [IntKind.wrap_i64]; omega
    have q4 : wrap64 ((s'.p : Int) + n) = ((s'.p + n : Nat) : Int) := by have := Hlen.out; unfold wrap64; omega
    have Ht2 : Hid (s.text = ((s'.t.drop s'.p).take n, { s' with p := s'.p + n })) := by show _ = _; rw [Ht.out, if_neg hc]
    clear Ht
    go_enter Tryz.func87, Tryz.ntmps87
    go_wp2_with (first
      | (go_at_call 95; refine h1.mono ?_; clear h1; rintro e w2 ⟨rfl, h2⟩; obtain ⟨own1, hR, ho⟩ := h2.ex; have hl := Tryz.left_any hR; obtain ⟨V, fv, hx, hbs, hV, hVo, -⟩ := hR.ex; have c0 := cell_of_row w2 x 0 _ _ _ hx; have c1 := cell_of_row w2 x 1 _ _ _ hx; have f1 := frozen_of_row w2 x 1 _ _ hx; clear hx)
      | (go_at_call 96; refine hl.mono ?_; clear hl; rintro e w3 ⟨rfl, m, rfl⟩)
      | fail)
    have HR : Hid (Tryz.RChg own w ((w2.drewN m).setCell ⟨x, 1, none⟩ (.int .i64 ((s'.p : Int) + (n : Int)))) x { s' with p := s'.p + n }) := Tryz.RChg.trans h2.wo ho (Tryz.RChg.trans ((Wo.refl _ w2).drewN m) (fun k e => .inl e) ((hR.drewN m).setP (s'.p + n) _ (by simp) (by omega)))
    obtain ⟨ad, cap, rfl, hcap, hn, hcs⟩ := hbs.ex
    have d0 : ((w2.drewN m).setCell ⟨x, 1, none⟩ (.int .i64 ((s'.p : Int) + (n : Int)))).cell? ⟨x, 0, none⟩ = some (.slice ad s'.t.length cap) := by rw [World.cell?_setCell_other _ _ _ _ (by simp)]; exact c0
    have d1 : ((w2.drewN m).setCell ⟨x, 1, none⟩ (.int .i64 ((s'.p : Int) + (n : Int)))).cell? ⟨x, 1, none⟩ = some (.int .i64 ((s'.p : Int) + (n : Int))) := World.cell?_setCell_same' _ _ _ (by rw [show (w2.drewN m).cell? ⟨x, 1, none⟩ = _ from c1]; rfl)
    have hcell : n = 0 ∨ ∃ g o, ad = some ⟨g, o, none⟩ ∧ n ≠ 0 ∧ ∀ j (hj : j < s'.t.length), ((w2.drewN m).setCell ⟨x, 1, none⟩ (.int .i64 ((s'.p : Int) + (n : Int)))).cell? ⟨g, o + j, none⟩ = some (.int .u8 (s'.t[j].toNat : Nat)) := by
      by_cases hn0 : n = 0
      · exact .inl hn0
      · rcases hcs with e | ⟨g, o, e, _, hc2⟩
        · rw [e] at hc hin; simp at hc hin; omega
        · refine .inr ⟨g, o, e, hn0, fun j hj => ?_⟩
          have hgx : g ≠ x := fun e1 => hV (by rw [e, e1]; rfl)
          rw [World.cell?_setCell_other _ _ _ _ (by simp)]
          exact hc2 j _ (Wi.byteCell hj)
    generalize (w2.drewN m).setCell ⟨x, 1, none⟩ (.int .i64 ((s'.p : Int) + (n : Int))) = W2 at *
    clear c0 c1 f1 hR h2 ho h hV hVo hbs hcs q2 q3 q4
    rcases hcell with hn0 | ⟨g, o, rfl, hn1, hcell⟩
    · subst hn0
      have hcv : ∀ (k : Nat) (a : Option Addr) (c : Nat), (convert 29 9 (.slice a 0 c)).run Tryz.prog (W2.drewN k) = .ok (.string ⟨#[]⟩) (W2.drewN k) := fun k a c => run_convert_bytes_zero (P := Tryz.prog) _ 29 5 Tryz.underlying29 Tryz.underlying5 a c 9 Tryz.underlying9
      have q6 : (s'.p : Int) ≤ (cap : Int) := by omega
      have q7 : ((s'.p : Int) + ((0 : Nat) : Int)) = s'.p := by simp
      rw [q7] at d1
      have q8 : (s'.p : Int).toNat - s'.p = 0 := by simp
      cases ad with
      | none =>
        have hc0 := hn rfl
        have hp0 : s'.p = 0 := by omega
        have hl0 : s'.t.length = 0 := by omega
        rw [hc0, hl0] at d0
        rw [hp0] at d1 ⊢
        clear hn q6 q7 q8 hp0 hl0 hc0 hcap hc q1 hin
        go_quiet (fail)
        go_wp2
        go_ret
        rw [Ht2.out]
        exact ⟨rfl, HR.out.drewN _⟩
      | some d =>
        clear hn
        go_quiet (fail)
        go_wp2
        all_goals
          go_ret
          rw [Ht2.out]
          exact ⟨rfl, HR.out.drewN _⟩
    · by_cases hn0 : n = 0
      · exact absurd hn0 hn1
      · have hne : ¬ cap = s'.p := by omega
        have hcv : ∀ k, (convert 29 9 (.slice (some ⟨g, o + s'.p, none⟩) n (cap - s'.p))).run Tryz.prog (W2.drewN k) = .ok (.string ⟨((s'.t.drop s'.p).take n).toArray⟩) (W2.drewN k) := fun k => by
          have hl : ((s'.t.drop s'.p).take n).length = n := by rw [List.length_take, List.length_drop]; omega
          have := Tryz.conv_any (w := W2.drewN k) (g := g) (o := o + s'.p) (cap := cap - s'.p) ((s'.t.drop s'.p).take n) (fun j hj => by
            rw [hl] at hj
            show W2.cell? _ = _
            rw [Nat.add_assoc, hcell (s'.p + j) (by omega)]
            simp)
          rw [hl] at this
          exact this
        have q5 : (s'.p : Int) ≤ (s'.p : Int) + (n : Int) := by omega
        have q6 : (s'.p : Int) + (n : Int) ≤ (cap : Int) := by omega
        have q7 : ((s'.p : Int) + (n : Int)).toNat - s'.p = n := by omega
        clear hcell
        go_quiet (fail)
        go_wp2
        go_ret
        rw [Ht2.out]
        exact ⟨rfl, HR.out.drewN _⟩
end Go.Proofs

namespace Go.Wi
theorem shown_l : (([] ++ cnt (zig (-65))) ++ (cnt 2 ++ [97, 98])) ++ [if true then 1 else 0] = ([129, 1, 2, 97, 98, 1] : List UInt8) := by
  have h1 : zig (-65) = 129 := rfl
  rw [h1, cnt_ge (by decide), show 129 / 128 = 1 from rfl, cnt_lt (by decide), cnt_lt (by decide)]
  rfl
def shL : List UInt8 := [129, 1, 2, 97, 98, 1]
theorem shown_1 : (Rs.mk shL 0 none).int = (-65, ⟨shL, 2, none⟩) := rfl
theorem shown_2 : (Rs.mk shL 2 none).text = ([97, 98], ⟨shL, 5, none⟩) := rfl
theorem shown_3 : (Rs.mk shL 5 none).flag = (true, ⟨shL, 6, none⟩) := rfl
theorem shown_4 : (Rs.mk shL 6 none).fin = true := rfl
theorem shown_5 : sum [49, 50, 51, 52, 53, 54, 55, 56, 57] = 3808858755 := by kernel_rfl
end Go.Wi
namespace Go.Proofs
open Go.RowKit Go.Wi
/-- A writer above a floor, below which all is as it was. -/
structure Tryz.WB (B : Nat) (w0 w : World) (x : Nat) (l : List UInt8) : Prop where
  ex : ∃ own, Tryz.Wt 132 w own x l ∧ ∀ k, own k → B ≤ k
  bel : Below B w0 w
theorem Tryz.WB.le {B : Nat} {w0 w : World} {x : Nat} {l : List UInt8} (h : Tryz.WB B w0 w x l) : B ≤ w.heap.size := by
  obtain ⟨own, h1, h2⟩ := h.ex
  exact Nat.le_of_lt (Nat.lt_of_le_of_lt (h2 x h1.ox) (h1.lt x h1.ox))
theorem Tryz.WB.chg {B : Nat} {w0 w w' : World} {x : Nat} {l l' : List UInt8} {own : Nat → Prop} (h : Tryz.WB B w0 w x l) (ho : ∀ k, own k → B ≤ k) (hc : Tryz.WChg 132 own w w' x l') : Tryz.WB B w0 w' x l' := by
  obtain ⟨own', h1, h2⟩ := hc.ex
  have hle := h.le
  refine ⟨⟨own', h1, fun k e => ?_⟩, Wo.toBelow h.bel hc.wo ho hle⟩
  rcases h2 k e with e1 | e1
  · exact ho k e1
  · omega
theorem Tryz.WB.below {B : Nat} {w0 w w' : World} {x : Nat} {l : List UInt8} (h : Tryz.WB B w0 w x l) (g : Below w.heap.size w w') : Tryz.WB B w0 w' x l := by
  obtain ⟨own, h1, h2⟩ := h.ex
  exact ⟨⟨own, h1.below g, h2⟩, h.bel.trans (g.mono h.le)⟩
theorem Tryz.WB.new (w : World) : Calls Tryz.prog 49 #[] w fun e w' => ∃ x, e = .returned (.pointer (some ⟨x, 0, none⟩)) ∧ Tryz.WB w.heap.size w w' x [] :=
  (Tryz.newWriter_any w).mono fun _ _ ⟨x, h1, h2, h3⟩ => ⟨x, h1, ⟨⟨_, h2, fun _ e => e.1⟩, h3⟩⟩
theorem Tryz.WB.int {B : Nat} {w0 w : World} {x : Nat} {l : List UInt8} (h : Tryz.WB B w0 w x l) (n : Int) (hn1 : -9223372036854775808 ≤ n) (hn2 : n ≤ 9223372036854775807) (hlen : l.length ≤ 140737488355300) :
    Calls Tryz.prog 51 #[.pointer (some ⟨x, 0, none⟩), .int .i64 n] w fun e w' => (∃ v, e = .returned v) ∧ Tryz.WB B w0 w' x (l ++ cnt (zig n)) := by
  obtain ⟨own, h1, h2⟩ := h.ex
  exact (Tryz.wInt_any h1 n hn1 hn2 hlen).mono fun _ _ ⟨e1, e2⟩ => ⟨e1, h.chg h2 e2⟩
theorem Tryz.WB.text {B : Nat} {w0 w : World} {x : Nat} {l : List UInt8} (h : Tryz.WB B w0 w x l) (t : ByteArray) (hlen : l.length + t.size ≤ 140737488355290) :
    Calls Tryz.prog 50 #[.pointer (some ⟨x, 0, none⟩), .string t] w fun e w' => (∃ v, e = .returned v) ∧ Tryz.WB B w0 w' x (l ++ (cnt t.size ++ t.data.toList)) := by
  obtain ⟨own, h1, h2⟩ := h.ex
  exact (Tryz.wText_any h1 t hlen).mono fun _ _ ⟨e1, e2⟩ => ⟨e1, h.chg h2 e2⟩
theorem Tryz.WB.bytes {B : Nat} {w0 w : World} {x : Nat} {l : List UInt8} (h : Tryz.WB B w0 w x l) (hlen : l.length ≤ 140737488355328) :
    Calls Tryz.prog 52 #[.pointer (some ⟨x, 0, none⟩)] w fun e w' => ∃ ad cap, e = .returned (.slice ad l.length cap) ∧ w'.ownsRow w.heap.size 5 1 (.slice ad l.length cap) l.length (Lib.byteCells l) ∧ Below w.heap.size w w' := by
  obtain ⟨own, h1, h2⟩ := h.ex
  exact Tryz.wBytes_any h1 hlen
/-- A reader above a floor. -/
structure Tryz.RB (B : Nat) (w0 w : World) (x : Nat) (s : Rs) : Prop where
  ex : ∃ own, Tryz.Rd w own x s ∧ ∀ k, own k → B ≤ k
  bel : Below B w0 w
theorem Tryz.RB.le {B : Nat} {w0 w : World} {x : Nat} {s : Rs} (h : Tryz.RB B w0 w x s) : B ≤ w.heap.size := by
  obtain ⟨own, h1, h2⟩ := h.ex
  exact Nat.le_of_lt (Nat.lt_of_le_of_lt (h2 x h1.ox) (h1.lt x h1.ox))
theorem Tryz.RB.chg {B : Nat} {w0 w w' : World} {x : Nat} {s s' : Rs} {own : Nat → Prop} (h : Tryz.RB B w0 w x s) (hx : B ≤ x) (ho : ∀ k, own k → B ≤ k) (hc : Tryz.RChg own w w' x s') : Tryz.RB B w0 w' x s' := by
  obtain ⟨own', h1, h2⟩ := hc.ex
  have hle := h.le
  refine ⟨⟨own', h1, fun k e => ?_⟩, Wo.toBelow h.bel hc.wo (fun k e => by omega) hle⟩
  rcases h2 k e with e1 | e1
  · exact ho k e1
  · omega
theorem Tryz.RB.below {B : Nat} {w0 w w' : World} {x : Nat} {s : Rs} (h : Tryz.RB B w0 w x s) (g : Below w.heap.size w w') : Tryz.RB B w0 w' x s := by
  obtain ⟨own, h1, h2⟩ := h.ex
  exact ⟨⟨own, h1.below g, h2⟩, h.bel.trans (g.mono h.le)⟩
theorem Tryz.RB.drewN {B : Nat} {w0 w : World} {x : Nat} {s : Rs} (h : Tryz.RB B w0 w x s) (n : Nat) : Tryz.RB B w0 (w.drewN n) x s := by
  obtain ⟨own, h1, h2⟩ := h.ex
  exact ⟨⟨own, h1.drewN n, h2⟩, belowN h.bel n⟩
theorem Tryz.RB.new {w : World} {v : Value} {l : List UInt8} (h : Bs w v l) (hlen : l.length ≤ 140737488355328) : Calls Tryz.prog 86 #[v] w fun e w' => ∃ x, e = .returned (.pointer (some ⟨x, 0, none⟩)) ∧ Tryz.RB w.heap.size w w' x ⟨l, 0, none⟩ :=
  (Tryz.newReader_any h hlen).mono fun _ _ ⟨x, h1, h2, h3⟩ => ⟨x, h1, ⟨⟨_, h2, fun _ e => e.1⟩, h3⟩⟩
theorem Tryz.RB.int {B : Nat} {w0 w : World} {x : Nat} {s : Rs} (h : Tryz.RB B w0 w x s) :
    Calls Tryz.prog 88 #[.pointer (some ⟨x, 0, none⟩)] w fun e w' => e = .returned (.int .i64 s.int.1) ∧ Tryz.RB B w0 w' x s.int.2 := by
  obtain ⟨own, h1, h2⟩ := h.ex
  exact (Tryz.rInt_any h1).mono fun _ _ ⟨e1, e2⟩ => ⟨e1, h.chg (h2 x h1.ox) h2 e2⟩
theorem Tryz.RB.text {B : Nat} {w0 w : World} {x : Nat} {s : Rs} (h : Tryz.RB B w0 w x s) :
    Calls Tryz.prog 87 #[.pointer (some ⟨x, 0, none⟩)] w fun e w' => e = .returned (.string ⟨s.text.1.toArray⟩) ∧ Tryz.RB B w0 w' x s.text.2 := by
  obtain ⟨own, h1, h2⟩ := h.ex
  exact (Tryz.rText_any h1).mono fun _ _ ⟨e1, e2⟩ => ⟨e1, h.chg (h2 x h1.ox) h2 e2⟩
theorem Tryz.RB.fin {B : Nat} {w0 w : World} {x : Nat} {s : Rs} (h : Tryz.RB B w0 w x s) :
    Calls Tryz.prog 89 #[.pointer (some ⟨x, 0, none⟩)] w fun e w' => e = .returned (.bool s.fin) ∧ Tryz.RB B w0 w' x s := by
  obtain ⟨own, h1, h2⟩ := h.ex
  exact (Tryz.end_any h1).mono fun _ _ ⟨e1, n, e2⟩ => ⟨e1, by rw [e2]; exact h.drewN n⟩
/-- A row that was given out, as a text. -/
theorem Tryz.wConv_bs {w : World} {v : Value} {l : List UInt8} (h : Bs w v l) : (convert 29 9 v).run Tryz.prog w = .ok (.string ⟨l.toArray⟩) w := by
  obtain ⟨ad, cap, rfl, hcap, hn, h1⟩ := h.ex
  rcases h1 with rfl | ⟨g, o, rfl, _, h2⟩
  · exact run_convert_bytes_zero (P := Tryz.prog) _ 29 5 Tryz.underlying29 Tryz.underlying5 ad cap 9 Tryz.underlying9
  · exact Tryz.conv_any l fun j hj => h2 j _ (Wi.byteCell hj)
theorem Wi.bs_const (w : World) (T : TypeId) (l : List UInt8) (fr : Nat × Nat) : Bs (w.alloc (.cells (Lib.byteCells l).toArray T fr)) (.slice (some ⟨w.heap.size, 0, none⟩) l.length l.length) l := by
  refine ⟨some ⟨w.heap.size, 0, none⟩, l.length, rfl, Nat.le_refl _, (fun e => by cases e), .inr ⟨w.heap.size, 0, rfl, by simp, fun j u hu => ?_⟩⟩
  rw [World.cell?_alloc_mark]
  simpa using hu
end Go.Proofs
