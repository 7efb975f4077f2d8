/-
  A READER: Int, Flag, Text.
-/
import Derived.Test.YtghpbagmpgphfaaVi
import Derived.Laws.BytesString
import Derived.Deep.QuietTactic
namespace Go.Proofs
open Go.RowKit Go.Wi
theorem Wi.unzig_bits (m : Nat) (h : m < 18446744073709551616) : bits .xor .i64 ((m : Int) / 2) (-((m : Int) % 2)) = unzig m := by
  have e : unzig m = if m % 2 = 0 then (m : Int) / 2 else -((m : Int) / 2) - 1 := by unfold unzig; split <;> simp
  rw [e]
  by_cases h2 : m % 2 = 0
  · rw [show (m : Int) % 2 = 0 by omega, if_pos h2]
    exact Wi.xor0 _ (by omega) (by omega)
  · rw [show (m : Int) % 2 = 1 by omega, if_neg h2]
    exact Wi.xorm _ (by omega) (by omega)
theorem Wi.and1 (m : Nat) (h : m < 18446744073709551616) : bits .and .u64 (m : Int) 1 = (m : Int) % 2 := by
  have := u64_and_nat m 1 h (by decide)
  rw [nat_mask1] at this
  simpa using this
set_option maxHeartbeats 1000000 in
theorem Try.rInt_any {w : World} {own : Nat → Prop} {x : Nat} {s : Rs} (h : Try.Rd w own x s) :
    Calls Try.prog 15 #[.pointer (some ⟨x, 0, none⟩)] w fun e w' => e = .returned (.int .i64 s.int.1) ∧ Try.RChg own w w' x s.int.2 := by
  have h1 := Try.rCount_any h
  have h2 := (s.cnt_in h.inn).2.2
  have hu := Wi.unzig_bits _ h2
  have ha := Wi.and1 _ h2
  have Hi : Hid (s.int = (unzig s.cnt.1, s.cnt.2)) := rfl
  generalize s.cnt = c at *
  obtain ⟨n, s'⟩ := c
  simp only at h1 h2 hu ha
  have hw1 : IntKind.i64.wrap ((n : Int) / 2) = (n : Int) / 2 := by rw [IntKind.wrap_i64]; omega
  clear h2
  go_enter Try.func15, Try.ntmps15
  go_wp2_with (first | (go_at_call 31; refine h1.mono ?_; clear h1; rintro e w2 ⟨rfl, h2⟩) | fail)
  go_ret
  rw [Hi.out]
  exact ⟨rfl, h2⟩
set_option maxHeartbeats 2000000 in
theorem Try.rFlag_any {w : World} {own : Nat → Prop} {x : Nat} {s : Rs} (h : Try.Rd w own x s) :
    Calls Try.prog 17 #[.pointer (some ⟨x, 0, none⟩)] w fun e w' => e = .returned (.bool s.flag.1) ∧ Try.RChg own w w' x s.flag.2 := by
  obtain ⟨V, fv, hx, hbs, hV, hVo, hfv⟩ := h.ex
  have c0 := cell_of_row w x 0 _ _ _ hx
  have c1 := cell_of_row w x 1 _ _ _ hx
  have c2 := cell_of_row w x 2 _ _ _ hx
  have f1 := frozen_of_row w x 1 _ _ hx
  obtain ⟨ad, cap, rfl, hcap, hn, h1⟩ := hbs.ex
  clear hx hbs
  rcases hfv with ⟨hf, rfl⟩ | ⟨b, y, hf, rfl, hy, hyx, hyo⟩
  · obtain ⟨t, p, f⟩ := s
    simp only at hf c0 c1 hcap h1
    subst hf
    have hin : p ≤ t.length := h.inn
    have hlen := h.len
    simp only at hlen
    have Hlen : Hid (t.length ≤ 140737488355328) := hlen
    have hl : ∀ n, Calls Try.prog 32 #[.pointer (some ⟨x, 0, none⟩)] (w.drewN n) fun e w' => e = .returned (.int .i64 (t.length - p : Nat)) ∧ ∃ m, w' = (w.drewN n).drewN m := fun n => Try.left_any (h.drewN n)
    have hfl : ∀ n z, z = (p : Int) → Calls Try.prog 33 #[.pointer (some ⟨x, 0, none⟩), .int .i64 z] (w.drewN n) fun e w' => (∃ v, e = .returned v) ∧ Try.RChg own w w' x ⟨t, p, some p⟩ := fun n z hz => by
      subst hz
      refine (Try.fail_any (h.drewN n) p (by have := Hlen.out; omega)).mono fun e w' ⟨h1, h2⟩ => ⟨h1, Try.RChg.trans ((Wo.refl _ w).drewN n) (fun k e => .inl e) h2⟩
    clear hlen
    by_cases hp : p < t.length
    · have hcell : ∃ g o, ad = some ⟨g, o, none⟩ ∧ w.cell? ⟨g, o + p, none⟩ = some (.int .u8 (t[p].toNat : Nat)) := by
        rcases h1 with rfl | ⟨g, o, e, _, h2⟩
        · simp at hp
        · exact ⟨g, o, e, h2 p _ (Wi.byteCell hp)⟩
      obtain ⟨g, o, rfl, hcell⟩ := hcell
      have q1 : (p : Int) < (t.length : Int) := by omega
      have hz : (((t.length - p : Nat) : Int) == 0) = false := by simp; omega
      have hgx : g ≠ x := fun e => hV (by rw [e]; rfl)
      have hfg : (Rs.mk t p none).flag = if t[p].toNat ≤ 1 then (t[p].toNat == 1, ⟨t, p + 1, none⟩) else (false, ⟨t, p, some p⟩) := by simp only [Rs.flag, hp, dif_pos]
      have hc8 := t[p].toNat_lt
      generalize t[p].toNat = c at *
      generalize t.length - p = lf at *
      clear h1 hn hV hVo
      go_enter Try.func17, Try.ntmps17
      by_cases hc1 : c ≤ 1
      · have q2 : ¬ (1 : Int) < (c : Int) := by omega
        rw [if_pos hc1] at hfg
        have Hfg : Hid ((Rs.mk t p none).flag = (c == 1, ⟨t, p + 1, none⟩)) := hfg
        clear hfg hfl
        go_wp2
        go_quiet ((go_at_call 32; exact Calls.quiet_of (hl _)))
        go_wp2
        have hw1 : wrap64 ((p : Int) + 1) = ((p + 1 : Nat) : Int) := by have := Hlen.out; unfold wrap64; omega
        have hw2 : wrap64 (((p + 1 : Nat) : Int) - 1) = (p : Int) := by have := Hlen.out; unfold wrap64; omega
        rw [hw1]
        have HR : Hid (Try.RChg own w ((w.drewN nq).setCell ⟨x, 1, none⟩ (.int .i64 ((p + 1 : Nat) : Int))) x ⟨t, p + 1, none⟩) := Try.RChg.trans ((Wo.refl _ w).drewN nq) (fun k e => .inl e) ((h.drewN nq).setP (p + 1) _ rfl (by simp only; omega))
        have d0 : ((w.drewN nq).setCell ⟨x, 1, none⟩ (.int .i64 ((p + 1 : Nat) : Int))).cell? ⟨x, 0, none⟩ = some (.slice (some ⟨g, o, none⟩) t.length cap) := by rw [World.cell?_setCell_other _ _ _ _ (by simp)]; exact c0
        have d1 : ((w.drewN nq).setCell ⟨x, 1, none⟩ (.int .i64 ((p + 1 : Nat) : Int))).cell? ⟨x, 1, none⟩ = some (.int .i64 ((p + 1 : Nat) : Int)) := World.cell?_setCell_same' _ _ _ (by rw [show (w.drewN nq).cell? ⟨x, 1, none⟩ = _ from c1]; rfl)
        have d2 : ((w.drewN nq).setCell ⟨x, 1, none⟩ (.int .i64 ((p + 1 : Nat) : Int))).cell? ⟨g, o + p, none⟩ = some (.int .u8 c) := by rw [World.cell?_setCell_other _ _ _ _ (by simp)]; exact hcell
        generalize (w.drewN nq).setCell ⟨x, 1, none⟩ (.int .i64 ((p + 1 : Nat) : Int)) = W2 at *
        clear c0 c1 c2 hcell f1 hl h hw1
        generalize hpp : ((p + 1 : Nat) : Int) = z at *
        clear hpp
        go_quiet (fail)
        go_wp2
        go_ret
        rw [Hfg.out]
        refine ⟨?_, HR.out.drewN _⟩
        have hc01 : c = 0 ∨ c = 1 := by omega
        rcases hc01 with rfl | rfl <;> rfl
      · have q2 : (1 : Int) < (c : Int) := by omega
        rw [if_neg hc1] at hfg
        have Hfg : Hid ((Rs.mk t p none).flag = (false, ⟨t, p, some p⟩)) := hfg
        clear hfg
        go_wp2
        go_quiet ((go_at_call 32; exact Calls.quiet_of (hl _)))
        go_wp2_with (first | (go_at_call 33; refine (hfl nq _ (by rfl)).mono ?_; clear hfl; rintro e w2 ⟨⟨v, rfl⟩, hR⟩) | fail)
        go_ret
        rw [Hfg.out]
        exact ⟨rfl, hR⟩
    · have hfg : (Rs.mk t p none).flag = (false, ⟨t, p, some p⟩) := by simp only [Rs.flag, hp, dif_neg, not_false_iff]
      have Hfg : Hid ((Rs.mk t p none).flag = (false, ⟨t, p, some p⟩)) := hfg
      have hz : t.length - p = 0 := by omega
      rw [hz] at hl
      clear hfg h1 hn hz hp
      go_enter Try.func17, Try.ntmps17
      go_wp2
      go_quiet ((go_at_call 32; exact Calls.quiet_of (hl _)))
      go_wp2_with (first | (go_at_call 33; refine (hfl nq _ (by rfl)).mono ?_; clear hfl; rintro e w2 ⟨⟨v, rfl⟩, hR⟩) | fail)
      go_ret
      rw [Hfg.out]
      exact ⟨rfl, hR⟩
  · have he : s.flag = (false, s) := by unfold Rs.flag; rw [hf]
    rw [he]
    have hR := Try.RChg.refl h
    clear he hf h hy h1
    go_enter Try.func17, Try.ntmps17
    go_wp2
    go_ret
    exact ⟨rfl, hR⟩
/-- No byte, wherever it might lie, is the text of no sign. -/
theorem Try.conv_zero (w : World) (a : Option Addr) (c : Nat) : (convert 22 9 (.slice a 0 c)).run Try.prog w = .ok (.string ⟨#[]⟩) w := by
  have h := run_convert_bytes_string (P := Try.prog) w 22 9 5 a 0 c Try.underlying22 Try.underlying5 Try.underlying9
  cases a with
  | none => exact h
  | some d => exact h
/-- Bytes that lie somewhere, as a text. -/
theorem Try.conv_any {w : World} {g o : Nat} {cap : Nat} (l : List UInt8) (h : ∀ j (hj : j < l.length), w.cell? ⟨g, o + j, none⟩ = some (.int .u8 (l[j].toNat : Nat))) :
    (convert 22 9 (.slice (some ⟨g, o, none⟩) l.length cap)).run Try.prog w = .ok (.string ⟨l.toArray⟩) w := by
  have := run_convert_bytes_back (P := Try.prog) w 22 9 5 ⟨g, o, none⟩ cap l Try.underlying22 Try.underlying5 Try.underlying9 (fun j hj => by
    rw [Addr.add_mid, h j hj])
  simpa using this
set_option maxHeartbeats 2000000 in
theorem Try.rText_any {w : World} {own : Nat → Prop} {x : Nat} {s : Rs} (h : Try.Rd w own x s) :
    Calls Try.prog 16 #[.pointer (some ⟨x, 0, none⟩)] w fun e w' => e = .returned (.string ⟨s.text.1.toArray⟩) ∧ Try.RChg own w w' x s.text.2 := by
  have h1 := Try.rCount_any h
  obtain ⟨hin, ht, hlt⟩ := s.cnt_in h.inn
  have Ht : Hid (s.text = if s.cnt.2.t.length - s.cnt.2.p < s.cnt.1 then ([], s.cnt.2.fail s.cnt.2.p) else ((s.cnt.2.t.drop s.cnt.2.p).take s.cnt.1, { s.cnt.2 with p := s.cnt.2.p + s.cnt.1 })) := rfl
  have hlen := h.len
  generalize s.cnt = c at *
  obtain ⟨n, s'⟩ := c
  simp only at h1 hin ht hlt Ht
  unfold Rs.In at hin
  rw [← ht] at hlen
  have Hlen : Hid (s'.t.length ≤ 140737488355328) := hlen
  clear hlt ht hlen
  by_cases hc : s'.t.length - s'.p < n
  · have q1 : ((s'.t.length - s'.p : Nat) : Int) < (n : Int) := by omega
    have q2 : IntKind.u64.wrap ((s'.t.length - s'.p : Nat) : Int) = ((s'.t.length - s'.p : Nat) : Int) := by have := Hlen.out; rw [IntKind.wrap_u64]; omega
    have Ht2 : Hid (s.text = ([], s'.fail s'.p)) := by show _ = _; rw [Ht.out, if_pos hc]
    clear Ht hc
    go_enter Try.func16, Try.ntmps16
    go_wp2_with (first
      | (go_at_call 31; refine h1.mono ?_; clear h1; rintro e w2 ⟨rfl, h2⟩; obtain ⟨own1, hR, ho⟩ := h2.ex; have hl := Try.left_any hR; obtain ⟨V, fv, hx, -⟩ := hR.ex; have c1 := cell_of_row w2 x 1 _ _ _ hx; clear hx)
      | (go_at_call 32; refine hl.mono ?_; clear hl; rintro e w3 ⟨rfl, m, rfl⟩; have hfl := Try.fail_any (hR.drewN m) s'.p (by have := Hlen.out; omega))
      | (go_at_call 33; refine hfl.mono ?_; clear hfl; rintro e w4 ⟨⟨v, rfl⟩, h4⟩)
      | fail)
    go_ret
    rw [Ht2.out]
    exact ⟨rfl, Try.RChg.trans h2.wo ho (Try.RChg.trans ((Wo.refl _ w2).drewN m) (fun k e => .inl e) h4)⟩
  · have q1 : ¬ ((s'.t.length - s'.p : Nat) : Int) < (n : Int) := by omega
    have q2 : IntKind.u64.wrap ((s'.t.length - s'.p : Nat) : Int) = ((s'.t.length - s'.p : Nat) : Int) := by have := Hlen.out; rw [IntKind.wrap_u64]; omega
    have q3 : IntKind.i64.wrap (n : Int) = (n : Int) := by have := Hlen.out; rw [IntKind.wrap_i64]; omega
    have q4 : wrap64 ((s'.p : Int) + n) = ((s'.p + n : Nat) : Int) := by have := Hlen.out; unfold wrap64; omega
    have Ht2 : Hid (s.text = ((s'.t.drop s'.p).take n, { s' with p := s'.p + n })) := by show _ = _; rw [Ht.out, if_neg hc]
    clear Ht
    go_enter Try.func16, Try.ntmps16
    go_wp2_with (first
      | (go_at_call 31; refine h1.mono ?_; clear h1; rintro e w2 ⟨rfl, h2⟩; obtain ⟨own1, hR, ho⟩ := h2.ex; have hl := Try.left_any hR; obtain ⟨V, fv, hx, hbs, hV, hVo, -⟩ := hR.ex; have c0 := cell_of_row w2 x 0 _ _ _ hx; have c1 := cell_of_row w2 x 1 _ _ _ hx; have f1 := frozen_of_row w2 x 1 _ _ hx; clear hx)
      | (go_at_call 32; refine hl.mono ?_; clear hl; rintro e w3 ⟨rfl, m, rfl⟩)
      | fail)
    have HR : Hid (Try.RChg own w ((w2.drewN m).setCell ⟨x, 1, none⟩ (.int .i64 ((s'.p : Int) + (n : Int)))) x { s' with p := s'.p + n }) := Try.RChg.trans h2.wo ho (Try.RChg.trans ((Wo.refl _ w2).drewN m) (fun k e => .inl e) ((hR.drewN m).setP (s'.p + n) _ (by simp) (by omega)))
    obtain ⟨ad, cap, rfl, hcap, hn, hcs⟩ := hbs.ex
    have d0 : ((w2.drewN m).setCell ⟨x, 1, none⟩ (.int .i64 ((s'.p : Int) + (n : Int)))).cell? ⟨x, 0, none⟩ = some (.slice ad s'.t.length cap) := by rw [World.cell?_setCell_other _ _ _ _ (by simp)]; exact c0
    have d1 : ((w2.drewN m).setCell ⟨x, 1, none⟩ (.int .i64 ((s'.p : Int) + (n : Int)))).cell? ⟨x, 1, none⟩ = some (.int .i64 ((s'.p : Int) + (n : Int))) := World.cell?_setCell_same' _ _ _ (by rw [show (w2.drewN m).cell? ⟨x, 1, none⟩ = _ from c1]; rfl)
    have hcell : n = 0 ∨ ∃ g o, ad = some ⟨g, o, none⟩ ∧ n ≠ 0 ∧ ∀ j (hj : j < s'.t.length), ((w2.drewN m).setCell ⟨x, 1, none⟩ (.int .i64 ((s'.p : Int) + (n : Int)))).cell? ⟨g, o + j, none⟩ = some (.int .u8 (s'.t[j].toNat : Nat)) := by
      by_cases hn0 : n = 0
      · exact .inl hn0
      · rcases hcs with e | ⟨g, o, e, _, hc2⟩
        · rw [e] at hc hin; simp at hc hin; omega
        · refine .inr ⟨g, o, e, hn0, fun j hj => ?_⟩
          have hgx : g ≠ x := fun e1 => hV (by rw [e, e1]; rfl)
          rw [World.cell?_setCell_other _ _ _ _ (by simp)]
          exact hc2 j _ (Wi.byteCell hj)
    generalize (w2.drewN m).setCell ⟨x, 1, none⟩ (.int .i64 ((s'.p : Int) + (n : Int))) = W2 at *
    clear c0 c1 f1 hR h2 ho h hV hVo hbs hcs q2 q3 q4
    rcases hcell with hn0 | ⟨g, o, rfl, hn1, hcell⟩
    · subst hn0
      have hcv : ∀ (k : Nat) (a : Option Addr) (c : Nat), (convert 22 9 (.slice a 0 c)).run Try.prog (W2.drewN k) = .ok (.string ⟨#[]⟩) (W2.drewN k) := fun k a c => Try.conv_zero _ a c
      have q6 : (s'.p : Int) ≤ (cap : Int) := by omega
      have q7 : ((s'.p : Int) + ((0 : Nat) : Int)) = s'.p := by simp
      rw [q7] at d1
      have q8 : (s'.p : Int).toNat - s'.p = 0 := by simp
      cases ad with
      | none =>
        have hc0 := hn rfl
        have hp0 : s'.p = 0 := by omega
        have hl0 : s'.t.length = 0 := by omega
        rw [hc0, hl0] at d0
        rw [hp0] at d1 ⊢
        clear hn q6 q7 q8 hp0 hl0 hc0 hcap hc q1 hin
        go_quiet (fail)
        go_wp2
        go_ret
        rw [Ht2.out]
        exact ⟨rfl, HR.out.drewN _⟩
      | some d =>
        clear hn
        go_quiet (fail)
        go_wp2
        all_goals
          go_ret
          rw [Ht2.out]
          exact ⟨rfl, HR.out.drewN _⟩
    · by_cases hn0 : n = 0
      · exact absurd hn0 hn1
      · have hne : ¬ cap = s'.p := by omega
        have hcv : ∀ k, (convert 22 9 (.slice (some ⟨g, o + s'.p, none⟩) n (cap - s'.p))).run Try.prog (W2.drewN k) = .ok (.string ⟨((s'.t.drop s'.p).take n).toArray⟩) (W2.drewN k) := fun k => by
          have hl : ((s'.t.drop s'.p).take n).length = n := by rw [List.length_take, List.length_drop]; omega
          have := Try.conv_any (w := W2.drewN k) (g := g) (o := o + s'.p) (cap := cap - s'.p) ((s'.t.drop s'.p).take n) (fun j hj => by
            rw [hl] at hj
            show W2.cell? _ = _
            rw [Nat.add_assoc, hcell (s'.p + j) (by omega)]
            simp)
          rw [hl] at this
          exact this
        have q5 : (s'.p : Int) ≤ (s'.p : Int) + (n : Int) := by omega
        have q6 : (s'.p : Int) + (n : Int) ≤ (cap : Int) := by omega
        have q7 : ((s'.p : Int) + (n : Int)).toNat - s'.p = n := by omega
        clear hcell
        go_quiet (fail)
        go_wp2
        go_ret
        rw [Ht2.out]
        exact ⟨rfl, HR.out.drewN _⟩
end Go.Proofs
