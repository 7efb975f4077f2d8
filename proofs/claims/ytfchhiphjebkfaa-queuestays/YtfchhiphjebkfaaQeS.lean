/-
  Failed, Put (things: string).
-/
import Derived.Test.YtfchhiphjebkfaaQdS
namespace Go.Proofs
open Go.RowKit Go.Wi Go.Qu
set_option maxHeartbeats 1000000 in
theorem Try.failedYesS {w : World} {own : Nat → Prop} {b : Nat} {s : Qs ByteArray} (h : Try.QuS w own b s) {x : ByteArray} {r : List ByteArray} (hl : s.l = x :: r) (now : Int) (h0 : 0 ≤ now) (h1 : now ≤ 1000000000) :
    Calls Try.prog 20 #[.pointer (some ⟨b, 0, none⟩), .int .i64 now] w fun e w' => e = .returned (.int .i64 0) ∧ Try.QCS own w w' b (s.failed now) := by
  have hin := h.inn.failed h0 h1
  have hone := one_in h.inn.f1 h.inn.f2
  have hw := Try.within_yes h0 h1 w
  have hm := Try.oneMore_any s.f h.inn.f1 h.inn.f2 w
  obtain ⟨v, g, hb, hr, hg, ho⟩ := h.ex
  have hfr := hr.form
  have hs1 := Try.QuS.set (w' := w.setCell ⟨b, 4, none⟩ (.int .i64 (one s.f))) h hr hg ho { s with f := one s.f } rfl ⟨h.inn.s1, h.inn.s2, h.inn.b1, h.inn.b2, h.inn.m2, h.inn.ln, hin.f1, hin.f2, h.inn.u1, h.inn.u2, h.inn.d1, h.inn.d2⟩ (heap_setCell_same w b 4 _ _ _ hb) (fun j hj => Below.heap_setCell w ⟨b, 4, none⟩ _ j hj) (by simp) ((Wo.refl _ w).setCell b 4 _ (.inl h.ox))
  obtain ⟨own1, hQ1, ho1⟩ := hs1.ex
  obtain ⟨m, hm1, hm2⟩ : ∃ m : Nat, one s.f = ((m + 1 : Nat) : Int) ∧ m < 1000000000 := ⟨(one s.f).toNat - 1, by omega, by omega⟩
  have hd := Try.delayS hQ1 m hm2
  simp only [] at hd
  obtain ⟨v1, g1, hb1, hr1, hg1, ho1'⟩ := hQ1.ex
  have dle := dl_le h.inn.b2 m
  have dge := dl_ge h.inn.b1 h.inn.b2 m
  have hm9 := h.inn.m2
  have hs' : s.failed now = { s with f := one s.f, u := now + dl s.base s.most m } := by unfold Qs.failed; congr 3; omega
  have HK : Hid (Try.QCS own w ((w.setCell ⟨b, 4, none⟩ (.int .i64 (one s.f))).setCell ⟨b, 5, none⟩ (.int .i64 (now + dl s.base s.most m))) b (s.failed now)) := by
    rw [hs'] at hin ⊢
    exact Try.QCS.trans hs1.wo ho1 (Try.QuS.set hQ1 hr1 hg1 ho1' { s with f := one s.f, u := now + dl s.base s.most m } rfl hin (heap_setCell_same _ b 5 _ _ _ hb1) (fun j hj => Below.heap_setCell _ ⟨b, 5, none⟩ _ j hj) (by simp) ((Wo.refl _ _).setCell b 5 _ (.inl hQ1.ox)))
  obtain ⟨a, cap, rfl⟩ := hfr
  rw [List.length_map, hl, List.length_cons] at hb
  have c3 := cell_of_row w b 3 _ _ _ hb
  have c4 := cell_of_row w b 4 _ _ _ hb
  have c5 := cell_of_row w b 5 _ _ _ hb
  have f4 := frozen_of_row w b 4 _ _ hb
  have f5 := frozen_of_row w b 5 _ _ hb
  clear hb hr hg ho hs1 hQ1 ho1 hb1 hr1 hg1 ho1' hs' hin h hl
  rw [← hm1] at hd
  clear hm1
  generalize one s.f = F at *
  generalize dl s.base s.most m = D at *
  have q1 : now + D ≤ 2000000000 := by omega
  go_enter Try.func20, Try.ntmps20
  go_wp2_with (first
    | (go_at_call 21; refine hw.mono ?_; clear hw; rintro z w1 ⟨rfl, hw1⟩; rw [hw1]; clear hw1)
    | (go_at_call 23; refine hm.mono ?_; clear hm; rintro z w1 ⟨rfl, hw1⟩; rw [hw1]; clear hw1)
    | (go_at_call 28; refine hd.mono ?_; clear hd; rintro z w1 ⟨rfl, hw1⟩; rw [hw1]; clear hw1)
    | fail)
  go_ret
  exact ⟨rfl, HK.out⟩
set_option maxHeartbeats 1000000 in
theorem Try.failedNoS {w : World} {own : Nat → Prop} {b : Nat} {s : Qs ByteArray} (h : Try.QuS w own b s) (hl : s.l = []) (now : Int) :
    Calls Try.prog 20 #[.pointer (some ⟨b, 0, none⟩), .int .i64 now] w fun e w' => e = .returned (.int .i64 2) ∧ w' = w := by
  obtain ⟨v, g, hb, hr, hg, ho⟩ := h.ex
  obtain ⟨a, cap, rfl⟩ := hr.form
  rw [hl] at hb
  have c3 := cell_of_row w b 3 _ _ _ hb
  clear hb hr hg ho h
  go_enter Try.func20, Try.ntmps20
  go_wp2
  go_ret
  exact ⟨rfl, rfl⟩
set_option maxHeartbeats 1000000 in
theorem Try.failedBadS {w : World} {own : Nat → Prop} {b : Nat} {s : Qs ByteArray} (h : Try.QuS w own b s) {x : ByteArray} {r : List ByteArray} (hl : s.l = x :: r) (now : Int) (h0 : ¬ (0 ≤ now ∧ now ≤ 1000000000)) :
    Calls Try.prog 20 #[.pointer (some ⟨b, 0, none⟩), .int .i64 now] w fun e w' => e = .returned (.int .i64 1) ∧ w' = w := by
  have hw := Try.within_no h0 w
  obtain ⟨v, g, hb, hr, hg, ho⟩ := h.ex
  obtain ⟨a, cap, rfl⟩ := hr.form
  rw [List.length_map, hl, List.length_cons] at hb
  have c3 := cell_of_row w b 3 _ _ _ hb
  clear hb hr hg ho h h0
  go_enter Try.func20, Try.ntmps20
  go_wp2_with (first
    | (go_at_call 21; refine hw.mono ?_; clear hw; rintro z w1 ⟨rfl, hw1⟩; rw [hw1]; clear hw1)
    | fail)
  go_ret
  exact ⟨rfl, rfl⟩
/-- Behind an append the row is put in. -/
theorem Try.QuS.app {w w1 : World} {own : Nat → Prop} {b : Nat} {s : Qs ByteArray} {v v' : Value} {g : Option Nat} (h : Try.QuS w own b s) (hb : w.heap[b]? = some (.cells #[.int .i64 s.size, .int .i64 s.base, .int .i64 s.most, v, .int .i64 s.f, .int .i64 s.u, .int .i64 s.d] 54 (0, 0))) (hg : g ≠ some b) (ho : ∀ k, g = some k → own k)
    (x : ByteArray) (hx : (s.l.length : Int) + 1 ≤ s.size) (ha : App 9 w w1 v' g (s.l.map (Value.string) ++ [Value.string x])) : w1.cell? ⟨b, 3, none⟩ = some v ∧ w1.frozen? ⟨b, 3, none⟩ = false ∧ Try.QCS own w (w1.setCell ⟨b, 3, none⟩ v') b { s with l := s.l ++ [x] } := by
  obtain ⟨g', hr, hg'⟩ := ha.ex
  have hbl := h.lt b h.ox
  have hb1 := (ha.wo.block b hbl hg).trans hb
  have hgb : g' ≠ some b := fun e => by
    rcases hg' with e1 | ⟨k, e1, e2⟩
    · exact hg (e1 ▸ e)
    · rw [e1] at e; injection e with e; omega
  have hsz := ha.wo.size
  refine ⟨cell_of_row _ _ _ _ _ _ hb1, frozen_of_row _ _ _ _ _ hb1, ⟨⟨fun k => own k ∨ (w.heap.size ≤ k ∧ k < w1.heap.size), ⟨⟨v', g', heap_setCell_same w1 b 3 _ _ _ hb1, ?_, hgb, fun k e => ?_⟩, .inl h.ox, fun k e => ?_, ⟨h.inn.s1, h.inn.s2, h.inn.b1, h.inn.b2, h.inn.m2, by simp; omega, h.inn.f1, h.inn.f2, h.inn.u1, h.inn.u2, h.inn.d1, h.inn.d2⟩⟩, fun k e => e.imp id (·.1)⟩, (ha.wo.mono ho).setCell b 3 _ (.inl h.ox)⟩⟩
  · rw [List.map_append]
    exact hr.keep fun k e => Below.heap_setCell w1 ⟨b, 3, none⟩ v' k fun e1 => hgb (by rw [e]; exact congrArg some e1)
  · rcases hg' with e1 | ⟨k', e1, e2⟩
    · exact .inl (ho k (by rw [← e1]; exact e))
    · rw [e1] at e; cases e; exact .inr ⟨e2, hr.lt e1⟩
  · rcases e with e | e
    · have := h.lt k e; simp; omega
    · simpa using e.2
set_option maxHeartbeats 1000000 in
theorem Try.putRoomS {w : World} {own : Nat → Prop} {b : Nat} {s : Qs ByteArray} (h : Try.QuS w own b s) (x : ByteArray) (hx : (s.l.length : Int) < s.size) :
    Calls Try.prog 15 #[.pointer (some ⟨b, 0, none⟩), Value.string x] w fun e w' => e = .returned (.tuple #[Value.string (⟨#[]⟩ : ByteArray), .bool false]) ∧ Try.QCS own w w' b { s with l := s.l ++ [x] } := by
  obtain ⟨v, g, hb, hr, hg, ho⟩ := h.ex
  obtain ⟨a, cap, rfl⟩ := hr.form
  rw [List.length_map] at hb hr
  obtain ⟨i0, hi0, hz0, hz1, hz2⟩ := info_parts Try.infoS
  have hin := h.inn
  have hs2 := hin.s2
  have hap : ∀ n w1 v', App 9 (w.drewN n) w1 v' g (s.l.map (Value.string) ++ [Value.string x]) → w1.cell? ⟨b, 3, none⟩ = some (.slice a s.l.length cap) ∧ w1.frozen? ⟨b, 3, none⟩ = false ∧ Try.QCS own w (w1.setCell ⟨b, 3, none⟩ v') b { s with l := s.l ++ [x] } := fun n w1 v' ha => by
    obtain ⟨a1, a2, a3⟩ := Try.QuS.app (h.keep (w' := w.drewN n) (fun _ _ => rfl) (Nat.le_refl _)) hb hg ho x (by omega) ha
    exact ⟨a1, a2, Try.QCS.trans ((Wo.refl own w).drewN n) (fun _ e => .inl e) a3⟩
  have c0 := cell_of_row w b 0 _ _ _ hb
  have c3 := cell_of_row w b 3 _ _ _ hb
  have hbl := h.lt b h.ox
  have q1 : ((s.l.length : Int) == s.size) = false := by simp; omega
  have hlen : (s.l.map (Value.string)).length ≤ 1000000 := by simp; omega
  have HR : Hid (∀ n, Row 9 (w.drewN n) (.slice a s.l.length cap) g (s.l.map (Value.string))) := fun n => hr.keep fun _ _ => rfl
  have HAP : Hid _ := hap
  have HLEN : Hid _ := hlen
  clear hb hr hg ho h hap hlen hin
  go_enter Try.func15, Try.ntmps15
  go_wp2
  go_quiet (fail)
  go_wp2_with (first | (at_builtin; refine app_one rfl _ _ rfl Try.underlying52 hi0 hz0 hz1 hz2 rfl (by omega) (HR.out _) HLEN.out rfl rfl rfl ?_; intro ad1 n1 cap1 w1 ha; obtain ⟨d3, e3, hk⟩ := HAP.out _ _ _ ha; have HK : Hid _ := hk; clear ha hk) | fail)
  go_ret2
  exact ⟨rfl, HK.out⟩
set_option maxHeartbeats 1000000 in
theorem Try.putFullS {w : World} {own : Nat → Prop} {b : Nat} {s : Qs ByteArray} (h : Try.QuS w own b s) (x : ByteArray) {y : ByteArray} {r : List ByteArray} (hl : s.l = y :: r) (hx : (s.l.length : Int) = s.size) :
    Calls Try.prog 15 #[.pointer (some ⟨b, 0, none⟩), Value.string x] w fun e w' => e = .returned (.tuple #[Value.string y, .bool true]) ∧ Try.QCS own w w' b { s with l := r ++ [x], d := one s.d } := by
  obtain ⟨v, g, hb, hr, hg, ho⟩ := h.ex
  obtain ⟨a, cap, rfl⟩ := hr.form
  rw [List.length_map] at hb hr
  obtain ⟨i0, hi0, hz0, hz1, hz2⟩ := info_parts Try.infoS
  have hin := h.inn
  have hs2 := hin.s2
  have hrl : (r.length : Int) + 1 = s.size := by rw [← hx, hl]; simp
  have c0 := cell_of_row w b 0 _ _ _ hb
  have c3 := cell_of_row w b 3 _ _ _ hb
  have hbl := h.lt b h.ox
  have q1 : ((s.l.length : Int) == s.size) = true := by simp; omega
  have ht := fun n => Try.takeS (h.keep (w' := w.drewN n) (fun _ _ => rfl) (Nat.le_refl _)) hl
  have hm := fun W => Try.oneMore_any s.d hin.d1 hin.d2 W
  have HKEY : Hid (∀ n w1, Try.QCS own (w.drewN n) w1 b { s with l := r } → ∃ a cap g, w1.cell? ⟨b, 6, none⟩ = some (.int .i64 s.d) ∧ w1.frozen? ⟨b, 6, none⟩ = false ∧ (w1.setCell ⟨b, 6, none⟩ (.int .i64 (one s.d))).cell? ⟨b, 3, none⟩ = some (.slice a r.length cap) ∧ b < w1.heap.size ∧ Row 9 (w1.setCell ⟨b, 6, none⟩ (.int .i64 (one s.d))) (.slice a r.length cap) g (r.map (Value.string)) ∧
      ∀ w2 v', App 9 (w1.setCell ⟨b, 6, none⟩ (.int .i64 (one s.d))) w2 v' g (r.map (Value.string) ++ [Value.string x]) → w2.cell? ⟨b, 3, none⟩ = some (.slice a r.length cap) ∧ w2.frozen? ⟨b, 3, none⟩ = false ∧ Try.QCS own w (w2.setCell ⟨b, 3, none⟩ v') b { s with l := r ++ [x], d := one s.d }) := fun n w1 hQ => by
    obtain ⟨own1, hQ1, ho1⟩ := hQ.ex
    obtain ⟨v1, g1, hb1, hr1, hg1, ho1'⟩ := hQ1.ex
    have hone := one_in hin.d1 hin.d2
    have hs1 := Try.QuS.set (w' := w1.setCell ⟨b, 6, none⟩ (.int .i64 (one s.d))) hQ1 hr1 hg1 ho1' { s with l := r, d := one s.d } rfl ⟨hin.s1, hin.s2, hin.b1, hin.b2, hin.m2, hQ1.inn.ln, hin.f1, hin.f2, hin.u1, hin.u2, by simp only; omega, hone.2⟩ (heap_setCell_same w1 b 6 _ _ _ hb1) (fun j hj => Below.heap_setCell w1 ⟨b, 6, none⟩ _ j hj) (by simp) ((Wo.refl _ w1).setCell b 6 _ (.inl hQ1.ox))
    obtain ⟨own2, hQ2, ho2⟩ := hs1.ex
    obtain ⟨v2, g2, hb2, hr2, hg2, ho2'⟩ := hQ2.ex
    obtain ⟨a, cap, rfl⟩ := hr2.form
    have hv : Value.slice a r.length cap = .slice a (r.map (Value.string)).length cap := by rw [List.length_map]
    have hw12 : Wo own w (w1.setCell ⟨b, 6, none⟩ (.int .i64 (one s.d))) := ((Wo.refl own w).drewN n).step (fun _ e => .inl e) (hQ.wo.step ho1 hs1.wo)
    have hsz := hQ.wo.size
    have hsz' : w.heap.size ≤ w1.heap.size := hsz
    refine ⟨a, cap, g2, cell_of_row _ _ _ _ _ _ hb1, frozen_of_row _ _ _ _ _ hb1, ?_, hQ1.lt b hQ1.ox, ?_, fun w2 v' ha => ?_⟩
    · rw [hv]; exact cell_of_row _ _ _ _ _ _ hb2
    · rw [hv]; exact hr2
    · obtain ⟨a1, a2, a3⟩ := Try.QuS.app hQ2 hb2 hg2 ho2' x (by simp only; omega) ha
      rw [hv]
      refine ⟨a1, a2, Try.QCS.trans hw12 (fun k e => ?_) a3⟩
      rcases ho2 k e with e1 | e1
      · exact (ho1 k e1).imp id fun e2 => e2
      · exact .inr (Nat.le_trans hsz' e1)
  have hlen : (r.map (Value.string)).length ≤ 1000000 := by rw [List.length_map]; omega
  have HLEN : Hid _ := hlen
  clear hlen
  clear hb hr hg ho h hin hl hrl
  go_enter Try.func15, Try.ntmps15
  go_wp2
  go_quiet (fail)
  go_wp2_with (first
    | (go_at_call 25; refine (ht _).mono ?_; clear ht; rintro z w1 ⟨rfl, hQ⟩; obtain ⟨a1, cap1, g1, d6, e6, d3, hbl1, hR1, hK1⟩ := HKEY.out _ _ hQ; have HR1 : Hid _ := hR1; have HK1 : Hid _ := hK1; clear hR1 hK1 HKEY hQ c0 c3)
    | (go_at_call 23; refine (hm _).mono ?_; clear hm; rintro z w2 ⟨rfl, hw2⟩; rw [hw2]; clear hw2)
    | (at_builtin; refine app_one rfl _ _ rfl Try.underlying52 hi0 hz0 hz1 hz2 rfl (by omega) HR1.out HLEN.out rfl (by exact congrArg (fun n => Value.slice (some ⟨n, 0, none⟩) 1 1) (Qu.sizeSet _ _ _).symm) rfl ?_; intro ad1 n1 cap2 w3 ha; obtain ⟨d33, e33, hk⟩ := HK1.out _ _ ha; have HK : Hid _ := hk; clear ha hk HK1 HR1)
    | fail)
  go_ret2
  exact ⟨rfl, HK.out⟩
end Go.Proofs
