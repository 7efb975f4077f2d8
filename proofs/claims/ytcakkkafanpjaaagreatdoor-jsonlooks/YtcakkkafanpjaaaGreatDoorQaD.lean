/-
  Laid together by packg.py of Jr7 Jr8 Ja.
-/
import Derived.Test.YtcakkkafanpjaaaGreatDoorQaC
namespace Go.Proofs
open Go.RowKit Go.Jv
theorem Jv.escape_ok {t : ByteArray} {p r q : Nat} (h : escape t p = .ok (r, q)) : r ≤ 1114111 ∧ p < q := by
  unfold escape at h
  cases hn : next t (p + 1) with
  | bad a b => rw [hn] at h; cases h
  | ok c =>
    rw [hn] at h
    simp only [R.bind] at h
    cases hx : escOf c with
    | some x =>
      rw [hx] at h
      injection h with h; injection h with h1 h2
      have := x.toNat_lt
      omega
    | none =>
      rw [hx] at h
      cases hu : unit t p p with
      | bad a b => rw [hu] at h; cases h
      | ok high =>
        rw [hu] at h
        have := Jv.unit_lt hu
        simp only at h
        split at h
        · injection h with h; injection h with h1 h2; omega
        · split at h
          · cases h
          · cases hv : unit t p (p + 6) with
            | bad a b => rw [hv] at h; cases h
            | ok low =>
              rw [hv] at h
              simp only at h
              split at h
              · cases h
              · injection h with h; injection h with h1 h2; omega
theorem Tryz.escape_yes {w : World} {b : Nat} {t : ByteArray} {p o r q : Nat} (he : escape t p = .ok (r, q)) (h : Rd w b t p o) (hlt : p < t.size) :
    Calls Tryz.prog 125 #[.pointer (some ⟨b, 0, none⟩)] w fun en w' => en = .returned (.int .i32 r) ∧ Rd w' b t q o ∧ Wk b w w' := by
  refine (Tryz.escape_any h hlt).mono fun e w' hq => ?_
  rcases hq with ⟨r', q', hm, rfl, hR, hW⟩ | ⟨p', e', hm, _⟩
  · rw [he] at hm; injection hm with hm; injection hm with h1 h2; subst h1; subst h2; exact ⟨rfl, hR, hW⟩
  · rw [he] at hm; cases hm
theorem Tryz.escape_no {w : World} {b : Nat} {t : ByteArray} {p o p1 e1 : Nat} (he : escape t p = .bad p1 e1) (h : Rd w b t p o) (hlt : p < t.size) :
    Calls Tryz.prog 125 #[.pointer (some ⟨b, 0, none⟩)] w fun en w' => Bad 88 p1 e1 en w' ∧ Wk b w w' := by
  refine (Tryz.escape_any h hlt).mono fun e w' hq => ?_
  rcases hq with ⟨r', q', hm, _⟩ | ⟨p', e', hm, hB, hW⟩
  · rw [he] at hm; cases hm
  · rw [he] at hm; injection hm with h1 h2; subst h1; subst h2; exact ⟨hB, hW⟩
theorem Tryz.sign_yes {w : World} {b : Nat} {t : ByteArray} {p o r q : Nat} (he : signAt t p = .ok (r, q)) (h : Rd w b t p o) (hlt : p < t.size) (hT : Tryz.Tb w) (hbg : 8 ≤ b) :
    Calls Tryz.prog 126 #[.pointer (some ⟨b, 0, none⟩)] w fun en w' => en = .returned (.int .i32 r) ∧ Rd w' b t q o ∧ Wk b w w' := by
  refine (Tryz.sign_any h hlt hT hbg).mono fun e w' hq => ?_
  rcases hq with ⟨r', q', hm, rfl, hR, hW⟩ | ⟨p', e', hm, _⟩
  · rw [he] at hm; injection hm with hm; injection hm with h1 h2; subst h1; subst h2; exact ⟨rfl, hR, hW⟩
  · rw [he] at hm; cases hm
theorem Tryz.sign_no {w : World} {b : Nat} {t : ByteArray} {p o p1 e1 : Nat} (he : signAt t p = .bad p1 e1) (h : Rd w b t p o) (hlt : p < t.size) (hT : Tryz.Tb w) (hbg : 8 ≤ b) :
    Calls Tryz.prog 126 #[.pointer (some ⟨b, 0, none⟩)] w fun en w' => Bad 88 p1 e1 en w' ∧ Wk b w w' := by
  refine (Tryz.sign_any h hlt hT hbg).mono fun e w' hq => ?_
  rcases hq with ⟨r', q', hm, _⟩ | ⟨p', e', hm, hB, hW⟩
  · rw [he] at hm; cases hm
  · rw [he] at hm; injection hm with h1 h2; subst h1; subst h2; exact ⟨hB, hW⟩
/-- One sign more. -/
theorem Tryz.rune_more {w0 w : World} {b : Nat} {t : ByteArray} {q o r : Nat} {v : Value} {out : List UInt8} (hr : r ≤ 1114111) (hl : out.length ≤ 20000) (hrow : w.ownsRow w0.heap.size 5 1 v out.length (Lib.byteCells out)) (h : Rd w b t q o) (hW : Wk b w0 w) (hb0 : b < w0.heap.size) :
    Calls Tryz.prog 124 #[v, .int .i32 r] w fun en w' => ∃ v', en = .returned v' ∧ w'.ownsRow w0.heap.size 5 1 v' (out ++ Lib.encodeRune r).length (Lib.byteCells (out ++ Lib.encodeRune r)) ∧ Rd w' b t q o ∧ Wk b w0 w' := by
  refine (Tryz.utf8_AppendRune_plain w0.heap.size v out.length (Lib.byteCells out) r (by omega) (by omega) w hrow (by omega) hW.size).mono fun e w' hq => ?_
  obtain ⟨v', rfl, hrow', ob, hg⟩ := hq
  have hrb := Jv.row_block hrow
  refine ⟨v', rfl, ?_, Jv.rd_keep h ?_ ?_, Jv.wk_grown hW hg hrb⟩
  · rw [← Lib.byteCells_encodeRune] at hrow'
    have e2 : Lib.byteCells (out ++ Lib.encodeRune r) = Lib.byteCells out ++ Lib.byteCells (Lib.encodeRune r) := by simp [Lib.byteCells]
    rw [e2, List.length_append]
    rw [Lib.byteCells_length] at hrow'
    exact hrow'
  · have hb := h.hb
    exact (hg.block b (by simp; omega) (fun e => by have := hrb b e.symm; omega)).trans (Below.heap_alloc w ob b hb)
  · have := hg.size; simp at this; omega
set_option maxHeartbeats 4000000 in
theorem Tryz.quoted_any {w : World} {b : Nat} {t : ByteArray} {p o : Nat} (h : Rd w b t p o) (hT : Tryz.Tb w) (hbg : 8 ≤ b) :
    Calls Tryz.prog 107 #[.pointer (some ⟨b, 0, none⟩)] w fun en w' =>
      (∃ s q, Go.Jv.quoted t p = .ok (s, q) ∧ en = .returned (.string s) ∧ Rd w' b t q o ∧ Wk b w w') ∨ (∃ p' e, Go.Jv.quoted t p = .bad p' e ∧ Bad 88 p' e en w' ∧ Wk b w w') := by
  have hb0 := h.hb
  have hp := h.hp
  have ht := h.ht
  by_cases hlt : p < t.size
  · by_cases hc : t.get! p = 34
    · have htk : ∀ w', _ := fun (_ : Unit) => Tryz.take_ok (c := 34) h hlt hc
      have hQ : Go.Jv.quoted t p = quotedFrom t (t.size + 1 - (p + 1)) (p + 1) [] := by unfold Go.Jv.quoted Go.Jv.take; rw [if_pos ⟨hlt, hc⟩]; rfl
      have HQ : Hid (Go.Jv.quoted t p = quotedFrom t (t.size + 1 - (p + 1)) (p + 1) []) := hQ
      have htk' : Calls Tryz.prog 123 #[.pointer (some ⟨b, 0, none⟩), .int .u8 34] w fun en w' => en = .returned (.tuple #[]) ∧ Rd w' b t (p + 1) o ∧ Wk b w w' := Tryz.take_ok (c := 34) h hlt hc
      clear htk hQ hc h
      go_enter Tryz.func107, Tryz.ntmps107
      go_wp2_with (first | (go_at_call 123; refine htk'.mono ?_; rintro e w1 ⟨rfl, hR1, hW1⟩) | fail)
      go_loopg [3] (t.size + 1 - (p + 1)) (fun k v wr => ∃ (q : Nat) (out : List UInt8), t.size + 1 - q ≤ k ∧ quotedFrom t k q out = Go.Jv.quoted t p ∧ out.length ≤ 4 * q ∧ wr.ownsRow w.heap.size 5 1 v out.length (Lib.byteCells out) ∧ Rd wr b t q o ∧ Wk b w wr)
      case atStart => exact ⟨p + 1, [], Nat.le_refl _, HQ.out.symm, by simp, ⟨rfl, .inl ⟨rfl, rfl⟩⟩, hR1, hW1⟩
      case round =>
        obtain ⟨q, out, hk, he, hl, hrow, hR, hW⟩ := hrel
        have hj0 : ∃ j, gk = j + 1 := ⟨gk - 1, by have := hR.hp; omega⟩
        obtain ⟨j, hj⟩ := hj0
        have HE : Hid (quotedFrom t gk q out = Go.Jv.quoted t p) := he
        have HROW : Hid (wr.ownsRow w.heap.size 5 1 u3 out.length (Lib.byteCells out)) := hrow
        have HR : Hid (Rd wr b t q o) := hR
        have hTr := hT.wk hW hbg
        have hqs := hR.hp
        clear he hrow hR1 hW1 HQ htk'
        by_cases hlq : q < t.size
        · have hnx := Tryz.next_ok hR hlq
          obtain ⟨c0, c1, c2, f0, f1, f2, hb, -, -, -⟩ := hR
          have hnn : next t q = .ok (t.get! q) := by unfold next; rw [if_pos hlq]
          generalize hcg : t.get! q = c at hnx hnn
          clear hcg
          by_cases hc1 : c = 34
          · subst hc1
            have HB : Hid (Go.Jv.quoted t p = .ok (⟨out.toArray⟩, q + 1)) := HE.out.symm.trans (by rw [hj, quotedFrom, hnn]; rfl)
            have hnx' : Calls Tryz.prog 102 #[.pointer (some ⟨b, 0, none⟩)] wr fun en w' => en = .returned (.int .u8 34) ∧ ∃ n, w' = wr.drewN n := hnx
            have hcv : ∀ n, (convert 22 9 u3).run Tryz.prog ((wr.drewN n).setCell ⟨b, 1, none⟩ (.int .i64 ((q : Int) + 1))) = .ok (.string ⟨out.toArray⟩) ((wr.drewN n).setCell ⟨b, 1, none⟩ (.int .i64 ((q : Int) + 1))) := fun n =>
              Tryz.gathered (B := w.heap.size) (Jv.row_kept (w := wr) HROW.out fun g h1 _ => (Below.heap_setCell (wr.drewN n) ⟨b, 1, none⟩ _ g (by show g ≠ b; omega)).trans rfl)
            clear hnx hnn hj hk
            go_wp2_with (first | (go_at_call 102; refine hnx'.mono ?_; rintro e w2 ⟨rfl, n, rfl⟩) | fail)
            go_ret
            exact Or.inl ⟨_, _, HB.out, rfl, HR.out.atN _ _ _ (by omega) hlq, (hW.drewN _).setCell _ _ _⟩
          · have hcn : ¬ (c.toNat : Int) = 34 := fun e => hc1 (UInt8.toNat_inj.1 (by simpa using (by omega : c.toNat = 34)))
            by_cases hc2 : c < 32
            · have HB : Hid (Go.Jv.quoted t p = .bad q eSyntax) := HE.out.symm.trans (by rw [hj, quotedFrom, hnn]; simp only [R.bind]; rw [if_neg hc1, if_pos hc2])
              have hcl : (c.toNat : Int) < 32 := by have : c.toNat < 32 := hc2; omega
              clear hnn hj hk hc1 hc2
              go_wp2_with (first | (go_at_call 102; refine hnx.mono ?_; rintro e w2 ⟨rfl, n, rfl⟩) | (go_at_call 53; refine (Tryz.fault_any _ _ _).mono ?_; rintro e w3 ⟨rfl, rfl⟩) | fail)
              have hq := Jv.bad_new (T := 88) (U := 100) (n := n) (p := q) (e := 20) hb
              exact ⟨rfl, Or.inr ⟨_, _, HB.out, hq.1, hW.trans hq.2⟩⟩
            · have hcl : ¬ (c.toNat : Int) < 32 := fun e => hc2 (by show c.toNat < 32; omega)
              by_cases hc3 : c = 92
              · subst hc3
                have hqf : ∀ n, quotedFrom t (n + 1) q out = (escape t q).bind fun x => quotedFrom t n x.2 (out ++ Lib.encodeRune x.1) := fun n => by rw [quotedFrom, hnn]; rfl
                have hnx' : Calls Tryz.prog 102 #[.pointer (some ⟨b, 0, none⟩)] wr fun en w' => en = .returned (.int .u8 92) ∧ ∃ n, w' = wr.drewN n := hnx
                clear hnx hnn hc1 hc2 hcn hcl
                have hnx := hnx'
                clear hnx'
                cases hx : escape t q with
                | bad p1 e1 =>
                  have HB : Hid (Go.Jv.quoted t p = .bad p1 e1) := HE.out.symm.trans (by rw [hj, hqf, hx]; rfl)
                  have hcal := fun n => Tryz.escape_no hx (HR.out.drewN n) hlq
                  clear hx
                  go_wp2_with (first | (go_at_call 102; refine hnx.mono ?_; rintro e w2 ⟨rfl, n, rfl⟩) | (go_at_call 125; refine (hcal _).mono ?_; rintro e w3 ⟨⟨x, hx, rfl, hx0, hx1⟩, hk3⟩) | fail)
                  exact ⟨rfl, Or.inr ⟨_, _, HB.out, ⟨x, hx, rfl, hx0, hx1⟩, (hW.drewN _).trans hk3⟩⟩
                | ok rq =>
                  obtain ⟨r, q'⟩ := rq
                  have HB : Hid (quotedFrom t j q' (out ++ Lib.encodeRune r) = Go.Jv.quoted t p) := (by rw [← HE.out, hj, hqf, hx]; rfl)
                  have hcal := fun n => Tryz.escape_yes hx (HR.out.drewN n) hlq
                  have hok := Jv.escape_ok hx
                  obtain ⟨hr, hqq⟩ := hok
                  have hlen := Lib.runeCells_le r
                  rw [Lib.runeCells_length] at hlen
                  have HJ : Hid (gk = j + 1) := hj
                  clear hx hj
                  go_wp2_with (first | (go_at_call 102; refine hnx.mono ?_; rintro e w2 ⟨rfl, n, rfl⟩) | (go_at_call 125; refine (hcal _).mono ?_; rintro e w3 ⟨rfl, hR3, hW3⟩; have hW4 := (hW.drewN _).trans hW3; have hrow3 := Jv.row_wk (Jv.row_kept (w' := wr.drewN _) HROW.out (fun _ _ _ => rfl)) hW3 hb0) | (go_at_call 124; refine (Tryz.rune_more hr (by omega) hrow3 hR3 hW4 hb0).mono ?_; rintro e w4 ⟨v', rfl, hrow4, hR4, hW5⟩) | fail)
                  go_roundg j
                  case measure => have := HJ.out; omega
                  case rel =>
                    have h1 := HJ.out
                    have h2 := hR4.hp
                    exact ⟨q', out ++ Lib.encodeRune r, by omega, HB.out, by rw [List.length_append]; omega, hrow4, hR4, hW5⟩
              · have hc3n : ¬ (c.toNat : Int) = 92 := fun e => hc3 (UInt8.toNat_inj.1 (by simpa using (by omega : c.toNat = 92)))
                have hqf : ∀ n, quotedFrom t (n + 1) q out = (signAt t q).bind fun x => quotedFrom t n x.2 (out ++ Lib.encodeRune x.1) := fun n => by rw [quotedFrom, hnn]; simp only [R.bind]; rw [if_neg hc1, if_neg hc2, if_neg hc3]
                clear hnn hc1 hc2 hc3
                cases hx : signAt t q with
                | bad p1 e1 =>
                  have HB : Hid (Go.Jv.quoted t p = .bad p1 e1) := HE.out.symm.trans (by rw [hj, hqf, hx]; rfl)
                  have hcal := fun n => Tryz.sign_no hx (HR.out.drewN n) hlq (hTr.drewN n) hbg
                  clear hx
                  go_wp2_with (first | (go_at_call 102; refine hnx.mono ?_; rintro e w2 ⟨rfl, n, rfl⟩) | (go_at_call 126; refine (hcal _).mono ?_; rintro e w3 ⟨⟨x, hx, rfl, hx0, hx1⟩, hk3⟩) | fail)
                  exact ⟨rfl, Or.inr ⟨_, _, HB.out, ⟨x, hx, rfl, hx0, hx1⟩, (hW.drewN _).trans hk3⟩⟩
                | ok rq =>
                  obtain ⟨r, q'⟩ := rq
                  have HB : Hid (quotedFrom t j q' (out ++ Lib.encodeRune r) = Go.Jv.quoted t p) := (by rw [← HE.out, hj, hqf, hx]; rfl)
                  have hcal := fun n => Tryz.sign_yes hx (HR.out.drewN n) hlq (hTr.drewN n) hbg
                  have hok := Jv.signAt_ok hx hlq
                  obtain ⟨hr, hqq⟩ := hok
                  have hlen := Lib.runeCells_le r
                  rw [Lib.runeCells_length] at hlen
                  have HJ : Hid (gk = j + 1) := hj
                  clear hx hj
                  go_wp2_with (first | (go_at_call 102; refine hnx.mono ?_; rintro e w2 ⟨rfl, n, rfl⟩) | (go_at_call 126; refine (hcal _).mono ?_; rintro e w3 ⟨rfl, hR3, hW3⟩; have hW4 := (hW.drewN _).trans hW3; have hrow3 := Jv.row_wk (Jv.row_kept (w' := wr.drewN _) HROW.out (fun _ _ _ => rfl)) hW3 hb0) | (go_at_call 124; refine (Tryz.rune_more hr (by omega) hrow3 hR3 hW4 hb0).mono ?_; rintro e w4 ⟨v', rfl, hrow4, hR4, hW5⟩) | fail)
                  go_roundg j
                  case measure => have := HJ.out; omega
                  case rel =>
                    have h1 := HJ.out
                    have h2 := hR4.hp
                    exact ⟨q', out ++ Lib.encodeRune r, by omega, HB.out, by rw [List.length_append]; omega, hrow4, hR4, hW5⟩
        · obtain rfl : q = t.size := by omega
          have HB : Hid (Go.Jv.quoted t p = .bad t.size eSyntax) := HE.out.symm.trans (by rw [hj, quotedFrom]; unfold next; rw [if_neg hlq]; rfl)
          have hnx := Tryz.next_bad hR
          clear hj hk hR
          go_wp2_with (first | (go_at_call 102; refine hnx.mono ?_; rintro e w2 ⟨⟨x, hx, rfl, hx0, hx1⟩, hk3⟩) | fail)
          exact ⟨rfl, Or.inr ⟨_, _, HB.out, ⟨x, hx, rfl, hx0, hx1⟩, hW.trans hk3⟩⟩
    · have hq : Go.Jv.quoted t p = .bad p eSyntax := by unfold Go.Jv.quoted Go.Jv.take; rw [if_neg (fun h => hc h.2)]; rfl
      have HB : Hid (Go.Jv.quoted t p = .bad p eSyntax) := hq
      have htk : Calls Tryz.prog 123 #[.pointer (some ⟨b, 0, none⟩), .int .u8 34] w fun en w' => Bad 88 p eSyntax en w' ∧ Wk b w w' := Tryz.take_other (c := 34) h hlt hc
      clear hq hc
      go_enter Tryz.func107, Tryz.ntmps107
      go_wp2_with (first | (go_at_call 123; refine htk.mono ?_; rintro e w2 ⟨⟨x, hx, rfl, hx0, hx1⟩, hk3⟩) | fail)
      exact ⟨rfl, Or.inr ⟨_, _, HB.out, ⟨x, hx, rfl, hx0, hx1⟩, hk3⟩⟩
  · obtain rfl : p = t.size := by omega
    have hq : Go.Jv.quoted t t.size = .bad t.size eSyntax := by unfold Go.Jv.quoted Go.Jv.take; rw [if_neg (fun h => hlt h.1)]; rfl
    have HB : Hid (Go.Jv.quoted t t.size = .bad t.size eSyntax) := hq
    have htk : Calls Tryz.prog 123 #[.pointer (some ⟨b, 0, none⟩), .int .u8 34] w fun en w' => Bad 88 t.size eSyntax en w' ∧ Wk b w w' := Tryz.take_end (c := 34) h
    clear hq
    go_enter Tryz.func107, Tryz.ntmps107
    go_wp2_with (first | (go_at_call 123; refine htk.mono ?_; rintro e w2 ⟨⟨x, hx, rfl, hx0, hx1⟩, hk3⟩) | fail)
    exact ⟨rfl, Or.inr ⟨_, _, HB.out, ⟨x, hx, rfl, hx0, hx1⟩, hk3⟩⟩
end Go.Proofs
namespace Go.Proofs
open Go.RowKit Go.Jv
theorem Jv.u8_ne {c d : UInt8} (h : ¬ c = d) : ¬ (c.toNat : Int) = d.toNat := fun e => h (UInt8.toNat_inj.1 (by omega))
theorem Jv.next_at {t : ByteArray} {p : Nat} (h : p < t.size) : next t p = .ok (t.get! p) := by unfold next; rw [if_pos h]
theorem Jv.next_end {t : ByteArray} {p : Nat} (h : ¬ p < t.size) : next t p = .bad p eSyntax := by unfold next; rw [if_neg h]
theorem Jv.take_at {t : ByteArray} {p : Nat} {c : UInt8} (h : p < t.size) (hc : t.get! p = c) : Go.Jv.take t p c = .ok (p + 1) := by unfold Go.Jv.take; rw [if_pos ⟨h, hc⟩]
theorem Jv.take_not {t : ByteArray} {p : Nat} {c : UInt8} (h : ¬ (p < t.size ∧ t.get! p = c)) : Go.Jv.take t p c = .bad p eSyntax := by unfold Go.Jv.take; rw [if_neg h]
theorem Jv.blanks_le (t : ByteArray) (p : Nat) (h : p ≤ t.size) : p ≤ blanks t p ∧ blanks t p ≤ t.size := Jv.run_le isBlank t p h
set_option maxHeartbeats 4000000 in
theorem Tryz.more_any {w : World} {b : Nat} {t : ByteArray} {p o : Nat} (h : Rd w b t p o) (ho1 : 1 ≤ o) (x : UInt8) (had : Nat) (hh : had ≤ 1000) :
    Calls Tryz.prog 128 #[.pointer (some ⟨b, 0, none⟩), .int .u8 x.toNat, .int .i64 had] w fun en w' =>
      (∃ q, more t p x had = .ok (false, q) ∧ en = .returned (.bool false) ∧ Rd w' b t q (o - 1) ∧ Wk b w w') ∨
      (∃ q, more t p x had = .ok (true, q) ∧ en = .returned (.bool true) ∧ q < t.size ∧ Rd w' b t q o ∧ Wk b w w') ∨
      (∃ p' e, more t p x had = .bad p' e ∧ Bad 88 p' e en w' ∧ Wk b w w') := by
  have hbl := Tryz.blanks_any h
  have hle := Jv.blanks_le t p h.hp
  have ht := h.ht
  have ho := h.ho
  clear h
  obtain ⟨hle1, hle2⟩ := hle
  by_cases hlt : blanks t p < t.size
  · have hnn := Jv.next_at hlt
    by_cases hc : t.get! (blanks t p) = x
    · subst hc
      have hnx : ∀ w1, Rd w1 b t (blanks t p) o → Calls Tryz.prog 102 #[.pointer (some ⟨b, 0, none⟩)] w1 fun en w' => en = .returned (.int .u8 (t.get! (blanks t p)).toNat) ∧ ∃ n, w' = w1.drewN n := fun w1 h1 => Tryz.next_ok h1 hlt
      have hB : more t p (t.get! (blanks t p)) had = .ok (false, blanks t p + 1) := by unfold more; rw [hnn]; simp [R.bind]
      have HB : Hid (more t p (t.get! (blanks t p)) had = .ok (false, blanks t p + 1)) := hB
      clear hB hnn
      generalize t.get! (blanks t p) = x at *
      go_enter Tryz.func128, Tryz.ntmps128
      go_wp2_with (first | (go_at_call 76; refine hbl.mono ?_; clear hbl; rintro e1 w1 ⟨rfl, hR1, hW1⟩; have HR1 : Hid (Rd w1 b t (blanks t p) o) := hR1; obtain ⟨c0, c1, c2, f0, f1, f2, hb1, -, -, -⟩ := hR1) | (go_at_call 102; refine (hnx w1 HR1.out).mono ?_; rintro e2 w2 ⟨rfl, n, rfl⟩) | fail)
      go_ret
      exact Or.inl ⟨_, HB.out, rfl, (HR1.out.openN _ (o - 1) _ (by omega) (by omega)).at0 _ _ (by omega) hlt, ((hW1.drewN _).setCell _ _ _).setCell _ _ _⟩
    · have hcn := Jv.u8_ne hc
      have hnx : ∀ w1, Rd w1 b t (blanks t p) o → Calls Tryz.prog 102 #[.pointer (some ⟨b, 0, none⟩)] w1 fun en w' => en = .returned (.int .u8 (t.get! (blanks t p)).toNat) ∧ ∃ n, w' = w1.drewN n := fun w1 h1 => Tryz.next_ok h1 hlt
      by_cases h0 : had = 0
      · have hB : more t p x had = .ok (true, blanks t p) := by unfold more; rw [hnn]; simp only [R.bind]; rw [if_neg hc, if_pos h0]
        have HB : Hid (more t p x had = .ok (true, blanks t p)) := hB
        clear hB hnn hc
        subst h0
        generalize t.get! (blanks t p) = c at *
        go_enter Tryz.func128, Tryz.ntmps128
        go_wp2_with (first | (go_at_call 76; refine hbl.mono ?_; clear hbl; rintro e1 w1 ⟨rfl, hR1, hW1⟩; have HR1 : Hid (Rd w1 b t (blanks t p) o) := hR1; obtain ⟨c0, c1, c2, f0, f1, f2, hb1, -, -, -⟩ := hR1) | (go_at_call 102; refine (hnx w1 HR1.out).mono ?_; rintro e2 w2 ⟨rfl, n, rfl⟩) | fail)
        go_ret
        exact Or.inr (Or.inl ⟨_, HB.out, rfl, hlt, HR1.out.drewN _, hW1.drewN _⟩)
      · by_cases h44 : t.get! (blanks t p) = 44
        · have hB : more t p x had = ((next t (blanks t (blanks t p + 1))).bind fun _ => if had = 64 then .bad (blanks t (blanks t p + 1)) eSize else .ok (true, blanks t (blanks t p + 1))) := by
            unfold more; rw [hnn]; simp only [R.bind]; rw [if_neg hc, if_neg h0, Jv.take_at hlt h44]
          have HB : Hid (more t p x had = ((next t (blanks t (blanks t p + 1))).bind fun _ => if had = 64 then .bad (blanks t (blanks t p + 1)) eSize else .ok (true, blanks t (blanks t p + 1)))) := hB
          have htk : ∀ w1, Rd w1 b t (blanks t p) o → Calls Tryz.prog 123 #[.pointer (some ⟨b, 0, none⟩), .int .u8 44] w1 fun en w' => en = .returned (.tuple #[]) ∧ Rd w' b t (blanks t p + 1) o ∧ Wk b w1 w' := fun w1 h1 => Tryz.take_ok (c := 44) h1 hlt h44
          have hle3 := Jv.blanks_le t (blanks t p + 1) hlt
          clear hB hnn hc h44
          generalize t.get! (blanks t p) = c at *
          go_enter Tryz.func128, Tryz.ntmps128
          go_wp2_with (first | (go_at_call 76; refine hbl.mono ?_; clear hbl; rintro e1 w1 ⟨rfl, hR1, hW1⟩; have HR1 : Hid (Rd w1 b t (blanks t p) o) := hR1; obtain ⟨c0, c1, c2, f0, f1, f2, hb1, -, -, -⟩ := hR1) | (go_at_call 102; refine (hnx w1 HR1.out).mono ?_; rintro e2 w2 ⟨rfl, n, rfl⟩) | (go_at_call 123; refine (htk _ (HR1.out.drewN _)).mono ?_; rintro e3 w3 ⟨rfl, hR3, hW3⟩) | fail)
          refine (Tryz.blanks_any hR3).mono ?_
          rintro e4 w4 ⟨rfl, hR4, hW4⟩
          clear hnx htk hR3
          have hW5 := ((hW1.drewN _).trans hW3).trans hW4
          by_cases hl2 : blanks t (blanks t p + 1) < t.size
          · have hnx := Tryz.next_ok hR4 hl2
            have HR4 : Hid (Rd w4 b t (blanks t (blanks t p + 1)) o) := hR4
            obtain ⟨d0, d1, d2, g0, g1, g2, hb4, -, -, -⟩ := hR4
            have hB2 := HB.out
            rw [Jv.next_at hl2] at hB2
            simp only [R.bind] at hB2
            by_cases h64 : had = 64
            · rw [if_pos h64] at hB2
              have HB2 : Hid (more t p x had = .bad (blanks t (blanks t p + 1)) eSize) := hB2
              clear hB2 HB
              subst h64
              go_wp2_with (first | (go_at_call 102; refine hnx.mono ?_; rintro e2 w2 ⟨rfl, n, rfl⟩) | (go_at_call 53; refine (Tryz.fault_any _ _ _).mono ?_; rintro e9 w9 ⟨rfl, rfl⟩) | fail)
              have hq := Jv.bad_new (T := 88) (U := 100) (n := n) (p := blanks t (blanks t p + 1)) (e := 22) hb4
              exact ⟨rfl, Or.inr (Or.inr ⟨_, _, HB2.out, hq.1, hW5.trans hq.2⟩)⟩
            · rw [if_neg h64] at hB2
              have HB2 : Hid (more t p x had = .ok (true, blanks t (blanks t p + 1))) := hB2
              clear hB2 HB
              go_wp2_with (first | (go_at_call 102; refine hnx.mono ?_; rintro e2 w2 ⟨rfl, n, rfl⟩) | (go_at_call 53; refine (Tryz.fault_any _ _ _).mono ?_; rintro e9 w9 ⟨rfl, rfl⟩) | fail)
              go_ret
              exact Or.inr (Or.inl ⟨_, HB2.out, rfl, hl2, HR4.out.drewN _, hW5.drewN _⟩)
          · have hs : blanks t (blanks t p + 1) = t.size := by omega
            have hB2 := HB.out
            rw [Jv.next_end hl2] at hB2
            have HB2 : Hid (more t p x had = .bad (blanks t (blanks t p + 1)) eSyntax) := hB2
            rw [hs] at hR4
            have hnx := Tryz.next_bad hR4
            clear hB2 HB hR4
            rw [hs] at HB2
            clear hs
            go_wp2_with (first | (go_at_call 102; refine hnx.mono ?_; rintro e2 w2 ⟨⟨y, hy, rfl, hy0, hy1⟩, hk3⟩) | fail)
            exact ⟨rfl, Or.inr (Or.inr ⟨_, _, HB2.out, ⟨y, hy, rfl, hy0, hy1⟩, hW5.trans hk3⟩)⟩
        · have hB : more t p x had = .bad (blanks t p) eSyntax := by
            unfold more; rw [hnn]; simp only [R.bind]; rw [if_neg hc, if_neg h0, Jv.take_not (fun h => h44 h.2)]
          have HB : Hid (more t p x had = .bad (blanks t p) eSyntax) := hB
          have htk : ∀ w1, Rd w1 b t (blanks t p) o → Calls Tryz.prog 123 #[.pointer (some ⟨b, 0, none⟩), .int .u8 44] w1 fun en w' => Bad 88 (blanks t p) eSyntax en w' ∧ Wk b w1 w' := fun w1 h1 => Tryz.take_other (c := 44) h1 hlt h44
          clear hB hnn hc h44
          generalize t.get! (blanks t p) = c at *
          go_enter Tryz.func128, Tryz.ntmps128
          go_wp2_with (first | (go_at_call 76; refine hbl.mono ?_; clear hbl; rintro e1 w1 ⟨rfl, hR1, hW1⟩; have HR1 : Hid (Rd w1 b t (blanks t p) o) := hR1; obtain ⟨c0, c1, c2, f0, f1, f2, hb1, -, -, -⟩ := hR1) | (go_at_call 102; refine (hnx w1 HR1.out).mono ?_; rintro e2 w2 ⟨rfl, n, rfl⟩) | (go_at_call 123; refine (htk _ (HR1.out.drewN _)).mono ?_; rintro e3 w3 ⟨⟨y, hy, rfl, hy0, hy1⟩, hk3⟩) | fail)
          exact ⟨rfl, Or.inr (Or.inr ⟨_, _, HB.out, ⟨y, hy, rfl, hy0, hy1⟩, (hW1.drewN _).trans hk3⟩)⟩
  · have hs : blanks t p = t.size := by omega
    have hB : more t p x had = .bad t.size eSyntax := by unfold more; rw [Jv.next_end hlt, hs]; rfl
    have HB : Hid (more t p x had = .bad t.size eSyntax) := hB
    rw [hs] at hbl
    clear hB hs
    go_enter Tryz.func128, Tryz.ntmps128
    go_wp2_with (first | (go_at_call 76; refine hbl.mono ?_; clear hbl; rintro e1 w1 ⟨rfl, hR1, hW1⟩; have HR1 : Hid (Rd w1 b t t.size o) := hR1; clear hR1) | (go_at_call 102; refine (Tryz.next_bad HR1.out).mono ?_; rintro e2 w2 ⟨⟨y, hy, rfl, hy0, hy1⟩, hk3⟩) | fail)
    exact ⟨rfl, Or.inr (Or.inr ⟨_, _, HB.out, ⟨y, hy, rfl, hy0, hy1⟩, hW1.trans hk3⟩)⟩
end Go.Proofs
namespace Go.Proofs
open Go.RowKit Go.Jv
/-- The block of a value: what its six fields hold. -/
structure Jv.Vb (w : World) (x : Nat) (k : Int) (tr : Bool) (n : Int) (s : ByteArray) (ks is : Value) : Prop where
  c0 : w.cell? ⟨x, 0, none⟩ = some (.int .i64 k)
  c1 : w.cell? ⟨x, 1, none⟩ = some (.bool tr)
  c2 : w.cell? ⟨x, 2, none⟩ = some (.int .i64 n)
  c3 : w.cell? ⟨x, 3, none⟩ = some (.string s)
  c4 : w.cell? ⟨x, 4, none⟩ = some ks
  c5 : w.cell? ⟨x, 5, none⟩ = some is
  f4 : w.frozen? ⟨x, 4, none⟩ = false
  f5 : w.frozen? ⟨x, 5, none⟩ = false
  lt : x < w.heap.size
  un : ∃ cs T, w.heap[x]? = some (.cells cs T (0, 0))
theorem Jv.Vb.keep {w w' : World} {x : Nat} {k : Int} {tr : Bool} {n : Int} {s : ByteArray} {ks is : Value} (h : Jv.Vb w x k tr n s ks is) (hk : w'.heap[x]? = w.heap[x]?) (hs : w.heap.size ≤ w'.heap.size) : Jv.Vb w' x k tr n s ks is :=
  ⟨(World.cell?_of_block hk).trans h.c0, (World.cell?_of_block hk).trans h.c1, (World.cell?_of_block hk).trans h.c2, (World.cell?_of_block hk).trans h.c3, (World.cell?_of_block hk).trans h.c4, (World.cell?_of_block hk).trans h.c5, (World.frozen?_of_block hk).trans h.f4, (World.frozen?_of_block hk).trans h.f5, Nat.lt_of_lt_of_le h.lt hs, by obtain ⟨cs, T, h1⟩ := h.un; exact ⟨cs, T, hk.trans h1⟩⟩
theorem Jv.Vb.new (w : World) (k : Int) (tr : Bool) (n : Int) (s : ByteArray) (ks is : Value) (U : TypeId) : Jv.Vb (w.alloc (.cells #[.int .i64 k, .bool tr, .int .i64 n, .string s, ks, is] U)) w.heap.size k tr n s ks is := by
  refine ⟨?_, ?_, ?_, ?_, ?_, ?_, ?_, ?_, by simp, ⟨_, U, heap_alloc_new w _⟩⟩ <;> simp [go_sem]
def Jv.nilS : Value := .slice none 0 0
def Jv.ptrs (xs : List Nat) : List Value := xs.map fun x => .pointer (some ⟨x, 0, none⟩)
/-- A row of one's own, in a block that may be. -/
structure Jv.Rw (w : World) (ok : Nat → Prop) (e : TypeId) (sv : Value) (vals : List Value) : Prop where
  row : w.ownsRow 0 e 1 sv vals.length vals
  ok : ∀ k, sv.ownBlock = some k → ok k
mutual
/-- The block x holds the value v, all of it in blocks that may be. -/
def Tryz.Tr (w : World) (ok : Nat → Prop) : V → Nat → Prop
  | .null, x => ok x ∧ Jv.Vb w x 0 false 0 emp Jv.nilS Jv.nilS
  | .bool b, x => ok x ∧ Jv.Vb w x 1 b 0 emp Jv.nilS Jv.nilS
  | .int n, x => (ok x ∧ -maxInt ≤ n ∧ n ≤ maxInt) ∧ Jv.Vb w x 2 false n emp Jv.nilS Jv.nilS
  | .text s, x => ok x ∧ Jv.Vb w x 3 false 0 s Jv.nilS Jv.nilS
  | .list l, x => ok x ∧ ∃ (sv : Value) (xs : List Nat), Jv.Vb w x 4 false 0 emp Jv.nilS sv ∧ Jv.Rw w ok 24 sv (Jv.ptrs xs) ∧ Tryz.Trs w ok l xs
  | .obj ks l, x => ok x ∧ ∃ (kv sv : Value) (xs : List Nat), Jv.Vb w x 5 false 0 emp kv sv ∧ Jv.Rw w ok 9 kv (ks.map Value.string) ∧ Jv.Rw w ok 24 sv (Jv.ptrs xs) ∧ Tryz.Trs w ok l xs ∧ ks.length = xs.length
def Tryz.Trs (w : World) (ok : Nat → Prop) : List V → List Nat → Prop
  | [], xs => xs = []
  | v :: l, xs => ∃ x r, xs = x :: r ∧ Tryz.Tr w ok v x ∧ Tryz.Trs w ok l r
end
theorem Jv.row_lt {w : World} {B : Nat} {e : TypeId} {size : Nat} {v : Value} {n : Nat} {xs : List Value} (h : w.ownsRow B e size v n xs) : ∀ k, v.ownBlock = some k → B ≤ k ∧ k < w.heap.size := by
  intro k hk
  rcases h.2 with ⟨rfl, _⟩ | ⟨g, cap, cur, rfl, h2, h3, _⟩
  · cases hk
  · simp [Value.ownBlock] at hk; subst hk; exact ⟨h2, (Array.getElem?_eq_some_iff.1 h3).1⟩
theorem Jv.row_move {w w' : World} {B B' : Nat} {e : TypeId} {size : Nat} {v : Value} {n : Nat} {xs : List Value} (h : w.ownsRow B e size v n xs) (hk : ∀ g, v.ownBlock = some g → B' ≤ g ∧ w'.heap[g]? = w.heap[g]?) : w'.ownsRow B' e size v n xs := by
  refine ⟨h.1, ?_⟩
  rcases h.2 with h1 | ⟨g, cap, cur, h1, h2, h3, h4⟩
  · exact .inl h1
  · have := hk g (by rw [h1]; rfl)
    exact .inr ⟨g, cap, cur, h1, this.1, this.2.trans h3, h4⟩
theorem Jv.Rw.keep {w w' : World} {ok : Nat → Prop} {e : TypeId} {sv : Value} {vals : List Value} (h : Jv.Rw w ok e sv vals) (hk : ∀ g, ok g → g < w.heap.size → w'.heap[g]? = w.heap[g]?) : Jv.Rw w' ok e sv vals :=
  ⟨Jv.row_move h.row fun g hg => ⟨Nat.zero_le _, hk g (h.ok g hg) (Jv.row_lt h.row g hg).2⟩, h.ok⟩
theorem Jv.Rw.mono {w : World} {ok ok' : Nat → Prop} {e : TypeId} {sv : Value} {vals : List Value} (h : Jv.Rw w ok e sv vals) (hm : ∀ g, ok g → g < w.heap.size → ok' g) : Jv.Rw w ok' e sv vals :=
  ⟨h.row, fun k hk => hm k (h.ok k hk) (Jv.row_lt h.row k hk).2⟩
theorem Tryz.ofBool_any (t : Bool) (w : World) :
    Calls Tryz.prog 44 #[.bool t] w fun e w' => e = .returned (.pointer (some ⟨w.heap.size, 0, none⟩)) ∧ w' = w.alloc (.cells #[.int .i64 1, .bool t, .int .i64 0, .string emp, Jv.nilS, Jv.nilS] 64) := by
  go_enter Tryz.func44, Tryz.ntmps44
  go_wp2
  go_ret
  exact ⟨rfl, rfl⟩
theorem Tryz.ofInt_any (n : Int) (w : World) :
    Calls Tryz.prog 46 #[.int .i64 n] w fun e w' => e = .returned (.pointer (some ⟨w.heap.size, 0, none⟩)) ∧ w' = w.alloc (.cells #[.int .i64 2, .bool false, .int .i64 (max (-9007199254740991) (min n 9007199254740991)), .string emp, Jv.nilS, Jv.nilS] 64) := by
  go_enter Tryz.func46, Tryz.ntmps46
  go_wp2
  go_ret
  exact ⟨rfl, rfl⟩
mutual
theorem Tryz.Tr_keep {w w' : World} {ok : Nat → Prop} (hk : ∀ g, ok g → g < w.heap.size → w'.heap[g]? = w.heap[g]?) (hs : w.heap.size ≤ w'.heap.size) : ∀ (v : V) (x : Nat), Tryz.Tr w ok v x → Tryz.Tr w' ok v x
  | .null, x, h => by unfold Tryz.Tr at h ⊢; exact ⟨h.1, h.2.keep (hk x h.1 h.2.lt) hs⟩
  | .bool b, x, h => by unfold Tryz.Tr at h ⊢; exact ⟨h.1, h.2.keep (hk x h.1 h.2.lt) hs⟩
  | .int n, x, h => by unfold Tryz.Tr at h ⊢; exact ⟨h.1, h.2.keep (hk x h.1.1 h.2.lt) hs⟩
  | .text s, x, h => by unfold Tryz.Tr at h ⊢; exact ⟨h.1, h.2.keep (hk x h.1 h.2.lt) hs⟩
  | .list l, x, h => by
    unfold Tryz.Tr at h ⊢
    obtain ⟨h1, sv, xs, h2, h3, h4⟩ := h
    exact ⟨h1, sv, xs, h2.keep (hk x h1 h2.lt) hs, h3.keep hk, Tryz.Trs_keep hk hs l xs h4⟩
  | .obj ks l, x, h => by
    unfold Tryz.Tr at h ⊢
    obtain ⟨h1, kv, sv, xs, h2, h3, h4, h5, h6⟩ := h
    exact ⟨h1, kv, sv, xs, h2.keep (hk x h1 h2.lt) hs, h3.keep hk, h4.keep hk, Tryz.Trs_keep hk hs l xs h5, h6⟩
theorem Tryz.Trs_keep {w w' : World} {ok : Nat → Prop} (hk : ∀ g, ok g → g < w.heap.size → w'.heap[g]? = w.heap[g]?) (hs : w.heap.size ≤ w'.heap.size) : ∀ (l : List V) (xs : List Nat), Tryz.Trs w ok l xs → Tryz.Trs w' ok l xs
  | [], xs, h => by unfold Tryz.Trs at h ⊢; exact h
  | v :: l, xs, h => by
    unfold Tryz.Trs at h ⊢
    obtain ⟨x, r, h1, h2, h3⟩ := h
    exact ⟨x, r, h1, Tryz.Tr_keep hk hs v x h2, Tryz.Trs_keep hk hs l r h3⟩
end
mutual
theorem Tryz.Tr_mono {w : World} {ok ok' : Nat → Prop} (hm : ∀ g, ok g → g < w.heap.size → ok' g) : ∀ (v : V) (x : Nat), Tryz.Tr w ok v x → Tryz.Tr w ok' v x
  | .null, x, h => by unfold Tryz.Tr at h ⊢; exact ⟨hm x h.1 h.2.lt, h.2⟩
  | .bool b, x, h => by unfold Tryz.Tr at h ⊢; exact ⟨hm x h.1 h.2.lt, h.2⟩
  | .int n, x, h => by unfold Tryz.Tr at h ⊢; exact ⟨⟨hm x h.1.1 h.2.lt, h.1.2⟩, h.2⟩
  | .text s, x, h => by unfold Tryz.Tr at h ⊢; exact ⟨hm x h.1 h.2.lt, h.2⟩
  | .list l, x, h => by
    unfold Tryz.Tr at h ⊢
    obtain ⟨h1, sv, xs, h2, h3, h4⟩ := h
    exact ⟨hm x h1 h2.lt, sv, xs, h2, h3.mono hm, Tryz.Trs_mono hm l xs h4⟩
  | .obj ks l, x, h => by
    unfold Tryz.Tr at h ⊢
    obtain ⟨h1, kv, sv, xs, h2, h3, h4, h5, h6⟩ := h
    exact ⟨hm x h1 h2.lt, kv, sv, xs, h2, h3.mono hm, h4.mono hm, Tryz.Trs_mono hm l xs h5, h6⟩
theorem Tryz.Trs_mono {w : World} {ok ok' : Nat → Prop} (hm : ∀ g, ok g → g < w.heap.size → ok' g) : ∀ (l : List V) (xs : List Nat), Tryz.Trs w ok l xs → Tryz.Trs w ok' l xs
  | [], xs, h => by unfold Tryz.Trs at h ⊢; exact h
  | v :: l, xs, h => by
    unfold Tryz.Trs at h ⊢
    obtain ⟨x, r, h1, h2, h3⟩ := h
    exact ⟨x, r, h1, Tryz.Tr_mono hm v x h2, Tryz.Trs_mono hm l r h3⟩
end
theorem Tryz.Trs_len {w : World} {ok : Nat → Prop} : ∀ (l : List V) (xs : List Nat), Tryz.Trs w ok l xs → xs.length = l.length
  | [], xs, h => by unfold Tryz.Trs at h; subst h; rfl
  | v :: l, xs, h => by
    unfold Tryz.Trs at h
    obtain ⟨x, r, rfl, h2, h3⟩ := h
    simp [Tryz.Trs_len l r h3]
theorem Tryz.Trs_snoc {w : World} {ok : Nat → Prop} {v : V} {x : Nat} (hv : Tryz.Tr w ok v x) : ∀ (l : List V) (xs : List Nat), Tryz.Trs w ok l xs → Tryz.Trs w ok (l ++ [v]) (xs ++ [x])
  | [], xs, h => by
    unfold Tryz.Trs at h; subst h
    exact ⟨x, [], rfl, hv, rfl⟩
  | u :: l, xs, h => by
    unfold Tryz.Trs at h
    obtain ⟨y, r, rfl, h2, h3⟩ := h
    exact ⟨y, r ++ [x], rfl, h2, Tryz.Trs_snoc hv l r h3⟩
/-- A value's pointer as an answer. -/
def Tryz.Vok (b : Nat) (t : ByteArray) (o : Nat) (w : World) (v : V) (q : Nat) (en : Ending) (w' : World) : Prop :=
  ∃ x, en = .returned (.pointer (some ⟨x, 0, none⟩)) ∧ Tryz.Tr w' (fun g => w.heap.size ≤ g) v x ∧ Rd w' b t q o ∧ Wk b w w'
theorem Tryz.vok_new {b : Nat} {t : ByteArray} {o q : Nat} {w w1 : World} {ob : Obj} {v : V} (hR : Rd w1 b t q o) (hW : Wk b w w1) (hv : w.heap.size ≤ w1.heap.size → Tryz.Tr (w1.alloc ob) (fun g => w.heap.size ≤ g) v w1.heap.size) :
    Tryz.Vok b t o w v q (.returned (.pointer (some ⟨w1.heap.size, 0, none⟩))) (w1.alloc ob) :=
  ⟨w1.heap.size, rfl, hv hW.size, hR.below ((Below.refl _ _).alloc (Nat.le_refl _) _), hW.below ((Below.refl w1.heap.size _).alloc (Nat.le_refl _) _) hW.size⟩
theorem Jv.bytes_ne {a : ByteArray} {l : List UInt8} (h : ¬ a = ⟨l.toArray⟩) : (a.toList == l) = false := by
  rw [ByteArray.toList_eq]
  simp only [beq_eq_false_iff_ne, ne_eq]
  intro e
  exact h (by obtain ⟨⟨x⟩⟩ := a; simp at e; subst e; rfl)
theorem Jv.bytes_eq (a : ByteArray) (l : List UInt8) : a = ⟨l.toArray⟩ ↔ a.data.toList = l := by
  constructor
  · rintro rfl; simp
  · intro h; obtain ⟨⟨x⟩⟩ := a; simp at h; subst h; rfl
set_option maxHeartbeats 1000000 in
theorem Tryz.word_any {w : World} {b : Nat} {t : ByteArray} {p o : Nat} (h : Rd w b t p o) :
    Calls Tryz.prog 104 #[.pointer (some ⟨b, 0, none⟩)] w fun en w' =>
      (∃ v q, word t p = .ok (v, q) ∧ Tryz.Vok b t o w v q en w') ∨ (∃ p' e, word t p = .bad p' e ∧ Bad 88 p' e en w' ∧ Wk b w w') := by
  have hrun := Tryz.run_isLetter h
  obtain ⟨c0, c1, c2, f0, f1, f2, hb, hp, ht, ho⟩ := h
  have hw : word t p = (if (sub t p (run isLetter t p)).data.toList = [110, 117, 108, 108] then .ok (.null, run isLetter t p) else if (sub t p (run isLetter t p)).data.toList = [116, 114, 117, 101] then .ok (.bool true, run isLetter t p) else if (sub t p (run isLetter t p)).data.toList = [102, 97, 108, 115, 101] then .ok (.bool false, run isLetter t p) else .bad p eSyntax) := rfl
  have HW : Hid (word t p = _) := hw
  clear hw
  generalize run isLetter t p = q at *
  generalize sub t p q = s at *
  by_cases h1 : s = ⟨#[110, 117, 108, 108]⟩
  · subst h1
    go_enter Tryz.func104, Tryz.ntmps104
    go_wp2_with (first | (go_at_call 100; refine hrun.mono ?_; rintro e1 w1 ⟨rfl, hR1, hW1⟩) | fail)
    go_ret
    exact Or.inl ⟨.null, q, HW.out.trans (by simp), Tryz.vok_new hR1 hW1 (v := .null) (fun h => ⟨h, Jv.Vb.new w1 0 false 0 emp Jv.nilS Jv.nilS _⟩)⟩
  · have n1 : (s.toList == [110, 117, 108, 108]) = false := Jv.bytes_ne h1
    have m1 : ¬ s.data.toList = [110, 117, 108, 108] := fun h => h1 ((Jv.bytes_eq s _).2 h)
    clear h1
    by_cases h2 : s = ⟨#[116, 114, 117, 101]⟩
    · subst h2
      go_enter Tryz.func104, Tryz.ntmps104
      go_wp2_with (first | (go_at_call 100; refine hrun.mono ?_; rintro e1 w1 ⟨rfl, hR1, hW1⟩) | (go_at_call 44; refine (Tryz.ofBool_any _ _).mono ?_; rintro e2 w2 ⟨rfl, rfl⟩) | fail)
      go_ret
      exact Or.inl ⟨.bool true, q, HW.out.trans (by simp), Tryz.vok_new hR1 hW1 (v := .bool true) (fun h => ⟨h, Jv.Vb.new w1 1 true 0 emp Jv.nilS Jv.nilS _⟩)⟩
    · have n2 : (s.toList == [116, 114, 117, 101]) = false := Jv.bytes_ne h2
      have m2 : ¬ s.data.toList = [116, 114, 117, 101] := fun h => h2 ((Jv.bytes_eq s _).2 h)
      clear h2
      by_cases h3 : s = ⟨#[102, 97, 108, 115, 101]⟩
      · subst h3
        go_enter Tryz.func104, Tryz.ntmps104
        go_wp2_with (first | (go_at_call 100; refine hrun.mono ?_; rintro e1 w1 ⟨rfl, hR1, hW1⟩) | (go_at_call 44; refine (Tryz.ofBool_any _ _).mono ?_; rintro e2 w2 ⟨rfl, rfl⟩) | fail)
        go_ret
        exact Or.inl ⟨.bool false, q, HW.out.trans (by simp), Tryz.vok_new hR1 hW1 (v := .bool false) (fun h => ⟨h, Jv.Vb.new w1 1 false 0 emp Jv.nilS Jv.nilS _⟩)⟩
      · have n3 : (s.toList == [102, 97, 108, 115, 101]) = false := Jv.bytes_ne h3
        have m3 : ¬ s.data.toList = [102, 97, 108, 115, 101] := fun h => h3 ((Jv.bytes_eq s _).2 h)
        clear h3
        go_enter Tryz.func104, Tryz.ntmps104
        go_wp2_with (first | (go_at_call 100; refine hrun.mono ?_; rintro e1 w1 ⟨rfl, hR1, hW1⟩) | (go_at_call 53; refine (Tryz.fault_any _ _ _).mono ?_; rintro e9 w9 ⟨rfl, rfl⟩) | fail)
        have hq := Jv.bad_new (T := 88) (U := 100) (n := 0) (p := p) (e := 20) hR1.hb
        exact ⟨rfl, Or.inr ⟨_, _, HW.out.trans ((if_neg m1).trans ((if_neg m2).trans (if_neg m3))), hq.1, hW1.trans hq.2⟩⟩
end Go.Proofs
