/-
  The reader's 'quoted'.
-/
import Derived.Test.YtejibjeidklnkaaGreatDoorJr6
import Derived.Test.YtejibjeidklnkaaGreatDoorJo
namespace Go.Proofs
open Go.RowKit Go.Jv
theorem Jv.escape_ok {t : ByteArray} {p r q : Nat} (h : escape t p = .ok (r, q)) : r ≤ 1114111 ∧ p < q := by
  unfold escape at h
  cases hn : next t (p + 1) with
  | bad a b => rw [hn] at h; cases h
  | ok c =>
    rw [hn] at h
    simp only [R.bind] at h
    cases hx : escOf c with
    | some x =>
      rw [hx] at h
      injection h with h; injection h with h1 h2
      have := x.toNat_lt
      omega
    | none =>
      rw [hx] at h
      cases hu : unit t p p with
      | bad a b => rw [hu] at h; cases h
      | ok high =>
        rw [hu] at h
        have := Jv.unit_lt hu
        simp only at h
        split at h
        · injection h with h; injection h with h1 h2; omega
        · split at h
          · cases h
          · cases hv : unit t p (p + 6) with
            | bad a b => rw [hv] at h; cases h
            | ok low =>
              rw [hv] at h
              simp only at h
              split at h
              · cases h
              · injection h with h; injection h with h1 h2; omega
theorem Tryz.escape_yes {w : World} {b : Nat} {t : ByteArray} {p o r q : Nat} (he : escape t p = .ok (r, q)) (h : Rd w b t p o) (hlt : p < t.size) :
    Calls Tryz.prog 43 #[.pointer (some ⟨b, 0, none⟩)] w fun en w' => en = .returned (.int .i32 r) ∧ Rd w' b t q o ∧ Wk b w w' := by
  refine (Tryz.escape_any h hlt).mono fun e w' hq => ?_
  rcases hq with ⟨r', q', hm, rfl, hR, hW⟩ | ⟨p', e', hm, _⟩
  · rw [he] at hm; injection hm with hm; injection hm with h1 h2; subst h1; subst h2; exact ⟨rfl, hR, hW⟩
  · rw [he] at hm; cases hm
theorem Tryz.escape_no {w : World} {b : Nat} {t : ByteArray} {p o p1 e1 : Nat} (he : escape t p = .bad p1 e1) (h : Rd w b t p o) (hlt : p < t.size) :
    Calls Tryz.prog 43 #[.pointer (some ⟨b, 0, none⟩)] w fun en w' => Bad 40 p1 e1 en w' ∧ Wk b w w' := by
  refine (Tryz.escape_any h hlt).mono fun e w' hq => ?_
  rcases hq with ⟨r', q', hm, _⟩ | ⟨p', e', hm, hB, hW⟩
  · rw [he] at hm; cases hm
  · rw [he] at hm; injection hm with h1 h2; subst h1; subst h2; exact ⟨hB, hW⟩
theorem Tryz.sign_yes {w : World} {b : Nat} {t : ByteArray} {p o r q : Nat} (he : signAt t p = .ok (r, q)) (h : Rd w b t p o) (hlt : p < t.size) (hT : Tryz.Tb w) (hbg : 8 ≤ b) :
    Calls Tryz.prog 44 #[.pointer (some ⟨b, 0, none⟩)] w fun en w' => en = .returned (.int .i32 r) ∧ Rd w' b t q o ∧ Wk b w w' := by
  refine (Tryz.sign_any h hlt hT hbg).mono fun e w' hq => ?_
  rcases hq with ⟨r', q', hm, rfl, hR, hW⟩ | ⟨p', e', hm, _⟩
  · rw [he] at hm; injection hm with hm; injection hm with h1 h2; subst h1; subst h2; exact ⟨rfl, hR, hW⟩
  · rw [he] at hm; cases hm
theorem Tryz.sign_no {w : World} {b : Nat} {t : ByteArray} {p o p1 e1 : Nat} (he : signAt t p = .bad p1 e1) (h : Rd w b t p o) (hlt : p < t.size) (hT : Tryz.Tb w) (hbg : 8 ≤ b) :
    Calls Tryz.prog 44 #[.pointer (some ⟨b, 0, none⟩)] w fun en w' => Bad 40 p1 e1 en w' ∧ Wk b w w' := by
  refine (Tryz.sign_any h hlt hT hbg).mono fun e w' hq => ?_
  rcases hq with ⟨r', q', hm, _⟩ | ⟨p', e', hm, hB, hW⟩
  · rw [he] at hm; cases hm
  · rw [he] at hm; injection hm with h1 h2; subst h1; subst h2; exact ⟨hB, hW⟩
/-- One sign more. -/
theorem Tryz.rune_more {w0 w : World} {b : Nat} {t : ByteArray} {q o r : Nat} {v : Value} {out : List UInt8} (hr : r ≤ 1114111) (hl : out.length ≤ 20000) (hrow : w.ownsRow w0.heap.size 5 1 v out.length (Lib.byteCells out)) (h : Rd w b t q o) (hW : Wk b w0 w) (hb0 : b < w0.heap.size) :
    Calls Tryz.prog 42 #[v, .int .i32 r] w fun en w' => ∃ v', en = .returned v' ∧ w'.ownsRow w0.heap.size 5 1 v' (out ++ Lib.encodeRune r).length (Lib.byteCells (out ++ Lib.encodeRune r)) ∧ Rd w' b t q o ∧ Wk b w0 w' := by
  refine (Tryz.utf8_AppendRune_plain w0.heap.size v out.length (Lib.byteCells out) r (by omega) (by omega) w hrow (by omega) hW.size).mono fun e w' hq => ?_
  obtain ⟨v', rfl, hrow', ob, hg⟩ := hq
  have hrb := Jv.row_block hrow
  refine ⟨v', rfl, ?_, Jv.rd_keep h ?_ ?_, Jv.wk_grown hW hg hrb⟩
  · rw [← Lib.byteCells_encodeRune] at hrow'
    have e2 : Lib.byteCells (out ++ Lib.encodeRune r) = Lib.byteCells out ++ Lib.byteCells (Lib.encodeRune r) := by simp [Lib.byteCells]
    rw [e2, List.length_append]
    rw [Lib.byteCells_length] at hrow'
    exact hrow'
  · have hb := h.hb
    exact (hg.block b (by simp; omega) (fun e => by have := hrb b e.symm; omega)).trans (Below.heap_alloc w ob b hb)
  · have := hg.size; simp at this; omega
set_option maxHeartbeats 4000000 in
theorem Tryz.quoted_any {w : World} {b : Nat} {t : ByteArray} {p o : Nat} (h : Rd w b t p o) (hT : Tryz.Tb w) (hbg : 8 ≤ b) :
    Calls Tryz.prog 30 #[.pointer (some ⟨b, 0, none⟩)] w fun en w' =>
      (∃ s q, Go.Jv.quoted t p = .ok (s, q) ∧ en = .returned (.string s) ∧ Rd w' b t q o ∧ Wk b w w') ∨ (∃ p' e, Go.Jv.quoted t p = .bad p' e ∧ Bad 40 p' e en w' ∧ Wk b w w') := by
  have hb0 := h.hb
  have hp := h.hp
  have ht := h.ht
  by_cases hlt : p < t.size
  · by_cases hc : t.get! p = 34
    · have htk : ∀ w', _ := fun (_ : Unit) => Tryz.take_ok (c := 34) h hlt hc
      have hQ : Go.Jv.quoted t p = quotedFrom t (t.size + 1 - (p + 1)) (p + 1) [] := by unfold Go.Jv.quoted Go.Jv.take; rw [if_pos ⟨hlt, hc⟩]; rfl
      have HQ : Hid (Go.Jv.quoted t p = quotedFrom t (t.size + 1 - (p + 1)) (p + 1) []) := hQ
      have htk' : Calls Tryz.prog 41 #[.pointer (some ⟨b, 0, none⟩), .int .u8 34] w fun en w' => en = .returned (.tuple #[]) ∧ Rd w' b t (p + 1) o ∧ Wk b w w' := Tryz.take_ok (c := 34) h hlt hc
      clear htk hQ hc h
      go_enter Tryz.func30, Tryz.ntmps30
      go_wp2_with (first | (go_at_call 41; refine htk'.mono ?_; rintro e w1 ⟨rfl, hR1, hW1⟩) | fail)
      go_loopg [3] (t.size + 1 - (p + 1)) (fun k v wr => ∃ (q : Nat) (out : List UInt8), t.size + 1 - q ≤ k ∧ quotedFrom t k q out = Go.Jv.quoted t p ∧ out.length ≤ 4 * q ∧ wr.ownsRow w.heap.size 5 1 v out.length (Lib.byteCells out) ∧ Rd wr b t q o ∧ Wk b w wr)
      case atStart => exact ⟨p + 1, [], Nat.le_refl _, HQ.out.symm, by simp, ⟨rfl, .inl ⟨rfl, rfl⟩⟩, hR1, hW1⟩
      case round =>
        obtain ⟨q, out, hk, he, hl, hrow, hR, hW⟩ := hrel
        have hj0 : ∃ j, gk = j + 1 := ⟨gk - 1, by have := hR.hp; omega⟩
        obtain ⟨j, hj⟩ := hj0
        have HE : Hid (quotedFrom t gk q out = Go.Jv.quoted t p) := he
        have HROW : Hid (wr.ownsRow w.heap.size 5 1 u3 out.length (Lib.byteCells out)) := hrow
        have HR : Hid (Rd wr b t q o) := hR
        have hTr := hT.wk hW hbg
        have hqs := hR.hp
        clear he hrow hR1 hW1 HQ htk'
        by_cases hlq : q < t.size
        · have hnx := Tryz.next_ok hR hlq
          obtain ⟨c0, c1, c2, f0, f1, f2, hb, -, -, -⟩ := hR
          have hnn : next t q = .ok (t.get! q) := by unfold next; rw [if_pos hlq]
          generalize hcg : t.get! q = c at hnx hnn
          clear hcg
          by_cases hc1 : c = 34
          · subst hc1
            have HB : Hid (Go.Jv.quoted t p = .ok (⟨out.toArray⟩, q + 1)) := HE.out.symm.trans (by rw [hj, quotedFrom, hnn]; rfl)
            have hnx' : Calls Tryz.prog 25 #[.pointer (some ⟨b, 0, none⟩)] wr fun en w' => en = .returned (.int .u8 34) ∧ ∃ n, w' = wr.drewN n := hnx
            have hcv : ∀ n, (convert 32 9 u3).run Tryz.prog ((wr.drewN n).setCell ⟨b, 1, none⟩ (.int .i64 ((q : Int) + 1))) = .ok (.string ⟨out.toArray⟩) ((wr.drewN n).setCell ⟨b, 1, none⟩ (.int .i64 ((q : Int) + 1))) := fun n =>
              Tryz.gathered (B := w.heap.size) (Jv.row_kept (w := wr) HROW.out fun g h1 _ => (Below.heap_setCell (wr.drewN n) ⟨b, 1, none⟩ _ g (by show g ≠ b; omega)).trans rfl)
            clear hnx hnn hj hk
            go_wp2_with (first | (go_at_call 25; refine hnx'.mono ?_; rintro e w2 ⟨rfl, n, rfl⟩) | fail)
            go_ret
            exact Or.inl ⟨_, _, HB.out, rfl, HR.out.atN _ _ _ (by omega) hlq, (hW.drewN _).setCell _ _ _⟩
          · have hcn : ¬ (c.toNat : Int) = 34 := fun e => hc1 (UInt8.toNat_inj.1 (by simpa using (by omega : c.toNat = 34)))
            by_cases hc2 : c < 32
            · have HB : Hid (Go.Jv.quoted t p = .bad q eSyntax) := HE.out.symm.trans (by rw [hj, quotedFrom, hnn]; simp only [R.bind]; rw [if_neg hc1, if_pos hc2])
              have hcl : (c.toNat : Int) < 32 := by have : c.toNat < 32 := hc2; omega
              clear hnn hj hk hc1 hc2
              go_wp2_with (first | (go_at_call 25; refine hnx.mono ?_; rintro e w2 ⟨rfl, n, rfl⟩) | (go_at_call 12; refine (Tryz.fault_any _ _ _).mono ?_; rintro e w3 ⟨rfl, rfl⟩) | fail)
              have hq := Jv.bad_new (T := 40) (U := 48) (n := n) (p := q) (e := 20) hb
              exact ⟨rfl, Or.inr ⟨_, _, HB.out, hq.1, hW.trans hq.2⟩⟩
            · have hcl : ¬ (c.toNat : Int) < 32 := fun e => hc2 (by show c.toNat < 32; omega)
              by_cases hc3 : c = 92
              · subst hc3
                have hqf : ∀ n, quotedFrom t (n + 1) q out = (escape t q).bind fun x => quotedFrom t n x.2 (out ++ Lib.encodeRune x.1) := fun n => by rw [quotedFrom, hnn]; rfl
                have hnx' : Calls Tryz.prog 25 #[.pointer (some ⟨b, 0, none⟩)] wr fun en w' => en = .returned (.int .u8 92) ∧ ∃ n, w' = wr.drewN n := hnx
                clear hnx hnn hc1 hc2 hcn hcl
                have hnx := hnx'
                clear hnx'
                cases hx : escape t q with
                | bad p1 e1 =>
                  have HB : Hid (Go.Jv.quoted t p = .bad p1 e1) := HE.out.symm.trans (by rw [hj, hqf, hx]; rfl)
                  have hcal := fun n => Tryz.escape_no hx (HR.out.drewN n) hlq
                  clear hx
                  go_wp2_with (first | (go_at_call 25; refine hnx.mono ?_; rintro e w2 ⟨rfl, n, rfl⟩) | (go_at_call 43; refine (hcal _).mono ?_; rintro e w3 ⟨⟨x, hx, rfl, hx0, hx1⟩, hk3⟩) | fail)
                  exact ⟨rfl, Or.inr ⟨_, _, HB.out, ⟨x, hx, rfl, hx0, hx1⟩, (hW.drewN _).trans hk3⟩⟩
                | ok rq =>
                  obtain ⟨r, q'⟩ := rq
                  have HB : Hid (quotedFrom t j q' (out ++ Lib.encodeRune r) = Go.Jv.quoted t p) := (by rw [← HE.out, hj, hqf, hx]; rfl)
                  have hcal := fun n => Tryz.escape_yes hx (HR.out.drewN n) hlq
                  have hok := Jv.escape_ok hx
                  obtain ⟨hr, hqq⟩ := hok
                  have hlen := Lib.runeCells_le r
                  rw [Lib.runeCells_length] at hlen
                  have HJ : Hid (gk = j + 1) := hj
                  clear hx hj
                  go_wp2_with (first | (go_at_call 25; refine hnx.mono ?_; rintro e w2 ⟨rfl, n, rfl⟩) | (go_at_call 43; refine (hcal _).mono ?_; rintro e w3 ⟨rfl, hR3, hW3⟩; have hW4 := (hW.drewN _).trans hW3; have hrow3 := Jv.row_wk (Jv.row_kept (w' := wr.drewN _) HROW.out (fun _ _ _ => rfl)) hW3 hb0) | (go_at_call 42; refine (Tryz.rune_more hr (by omega) hrow3 hR3 hW4 hb0).mono ?_; rintro e w4 ⟨v', rfl, hrow4, hR4, hW5⟩) | fail)
                  go_roundg j
                  case measure => have := HJ.out; omega
                  case rel =>
                    have h1 := HJ.out
                    have h2 := hR4.hp
                    exact ⟨q', out ++ Lib.encodeRune r, by omega, HB.out, by rw [List.length_append]; omega, hrow4, hR4, hW5⟩
              · have hc3n : ¬ (c.toNat : Int) = 92 := fun e => hc3 (UInt8.toNat_inj.1 (by simpa using (by omega : c.toNat = 92)))
                have hqf : ∀ n, quotedFrom t (n + 1) q out = (signAt t q).bind fun x => quotedFrom t n x.2 (out ++ Lib.encodeRune x.1) := fun n => by rw [quotedFrom, hnn]; simp only [R.bind]; rw [if_neg hc1, if_neg hc2, if_neg hc3]
                clear hnn hc1 hc2 hc3
                cases hx : signAt t q with
                | bad p1 e1 =>
                  have HB : Hid (Go.Jv.quoted t p = .bad p1 e1) := HE.out.symm.trans (by rw [hj, hqf, hx]; rfl)
                  have hcal := fun n => Tryz.sign_no hx (HR.out.drewN n) hlq (hTr.drewN n) hbg
                  clear hx
                  go_wp2_with (first | (go_at_call 25; refine hnx.mono ?_; rintro e w2 ⟨rfl, n, rfl⟩) | (go_at_call 44; refine (hcal _).mono ?_; rintro e w3 ⟨⟨x, hx, rfl, hx0, hx1⟩, hk3⟩) | fail)
                  exact ⟨rfl, Or.inr ⟨_, _, HB.out, ⟨x, hx, rfl, hx0, hx1⟩, (hW.drewN _).trans hk3⟩⟩
                | ok rq =>
                  obtain ⟨r, q'⟩ := rq
                  have HB : Hid (quotedFrom t j q' (out ++ Lib.encodeRune r) = Go.Jv.quoted t p) := (by rw [← HE.out, hj, hqf, hx]; rfl)
                  have hcal := fun n => Tryz.sign_yes hx (HR.out.drewN n) hlq (hTr.drewN n) hbg
                  have hok := Jv.signAt_ok hx hlq
                  obtain ⟨hr, hqq⟩ := hok
                  have hlen := Lib.runeCells_le r
                  rw [Lib.runeCells_length] at hlen
                  have HJ : Hid (gk = j + 1) := hj
                  clear hx hj
                  go_wp2_with (first | (go_at_call 25; refine hnx.mono ?_; rintro e w2 ⟨rfl, n, rfl⟩) | (go_at_call 44; refine (hcal _).mono ?_; rintro e w3 ⟨rfl, hR3, hW3⟩; have hW4 := (hW.drewN _).trans hW3; have hrow3 := Jv.row_wk (Jv.row_kept (w' := wr.drewN _) HROW.out (fun _ _ _ => rfl)) hW3 hb0) | (go_at_call 42; refine (Tryz.rune_more hr (by omega) hrow3 hR3 hW4 hb0).mono ?_; rintro e w4 ⟨v', rfl, hrow4, hR4, hW5⟩) | fail)
                  go_roundg j
                  case measure => have := HJ.out; omega
                  case rel =>
                    have h1 := HJ.out
                    have h2 := hR4.hp
                    exact ⟨q', out ++ Lib.encodeRune r, by omega, HB.out, by rw [List.length_append]; omega, hrow4, hR4, hW5⟩
        · obtain rfl : q = t.size := by omega
          have HB : Hid (Go.Jv.quoted t p = .bad t.size eSyntax) := HE.out.symm.trans (by rw [hj, quotedFrom]; unfold next; rw [if_neg hlq]; rfl)
          have hnx := Tryz.next_bad hR
          clear hj hk hR
          go_wp2_with (first | (go_at_call 25; refine hnx.mono ?_; rintro e w2 ⟨⟨x, hx, rfl, hx0, hx1⟩, hk3⟩) | fail)
          exact ⟨rfl, Or.inr ⟨_, _, HB.out, ⟨x, hx, rfl, hx0, hx1⟩, hW.trans hk3⟩⟩
    · have hq : Go.Jv.quoted t p = .bad p eSyntax := by unfold Go.Jv.quoted Go.Jv.take; rw [if_neg (fun h => hc h.2)]; rfl
      have HB : Hid (Go.Jv.quoted t p = .bad p eSyntax) := hq
      have htk : Calls Tryz.prog 41 #[.pointer (some ⟨b, 0, none⟩), .int .u8 34] w fun en w' => Bad 40 p eSyntax en w' ∧ Wk b w w' := Tryz.take_other (c := 34) h hlt hc
      clear hq hc
      go_enter Tryz.func30, Tryz.ntmps30
      go_wp2_with (first | (go_at_call 41; refine htk.mono ?_; rintro e w2 ⟨⟨x, hx, rfl, hx0, hx1⟩, hk3⟩) | fail)
      exact ⟨rfl, Or.inr ⟨_, _, HB.out, ⟨x, hx, rfl, hx0, hx1⟩, hk3⟩⟩
  · obtain rfl : p = t.size := by omega
    have hq : Go.Jv.quoted t t.size = .bad t.size eSyntax := by unfold Go.Jv.quoted Go.Jv.take; rw [if_neg (fun h => hlt h.1)]; rfl
    have HB : Hid (Go.Jv.quoted t t.size = .bad t.size eSyntax) := hq
    have htk : Calls Tryz.prog 41 #[.pointer (some ⟨b, 0, none⟩), .int .u8 34] w fun en w' => Bad 40 t.size eSyntax en w' ∧ Wk b w w' := Tryz.take_end (c := 34) h
    clear hq
    go_enter Tryz.func30, Tryz.ntmps30
    go_wp2_with (first | (go_at_call 41; refine htk.mono ?_; rintro e w2 ⟨⟨x, hx, rfl, hx0, hx1⟩, hk3⟩) | fail)
    exact ⟨rfl, Or.inr ⟨_, _, HB.out, ⟨x, hx, rfl, hx0, hx1⟩, hk3⟩⟩
end Go.Proofs
