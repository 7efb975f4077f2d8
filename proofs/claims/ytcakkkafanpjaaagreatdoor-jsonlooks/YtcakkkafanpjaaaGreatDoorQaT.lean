/-
  Laid together by packg.py of TmW TmX.
-/
import Derived.Test.YtcakkkafanpjaaaGreatDoorQaR
import Derived.Test.YtcakkkafanpjaaaGreatDoorQaS
namespace Go.Jv
open Go.RowKit
theorem value_at {t : ByteArray} {d q : Nat} (hl : q < t.size) : value t d q = (if isLetter (t.get! q) then word t q
      else if isDigit (t.get! q) || t.get! q == 45 then number t q
      else if t.get! q = 34 then (quoted t q).bind fun x => .ok (.text x.1, x.2)
      else if t.get! q = 91 then (match d with
        | 0 => .bad q eDepth
        | d + 1 => listFrom t (value t d) 66 (q + 1) [])
      else if t.get! q = 123 then (match d with
        | 0 => .bad q eDepth
        | d + 1 => objFrom t (value t d) 66 (q + 1) [] [])
      else .bad q eSyntax) := by
  cases d <;> (unfold value; rw [Go.Proofs.Jv.next_at hl]; rfl)
end Go.Jv
namespace Go.Proofs
open Go.RowKit Go.Jv
set_option maxRecDepth 20000 in
set_option maxHeartbeats 2000000 in
theorem Tryz.dsDeep {w : World} {p : Nat} {t : ByteArray} {q : Nat} (h : Tryz.DS w p t 10 (.ok ((), q) : R (Unit × Nat))) (b : Bool) :
    Calls Tryz.prog 83 #[.pointer (some ⟨p, 0, none⟩), .bool b] w fun e w' => Tryz.Vd w p t 10 (.bad q eDepth) e w' := by
  have hp := h.lt
  have HA : Hid (∀ ob, Tryz.DS (w.alloc ob) p t 10 (.ok ((), q) : R (Unit × Nat))) := fun ob => h.heap (Below.heap_alloc _ _ _ hp)
  have HK : Hid (∀ ob, Wk p w (w.alloc ob)) := fun ob => (Wk.refl p w).below ((Below.refl w.heap.size _).alloc (Nat.le_refl _) _) (Nat.le_refl _)
  clear h
  cases b
  all_goals go_enter Tryz.func83, Tryz.ntmps83
  all_goals go_upto_region 6 with (fail)
  all_goals obtain ⟨W, hW⟩ : ∃ ob, w.alloc ob = w.alloc ob := ⟨.cells #[] 0, rfl⟩
  all_goals clear hW W
  all_goals (generalize hob : w.alloc _ = w1; have H1 : Hid (Tryz.DS w1 p t 10 (.ok ((), q) : R (Unit × Nat))) := (by rw [← hob]; exact HA.out _); have H2 : Hid (Wk p w w1) := (by rw [← hob]; exact HK.out _); clear hob HA HK)
  all_goals obtain ⟨i, er, c0, c1, c2, c3, fz, hi, hs, -, hy, -⟩ := H1.out.place
  all_goals obtain ⟨e1, rfl⟩ := hy _ rfl
  all_goals have e1 : q = i := e1
  all_goals subst e1
  all_goals clear hy fz
  all_goals go_wp2_with (first
    | (go_at_call 59; refine (Tryz.dsFail Unit H1.out q 21 (by decide)).mono ?_; rintro e5 w5 ⟨⟨v5, rfl⟩, G3, G4, -⟩)
    | fail)
  all_goals go_ret
  all_goals exact Tryz.vd_none rfl G3.dead (H2.out.trans G4) none
theorem Tryz.Vd.ofDrew {w w' : World} {p : Nat} {t : ByteArray} {o n : Nat} {Q : R (V × Nat)} {e : Ending} (h : Tryz.Vd (w.drewN n) p t o Q e w') : Tryz.Vd w p t o Q e w' := ⟨h.val, h.rd, ((Wk.refl p w).drewN n).trans h.wk⟩
set_option maxRecDepth 20000 in
set_option maxHeartbeats 4000000 in
theorem Tryz.dsValue : ∀ d, Tryz.ValD d := by
  intro d
  induction d using Nat.strongRecOn with
  | ind d IH =>
  intro w p t o Q h ho
  have HIH : Hid (∀ m, m < d → Tryz.ValD m) := IH
  have HO : Hid (o + d = 10) := ho
  have HH : Hid (Tryz.DS w p t o Q) := h
  have kn := Tryz.dsNext h
  clear IH ho
  cases Q with
  | bad a e =>
    have hb : byteJ t (.bad a e : R (Unit × Nat)) = -1 := rfl
    rw [hb] at kn
    obtain ⟨i, er, c0, c1, -⟩ := h.place
    clear hb h
    go_enter Tryz.func57, Tryz.ntmps57
    go_wp2_with (first
      | (go_at_call 58; refine kn.mono ?_; clear kn; rintro e1 w1 ⟨rfl, n1, rfl⟩)
      | (go_at_call 78; refine (Tryz.letterI_any (-1) _).mono ?_; rintro e2 w2 ⟨rfl, rfl⟩)
      | (go_at_call 79; refine (Tryz.digitI_any (-1) _).mono ?_; rintro e3 w3 ⟨rfl, rfl⟩)
      | (go_at_call 59; refine (Tryz.dsFail Unit (HH.out.drewN n1) i 20 (by decide)).mono ?_; rintro e5 w5 ⟨⟨v5, rfl⟩, G3, G4, -⟩)
      | fail)
    go_ret
    exact Tryz.vd_none rfl G3.dead (((Wk.refl p w).drewN n1).trans G4) none
  | ok y =>
    obtain ⟨⟨⟩, q⟩ := y
    rw [Rbind_ok]
    show Calls _ _ _ _ fun e w' => Tryz.Vd w p t o (value t d q) e w'
    obtain ⟨i, er, c0, c1, -, -, -, -, -, -, hy, -⟩ := h.place
    obtain ⟨e1, -⟩ := hy _ rfl
    have e1 : q = i := e1
    subst e1
    clear hy h
    by_cases hl : q < t.size
    · have hb : byteJ t (.ok ((), q) : R (Unit × Nat)) = (((t.get! q).toNat : Nat) : Int) := if_pos hl
      rw [hb] at kn
      clear hb
      have hv : value t d q = _ := value_at hl
      obtain ⟨c, hc⟩ : ∃ c, t.get! q = c := ⟨_, rfl⟩
      rw [hc] at hv kn
      by_cases h1 : isLetter c = true
      · have HVL : Hid (value t d q = word t q) := hv.trans (if_pos h1)
        have hlt : ltI ((c.toNat : Nat) : Int) = true := (ltI_byte c).trans h1
        generalize ((c.toNat : Nat) : Int) = z at *
        have kl : ∀ W, Calls Tryz.prog 78 #[.int .i64 z] W fun en w' => en = .returned (.bool true) ∧ w' = W := fun W => (by have h1 := Tryz.letterI_any z W; rw [hlt] at h1; exact h1)
        have kd := Tryz.digitI_any z
        clear hv
        go_enter Tryz.func57, Tryz.ntmps57
        go_wp2_with (first
          | (go_at_call 58; refine kn.mono ?_; clear kn; rintro e1 w1 ⟨rfl, n1, rfl⟩)
          | (go_at_call 78; refine (kl _).mono ?_; clear kl; rintro e2 w2 ⟨rfl, rfl⟩)
          | (go_at_call 79; refine (kd _).mono ?_; clear kd; rintro e3 w3 ⟨rfl, rfl⟩)
          | (go_at_call 80; refine (Tryz.dsWord (HH.out.drewN n1)).mono ?_; rintro e4 w4 ⟨⟨a4, rfl, hv4⟩, G1, G2⟩)
          | fail)
        go_ret
        rw [HVL.out]
        exact Tryz.Vd.ofDrew ⟨⟨a4, rfl, hv4⟩, G1, G2⟩
      · have hlt : ltI ((c.toNat : Nat) : Int) = false := (ltI_byte c).trans (by simpa using h1)
        have hv2 := hv.trans (if_neg h1)
        clear hv
        by_cases h2 : isDigit c = true
        · have HVL : Hid (value t d q = number t q) := hv2.trans (if_pos (by rw [h2]; rfl))
          have hdg : dgI ((c.toNat : Nat) : Int) = true := (dgI_byte c).trans h2
          generalize ((c.toNat : Nat) : Int) = z at *
          have kl : ∀ W, Calls Tryz.prog 78 #[.int .i64 z] W fun en w' => en = .returned (.bool false) ∧ w' = W := fun W => (by have h1 := Tryz.letterI_any z W; rw [hlt] at h1; exact h1)
          have kd : ∀ W, Calls Tryz.prog 79 #[.int .i64 z] W fun en w' => en = .returned (.bool true) ∧ w' = W := fun W => (by have h1 := Tryz.digitI_any z W; rw [hdg] at h1; exact h1)
          clear hv2 hlt hdg
          go_enter Tryz.func57, Tryz.ntmps57
          go_wp2_with (first
            | (go_at_call 58; refine kn.mono ?_; clear kn; rintro e1 w1 ⟨rfl, n1, rfl⟩)
            | (go_at_call 78; refine (kl _).mono ?_; clear kl; rintro e2 w2 ⟨rfl, rfl⟩)
            | (go_at_call 79; refine (kd _).mono ?_; clear kd; rintro e3 w3 ⟨rfl, rfl⟩)
            | (go_at_call 81; refine (Tryz.dsNumber (HH.out.drewN n1)).mono ?_; rintro e4 w4 ⟨⟨a4, rfl, hv4⟩, G1, G2⟩)
            | fail)
          go_ret
          rw [HVL.out]
          exact Tryz.Vd.ofDrew ⟨⟨a4, rfl, hv4⟩, G1, G2⟩
        · have hdg : dgI ((c.toNat : Nat) : Int) = false := (dgI_byte c).trans (by simpa using h2)
          have kl : ∀ W, Calls Tryz.prog 78 #[.int .i64 ((c.toNat : Nat) : Int)] W fun en w' => en = .returned (.bool false) ∧ w' = W := fun W => (by have h1 := Tryz.letterI_any ((c.toNat : Nat) : Int) W; rw [hlt] at h1; exact h1)
          have kd : ∀ W, Calls Tryz.prog 79 #[.int .i64 ((c.toNat : Nat) : Int)] W fun en w' => en = .returned (.bool false) ∧ w' = W := fun W => (by have h1 := Tryz.digitI_any ((c.toNat : Nat) : Int) W; rw [hdg] at h1; exact h1)
          clear hlt hdg
          by_cases h45 : c = 45
          · subst h45
            have HVL : Hid (value t d q = number t q) := hv2.trans (if_pos (by rfl))
            clear hv2 h1 h2
            have hz : (((45 : UInt8).toNat : Nat) : Int) = 45 := rfl
            rw [hz] at kn kl kd
            clear hz
            go_enter Tryz.func57, Tryz.ntmps57
            go_wp2_with (first
              | (go_at_call 58; refine kn.mono ?_; clear kn; rintro e1 w1 ⟨rfl, n1, rfl⟩)
              | (go_at_call 78; refine (kl _).mono ?_; clear kl; rintro e2 w2 ⟨rfl, rfl⟩)
              | (go_at_call 79; refine (kd _).mono ?_; clear kd; rintro e3 w3 ⟨rfl, rfl⟩)
              | (go_at_call 81; refine (Tryz.dsNumber (HH.out.drewN n1)).mono ?_; rintro e4 w4 ⟨⟨a4, rfl, hv4⟩, G1, G2⟩)
              | fail)
            go_ret
            rw [HVL.out]
            exact Tryz.Vd.ofDrew ⟨⟨a4, rfl, hv4⟩, G1, G2⟩
          · have hv3 := hv2.trans (if_neg (by have h5 : (c == 45) = false := beq_eq_false_iff_ne.2 h45; rw [h5]; simpa using h2))
            clear hv2
            by_cases h34 : c = 34
            · subst h34
              have HVL : Hid (value t d q = (Go.Jv.quoted t q).bind fun x => .ok (.text x.1, x.2)) := hv3.trans (if_pos rfl)
              clear hv3 h1 h2 h45
              have hz : (((34 : UInt8).toNat : Nat) : Int) = 34 := rfl
              rw [hz] at kn kl kd
              clear hz
              go_enter Tryz.func57, Tryz.ntmps57
              go_wp2_with (first
                | (go_at_call 58; refine kn.mono ?_; clear kn; rintro e1 w1 ⟨rfl, n1, rfl⟩)
                | (go_at_call 78; refine (kl _).mono ?_; clear kl; rintro e2 w2 ⟨rfl, rfl⟩)
                | (go_at_call 79; refine (kd _).mono ?_; clear kd; rintro e3 w3 ⟨rfl, rfl⟩)
                | (go_at_call 82; refine (Tryz.dsText (HH.out.drewN n1)).mono ?_; rintro e4 w4 ⟨⟨s, rfl, hs⟩, G1, G2⟩)
                | fail)
              go_ret
              rw [HVL.out]
              revert G1
              revert hs
              show (∀ s' q', Go.Jv.quoted t q = .ok (s', q') → s = s') → Tryz.DS w4 p t o (Go.Jv.quoted t q) → _
              cases Go.Jv.quoted t q with
              | bad a e => exact fun _ G1 => Tryz.vd_none rfl (G1.heap (Below.heap_alloc _ _ _ G1.lt)).dead ((((Wk.refl p w).drewN n1).trans G2).below ((Below.refl w4.heap.size _).alloc (Nat.le_refl _) _) (by have h1 := G2.size; exact h1)) _
              | ok x =>
                obtain ⟨s2, q2⟩ := x
                intro hs G1
                obtain rfl := hs s2 q2 rfl
                exact Tryz.vd_new (v := .text s) rfl (G1.val _) (((Wk.refl p w).drewN n1).trans G2) fun h => ⟨h, Jv.Vb.new _ 3 false 0 s Jv.nilS Jv.nilS _⟩
            · have hv4 := hv3.trans (if_neg h34)
              clear hv3
              by_cases h91 : c = 91
              · subst h91
                have hv5 := hv4.trans (if_pos rfl)
                clear hv4 h1 h2 h45 h34
                have hz : (((91 : UInt8).toNat : Nat) : Int) = 91 := rfl
                rw [hz] at kn kl kd
                clear hz
                have kb : Hid (∀ n, Calls Tryz.prog 83 #[.pointer (some ⟨p, 0, none⟩), .bool false] (w.drewN n) fun e w' => Tryz.Vd (w.drewN n) p t o (value t d q) e w') := fun n => (by
                  rw [hv5]
                  cases d with
                  | zero =>
                    obtain rfl : o = 10 := by have := HO.out; omega
                    exact Tryz.dsDeep (HH.out.drewN n) false
                  | succ m => exact Tryz.dsList (HIH.out m (by omega)) (HH.out.drewN n) (by have := HO.out; omega) hl)
                clear hv5
                go_enter Tryz.func57, Tryz.ntmps57
                go_wp2_with (first
                  | (go_at_call 58; refine kn.mono ?_; clear kn; rintro e1 w1 ⟨rfl, n1, rfl⟩)
                  | (go_at_call 78; refine (kl _).mono ?_; clear kl; rintro e2 w2 ⟨rfl, rfl⟩)
                  | (go_at_call 79; refine (kd _).mono ?_; clear kd; rintro e3 w3 ⟨rfl, rfl⟩)
                  | (go_at_call 83; refine (kb.out n1).mono ?_; rintro e4 w4 ⟨⟨a4, rfl, hv4⟩, G1, G2⟩)
                  | fail)
                go_ret
                exact Tryz.Vd.ofDrew ⟨⟨a4, rfl, hv4⟩, G1, G2⟩
              · have hv5 := hv4.trans (if_neg h91)
                clear hv4
                by_cases h123 : c = 123
                · subst h123
                  have hv6 := hv5.trans (if_pos rfl)
                  clear hv5 h1 h2 h45 h34 h91
                  have hz : (((123 : UInt8).toNat : Nat) : Int) = 123 := rfl
                  rw [hz] at kn kl kd
                  clear hz
                  have kb : Hid (∀ n, Calls Tryz.prog 83 #[.pointer (some ⟨p, 0, none⟩), .bool true] (w.drewN n) fun e w' => Tryz.Vd (w.drewN n) p t o (value t d q) e w') := fun n => (by
                    rw [hv6]
                    cases d with
                    | zero =>
                      obtain rfl : o = 10 := by have := HO.out; omega
                      exact Tryz.dsDeep (HH.out.drewN n) true
                    | succ m => exact Tryz.dsObject (HIH.out m (by omega)) (HH.out.drewN n) (by have := HO.out; omega) hl)
                  clear hv6
                  go_enter Tryz.func57, Tryz.ntmps57
                  go_wp2_with (first
                    | (go_at_call 58; refine kn.mono ?_; clear kn; rintro e1 w1 ⟨rfl, n1, rfl⟩)
                    | (go_at_call 78; refine (kl _).mono ?_; clear kl; rintro e2 w2 ⟨rfl, rfl⟩)
                    | (go_at_call 79; refine (kd _).mono ?_; clear kd; rintro e3 w3 ⟨rfl, rfl⟩)
                    | (go_at_call 83; refine (kb.out n1).mono ?_; rintro e4 w4 ⟨⟨a4, rfl, hv4⟩, G1, G2⟩)
                    | fail)
                  go_ret
                  exact Tryz.Vd.ofDrew ⟨⟨a4, rfl, hv4⟩, G1, G2⟩
                · have HVL : Hid (value t d q = .bad q eSyntax) := hv5.trans (if_neg h123)
                  have ne : ∀ b : UInt8, c ≠ b → ((((c.toNat : Nat) : Int)) == ((b.toNat : Nat) : Int)) = false := fun b h => beq_eq_false_iff_ne.2 fun e => h (UInt8.toNat_inj.1 (by omega))
                  have n45 : ((((c.toNat : Nat) : Int)) == 45) = false := ne 45 h45
                  have n34 : ((((c.toNat : Nat) : Int)) == 34) = false := ne 34 h34
                  have n91 : ((((c.toNat : Nat) : Int)) == 91) = false := ne 91 h91
                  have n123 : ((((c.toNat : Nat) : Int)) == 123) = false := ne 123 h123
                  clear ne hv5 h1 h2 h45 h34 h91 h123
                  generalize ((c.toNat : Nat) : Int) = z at *
                  go_enter Tryz.func57, Tryz.ntmps57
                  go_wp2_with (first
                    | (go_at_call 58; refine kn.mono ?_; clear kn; rintro e1 w1 ⟨rfl, n1, rfl⟩)
                    | (go_at_call 78; refine (kl _).mono ?_; clear kl; rintro e2 w2 ⟨rfl, rfl⟩)
                    | (go_at_call 79; refine (kd _).mono ?_; clear kd; rintro e3 w3 ⟨rfl, rfl⟩)
                    | (go_at_call 59; refine (Tryz.dsFail Unit (HH.out.drewN n1) q 20 (by decide)).mono ?_; rintro e5 w5 ⟨⟨v5, rfl⟩, G3, G4, -⟩)
                    | fail)
                  go_ret
                  rw [HVL.out]
                  exact Tryz.vd_none rfl G3.dead (((Wk.refl p w).drewN n1).trans G4) none
    · have hb : byteJ t (.ok ((), q) : R (Unit × Nat)) = -1 := if_neg hl
      rw [hb] at kn
      clear hb
      have HVL : Hid (value t d q = .bad q eSyntax) := value_end hl
      have kl := Tryz.letterI_any (-1)
      have kd := Tryz.digitI_any (-1)
      go_enter Tryz.func57, Tryz.ntmps57
      go_wp2_with (first
        | (go_at_call 58; refine kn.mono ?_; clear kn; rintro e1 w1 ⟨rfl, n1, rfl⟩)
        | (go_at_call 78; refine (kl _).mono ?_; clear kl; rintro e2 w2 ⟨rfl, rfl⟩)
        | (go_at_call 79; refine (kd _).mono ?_; clear kd; rintro e3 w3 ⟨rfl, rfl⟩)
        | (go_at_call 59; refine (Tryz.dsFail Unit (HH.out.drewN n1) q 20 (by decide)).mono ?_; rintro e5 w5 ⟨⟨v5, rfl⟩, G3, G4, -⟩)
        | fail)
      go_ret
      rw [HVL.out]
      exact Tryz.vd_none rfl G3.dead (((Wk.refl p w).drewN n1).trans G4) none
end Go.Proofs
namespace Go.Proofs
open Go.RowKit Go.Jv
/-- What the document's 'Parse' answers. -/
def Tryz.DParse (t : ByteArray) (w : World) (en : Ending) (w' : World) : Prop :=
  Below w.heap.size w w' ∧
  ((∃ v x, parse t = .ok v ∧ en = .returned (.tuple #[.pointer (some ⟨x, 0, none⟩), .int .i64 0, .int .i64 0]) ∧ Tryz.Td w' (fun g => w.heap.size ≤ g) v x) ∨
   (∃ p e : Nat, parse t = .bad p e ∧ e ≠ 0 ∧ en = .returned (.tuple #[.pointer none, .int .i64 p, .int .i64 e])))
theorem Tryz.DS.fault {α : Type} {w : World} {p : Nat} {t : ByteArray} {o a e : Nat} (h : Tryz.DS w p t o (.bad a e : R (α × Nat))) : w.cell? ⟨p, 3, none⟩ = some (.int .i64 e) ∧ w.cell? ⟨p, 4, none⟩ = some (.int .i64 a) ∧ e ≠ 0 := by
  obtain ⟨x, h1, -, h3⟩ := h.ex
  obtain ⟨-, -, -, c3, c4⟩ := Tryz.Dc.c h1
  obtain ⟨e1, e2, e3⟩ := h3
  rw [e1] at c3
  rw [e3] at c4
  exact ⟨c3, c4, e2⟩
set_option maxHeartbeats 4000000 in
theorem Tryz.dsParse_long (t : ByteArray) (a : Option Addr) (c : Nat) (w : World) (h : 4096 < t.size) (hs : t.size ≤ 140737488355328) :
    Calls Tryz.prog 21 #[.slice a t.size c] w fun en w' => Tryz.DParse t w en w' := by
  have HP : Hid (parse t = .bad 4096 eSize) := (by show parse t = _; unfold parse; rw [if_pos h])
  have h' : (4096 : Int) < t.size := by omega
  go_enter Tryz.func21, Tryz.ntmps21
  go_wp2
  go_ret3
  exact ⟨Below.refl _ _, .inr ⟨4096, 22, HP.out, by decide, rfl⟩⟩
set_option maxRecDepth 20000 in
set_option maxHeartbeats 4000000 in
theorem Tryz.dsParse_short (t : ByteArray) (a : Option Addr) (c : Nat) (w : World) (h : t.size ≤ 4096)
    (hcv : ∀ W : World, Below w.heap.size w W → (convert 22 9 (.slice a t.size c)).run Tryz.prog W = .ok (.string t) W) :
    Calls Tryz.prog 21 #[.slice a t.size c] w fun en w' => Tryz.DParse t w en w' := by
  have HP : Hid (parse t = wholeText t) := (by show parse t = _; unfold parse; rw [if_neg (by omega)])
  have HWT : Hid (wholeText t = (value t 10 (blanks t 0)).bind fun x => if blanks t x.2 < t.size then .bad (blanks t x.2) eSyntax else .ok x.1) := rfl
  have h' : ¬ (4096 : Int) < t.size := by omega
  have hcv' := hcv _ (Below.refl _ _)
  have HLN : Hid (t.size ≤ 4096) := h
  clear hcv
  go_enter Tryz.func21, Tryz.ntmps21
  go_upto_region 4 with (fail)
  have HB1 : Hid (Below w.heap.size w (w.alloc (.cells #[.string t, .int .i64 0, .int .i64 0, .int .i64 0, .int .i64 0] 95))) := (Below.refl w.heap.size _).alloc (Nat.le_refl _) _
  have HD1 : Hid (Tryz.DS (w.alloc (.cells #[.string t, .int .i64 0, .int .i64 0, .int .i64 0, .int .i64 0] 95)) w.heap.size t 0 (.ok ((), 0) : R (Unit × Nat))) := ⟨⟨t, 0, 0, 0, 0⟩, heap_alloc_new w _, ⟨rfl, Nat.zero_le _, h, rfl, Nat.zero_le _⟩, rfl, rfl⟩
  generalize w.alloc _ = w1 at *
  obtain ⟨p, hp⟩ : ∃ p, w.heap.size = p := ⟨_, rfl⟩
  rw [hp] at HD1 ⊢
  have HPP : Hid (w.heap.size = p) := hp
  clear hp hcv'
  go_upto_region 5 with (first | (go_at_call 56; refine (Tryz.dsBlanks HD1.out).mono ?_; rintro e2 w2 ⟨⟨v2, rfl⟩, G1, G2, -⟩) | fail)
  have kv := Tryz.dsValue 10 w2 p t 0 _ G1 rfl
  have HB2 : Hid (Below w.heap.size w w2) := Wk.toBelow HB1.out G2 (Nat.le_of_eq HPP.out)
  have hpl : p < w2.heap.size := G1.lt
  clear HD1 HB1 G1 G2
  go_upto_region 6 with (first | (go_at_call 57; refine kv.mono ?_; clear kv; rintro e3 w3 ⟨⟨a3, rfl, hv3⟩, G3, G4⟩) | fail)
  have HB3 : Hid (Below w.heap.size w w3) := Wk.toBelow HB2.out G4 (Nat.le_of_eq HPP.out)
  have HV3 : Hid (∀ v q, value t 10 (blanks t 0) = .ok (v, q) → ∃ x, a3 = some ⟨x, 0, none⟩ ∧ Tryz.Td w3 (fun g => p < g) v x) := fun v q e => (by
    obtain ⟨x, h1, h2⟩ := hv3 v q e
    exact ⟨x, h1, Tryz.Td_mono (fun g hg _ => Nat.lt_of_lt_of_le hpl hg) v x h2⟩)
  have G3' : Tryz.DS w3 p t 0 (value t 10 (blanks t 0)) := G3
  clear hv3 G4 G3
  generalize value t 10 (blanks t 0) = Q at *
  go_upto_region 7 with (first | (go_at_call 56; refine (Tryz.dsBlanks G3').mono ?_; rintro e4 w4 ⟨⟨v4, rfl⟩, G5, G6, -⟩) | fail)
  have HB4 : Hid (Below w.heap.size w w4) := Wk.toBelow HB3.out G6 (Nat.le_of_eq HPP.out)
  have HG6 : Hid (Wk p w3 w4) := G6
  clear G3' G6
  cases Q with
  | bad a e =>
    have HG : Hid (Tryz.DS w4 p t 0 (.bad a e : R (V × Nat))) := G5
    have kn := Tryz.dsNext HG.out
    have hb : byteJ t (.bad a e : R (V × Nat)) = -1 := rfl
    rw [hb] at kn
    obtain ⟨c3, c4, he⟩ := HG.out.fault
    have q1 : ((e : Int) != 0) = true := (by simp only [bne_iff_ne, ne_eq]; omega)
    have HQ : Hid (parse t = .bad a e) := HP.out.trans HWT.out
    have HE : Hid (e ≠ 0) := he
    clear hb HWT he
    go_wp2_with (first | (go_at_call 58; refine kn.mono ?_; clear kn; rintro e5 w5 ⟨rfl, n5, rfl⟩) | fail)
    all_goals go_quiet (fail)
    all_goals go_wp2
    all_goals go_ret3
    all_goals exact ⟨Wk.toBelow HB4.out (Wk.same (Wk.refl p w4) rfl rfl rfl rfl) (Nat.le_of_eq HPP.out), .inr ⟨a, e, HQ.out, HE.out, rfl⟩⟩
  | ok vq =>
    obtain ⟨v, q⟩ := vq
    obtain ⟨x, rfl, hTd⟩ := HV3.out v q rfl
    have HTd : Hid (Tryz.Td w3 (fun g => p < g) v x) := hTd
    have HQ : Hid (parse t = if blanks t q < t.size then .bad (blanks t q) eSyntax else .ok v) := HP.out.trans HWT.out
    have HG : Hid (Tryz.DS w4 p t 0 (.ok (v, blanks t q) : R (V × Nat))) := G5
    clear hTd HV3 HWT HP G5
    generalize blanks t q = q2 at *
    have kn := Tryz.dsNext HG.out
    obtain ⟨i, er, c0, c1, c2, c3, fz, -, -, -, hy, -⟩ := HG.out.place
    obtain ⟨e1, rfl⟩ := hy _ rfl
    have e1 : q2 = i := e1
    subst e1
    clear hy fz
    by_cases hl : q2 < t.size
    · have hb : byteJ t (.ok (v, q2) : R (V × Nat)) = (((t.get! q2).toNat : Nat) : Int) := if_pos hl
      rw [hb] at kn
      have hb0 : (0 : Int) ≤ (((t.get! q2).toNat : Nat) : Int) := by omega
      have HQ2 : Hid (parse t = .bad q2 eSyntax) := HQ.out.trans (if_pos hl)
      generalize (((t.get! q2).toNat : Nat) : Int) = jz at *
      clear hb HQ
      go_wp2_with (first
        | (go_at_call 58; refine kn.mono ?_; clear kn; rintro e5 w5 ⟨rfl, n5, rfl⟩)
        | (go_at_call 59; refine (Tryz.dsFail Unit (HG.out.drewN n5) q2 20 (by decide)).mono ?_; rintro e6 w6 ⟨⟨v6, rfl⟩, G7, G8, -⟩; have G7' : Tryz.DS w6 p t 0 (.bad q2 20 : R (Unit × Nat)) := G7; obtain ⟨d3, d4, -⟩ := G7'.fault; have HG8 : Hid (Wk p w4 w6) := ((Wk.refl p w4).drewN n5).trans G8; clear G7 G7' G8)
        | fail)
      all_goals go_quiet (fail)
      all_goals go_wp2
      all_goals go_ret3
      all_goals exact ⟨Wk.toBelow HB4.out (Wk.same HG8.out rfl rfl rfl rfl) (Nat.le_of_eq HPP.out), .inr ⟨q2, 20, HQ2.out, by decide, rfl⟩⟩
    · have hb : byteJ t (.ok (v, q2) : R (V × Nat)) = -1 := if_neg hl
      rw [hb] at kn
      have HQ2 : Hid (parse t = .ok v) := HQ.out.trans (if_neg hl)
      clear hb HQ
      go_wp2_with (first
        | (go_at_call 58; refine kn.mono ?_; clear kn; rintro e5 w5 ⟨rfl, n5, rfl⟩)
        | fail)
      go_ret3
      exact ⟨Wk.toBelow HB4.out (Wk.same (Wk.refl p w4) rfl rfl rfl rfl) (Nat.le_of_eq HPP.out), .inl ⟨v, x, HQ2.out, rfl, Tryz.Td_mono (fun g hg _ => by have := HPP.out; show w.heap.size ≤ g; omega) v x (Tryz.Td_keep (w' := w4.drewN n5) (fun g hg hlt => HG6.out.block g hlt (Nat.ne_of_gt hg)) HG6.out.size v x HTd.out)⟩⟩
theorem Tryz.dsParse (t : ByteArray) (a : Option Addr) (c : Nat) (w : World) (hs : t.size ≤ 140737488355328)
    (hcv : ∀ W : World, Below w.heap.size w W → (convert 22 9 (.slice a t.size c)).run Tryz.prog W = .ok (.string t) W) :
    Calls Tryz.prog 21 #[.slice a t.size c] w fun en w' => Tryz.DParse t w en w' := by
  by_cases h : 4096 < t.size
  · exact Tryz.dsParse_long t a c w h hs
  · exact Tryz.dsParse_short t a c w (by omega) hcv
end Go.Proofs
