/-
  Laid together by packg.py of TmI.
-/
import Derived.Test.YtcakkkafanpjaaaGreatDoorPTmH
import Derived.Test.YtcakkkafanpjaaaGreatDoorQaN
import Derived.Laws.AppendOwnNone
namespace Go.Jv
open Go.RowKit
theorem textQ_is {α : Type} (t : ByteArray) (Q : R (α × Nat)) : (Q.bind fun y => Go.Jv.quoted t y.2) = (Go.Proofs.Jv.muQ t 34 Q).bind fun y => quotedFrom t (t.size + 1 - y.2) y.2 [] := by
  cases Q with
  | bad a e => rfl
  | ok y =>
    show Go.Jv.quoted t y.2 = ((Go.Jv.take t y.2 34).bind fun q => .ok (y.1, q)).bind fun z => quotedFrom t (t.size + 1 - z.2) z.2 []
    unfold Go.Jv.quoted
    cases Go.Jv.take t y.2 34 <;> rfl
end Go.Jv
namespace Go.Proofs
open Go.RowKit Go.Jv
/-- 'append' of a text, in a region that draws. -/
theorem Tryz.step_str {ops : Array Oper} {o : Oper} {a : Act} {K : Act → World → Prop} {Q : Exit → Act → World → Prop} {E : Prop} (hgd : o.guard = none) (s x : Operand)
    (ho : o.op = .call { callee := .builtin .append, args := #[s, x], argTypes := #[22, 9] })
    (B : Nat) (v : Value) (n : Nat) (xs : List Value) (hs : a.eval s = v) {w : World} (hrow : w.ownsRow B 5 1 v n xs) (hB : B ≤ w.heap.size) (t : ByteArray) (hx : a.eval x = .string t) (hlen : n + t.size ≤ 140737488355328)
    (h : ∀ v' w', w'.ownsRow B 5 1 v' (n + t.size) (xs ++ Lib.byteCells t.data.toList) → w.grownBy w' v.ownBlock → K (a.put o.dst v') w') :
    if Region.wanted o (yielded ops a.tmps) = true then Oper.wp Tryz.prog o a w K Q else E := by
  have hw : Region.wanted o (yielded ops a.tmps) = true := by simp [Region.wanted, hgd]
  rw [if_pos hw]
  obtain ⟨i0, hi0, hz0, hz1, hz2⟩ := info_parts Tryz.info_u8
  obtain ⟨v', w', hr, h2, h3, h4⟩ := Lib.run_append_own_string (P := Tryz.prog) w B 22 9 o.type 5 i0 Tryz.underlying22 Tryz.underlying9 hi0 hz0 hz1 hz2 v n xs hrow t (by unfold maxLen; omega) hlen hB
  unfold Oper.wp
  simp [execOp, ho, resolve, invoke, builtin, hs, hx, hr, Result.andThen]
  exact h v' w' h2 h3
theorem Jv.wk_grown0 {b : Nat} {w0 w1 w2 : World} {row : Option Nat} (h : Wk b w0 w1) (g : w1.grownBy w2 row) (hr : ∀ k, row = some k → w0.heap.size ≤ k) : Wk b w0 w2 :=
  ⟨g.os.trans h.os, g.tape.trans h.tape, g.output.trans h.output, Nat.le_trans h.size g.size, fun k hk hb => (g.block k (Nat.lt_of_lt_of_le hk h.size) (fun e => by have := hr k e.symm; omega)).trans (h.block k hk hb)⟩
/-- What 'text' answers. -/
structure Tryz.TxtOk (w : World) (p : Nat) (t : ByteArray) (o : Nat) (X : R (ByteArray × Nat)) (en : Ending) (w' : World) : Prop where
  val : ∃ s, en = .returned (.string s) ∧ ∀ s' q, X = .ok (s', q) → s = s'
  rd : Tryz.DS w' p t o X
  wk : Wk p w w'
/-- Between two signs. -/
structure Tryz.Tq (w : World) (p : Nat) (t : ByteArray) (o : Nat) (X : R (ByteArray × Nat)) (k : Nat) (v : Value) (wr : World) : Prop where
  wk : Wk p w wr
  st : (∃ a e, X = .bad a e ∧ Tryz.DS wr p t o (.bad a e : R (Unit × Nat))) ∨ (∃ q out, t.size + 1 - q ≤ k ∧ quotedFrom t k q out = X ∧ out.length ≤ 4 * q ∧ wr.ownsRow w.heap.size 5 1 v out.length (Lib.byteCells out) ∧ Tryz.DS wr p t o (.ok ((), q) : R (Unit × Nat)))
theorem Tryz.tq_more {w w3 w5 : World} {p : Nat} {t : ByteArray} {o : Nat} {X : R (ByteArray × Nat)} {j q2 : Nat} {v v5 : Value} {out : List UInt8} (hp : p < w.heap.size) (hwk : Wk p w w3) (hrow : w3.ownsRow w.heap.size 5 1 v out.length (Lib.byteCells out)) (hg : w3.grownBy w5 v.ownBlock)
    {more : List UInt8} (hX : quotedFrom t j q2 (out ++ more) = X) (hj : t.size + 1 - q2 ≤ j) (hl : (out ++ more).length ≤ 4 * q2) (hrow5 : w5.ownsRow w.heap.size 5 1 v5 (out ++ more).length (Lib.byteCells (out ++ more))) {β : Type} {y : β × Nat} (hy : y.2 = q2) (hS : Tryz.DS w3 p t o (.ok y : R (β × Nat))) : Tryz.Tq w p t o X j v5 w5 := by
  have hb := Jv.row_block hrow
  refine ⟨Jv.wk_grown0 hwk hg hb, .inr ⟨q2, out ++ more, hj, hX, hl, hrow5, ?_⟩⟩
  have h1 := (hS.val ()).heap (w' := w5) (hg.block p (Nat.lt_of_lt_of_le hp hwk.size) (fun e => by have := hb p e.symm; omega))
  rw [hy] at h1
  exact h1
theorem Tryz.tq_step {w w3 w5 : World} {p : Nat} {t : ByteArray} {o : Nat} {X : R (ByteArray × Nat)} {j q q2 : Nat} {v v5 : Value} {out : List UInt8} (hp : p < w.heap.size) (hwk : Wk p w w3) (hrow : w3.ownsRow w.heap.size 5 1 v out.length (Lib.byteCells out)) (hg : w3.grownBy w5 v.ownBlock)
    {more : List UInt8} (hX : quotedFrom t j q2 (out ++ more) = X) (hj : t.size + 1 - q2 ≤ j) (hl : (out ++ more).length ≤ 4 * q2) (hrow5 : w5.ownsRow w.heap.size 5 1 v5 (out ++ more).length (Lib.byteCells (out ++ more))) (hS : Tryz.DS w3 p t o (.ok ((), q) : R (Unit × Nat))) (z : Int) (hz : z = (q2 : Int)) (hq : q2 ≤ t.size) : Tryz.Tq w p t o X j v5 (w5.setCell ⟨p, 1, none⟩ (.int .i64 z)) := by
  have hb := Jv.row_block hrow
  have h1 := hS.heap (w' := w5) (hg.block p (Nat.lt_of_lt_of_le hp hwk.size) (fun e => by have := hb p e.symm; omega))
  exact ⟨(Jv.wk_grown0 hwk hg hb).setCell _ _ _, .inr ⟨q2, out ++ more, hj, hX, hl, Jv.row_kept hrow5 fun g h2 _ => Below.heap_setCell w5 ⟨p, 1, none⟩ _ g (by show g ≠ p; omega), h1.move0 z q2 hz hq ()⟩⟩
set_option maxRecDepth 20000 in
set_option maxHeartbeats 2000000 in
theorem Tryz.dsText {α : Type} {w : World} {p : Nat} {t : ByteArray} {o : Nat} {Q : R (α × Nat)} (h : Tryz.DS w p t o Q) :
    Calls Tryz.prog 82 #[.pointer (some ⟨p, 0, none⟩)] w fun e w' => Tryz.TxtOk w p t o (Q.bind fun y => Go.Jv.quoted t y.2) e w' := by
  have km := Tryz.dsMust h 34
  have hpw := h.lt
  rw [textQ_is]
  generalize Jv.muQ t 34 Q = S at *
  obtain ⟨X, hX⟩ : ∃ X, (S.bind fun y => quotedFrom t (t.size + 1 - y.2) y.2 []) = X := ⟨_, rfl⟩
  have HX : Hid ((S.bind fun y => quotedFrom t (t.size + 1 - y.2) y.2 []) = X) := hX
  rw [hX]
  clear hX h
  go_enter Tryz.func82, Tryz.ntmps82
  go_wp2_with (first | (go_at_call 111; refine km.mono ?_; clear km; rintro e w1 ⟨⟨v, rfl⟩, G1, G2, G3⟩) | fail)
  have HST : Hid (∃ k, Tryz.Tq w p t o X k (.slice none 0 0) w1) := (by
    have hx := HX.out
    cases S with
    | bad a e => exact ⟨0, G2, .inl ⟨a, e, hx.symm, G1.dead⟩⟩
    | ok y => exact ⟨t.size + 1 - y.2, G2, .inr ⟨y.2, [], Nat.le_refl _, hx, Nat.zero_le _, ⟨rfl, .inl ⟨rfl, rfl⟩⟩, G1.val ()⟩⟩)
  clear HX G1 G2 G3
  obtain ⟨k0, HT0⟩ := HST.out
  have HT : Hid (Tryz.Tq w p t o X k0 (.slice none 0 0) w1) := HT0
  clear HST HT0
  go_loopg [3] k0 (fun k v wr => Hid (Tryz.Tq w p t o X k v wr))
  case atStart => exact HT.out
  case round =>
    clear HT
    obtain ⟨hwk, hst⟩ := hrel.out
    clear hrel
    rcases hst with ⟨a, e, hx, hS⟩ | ⟨q, out, hk, he, hl, hrow, hS⟩
    · obtain ⟨i, er, c0, c1, -, c3, -, -, -, -, -, hbd⟩ := hS.place
      obtain ⟨e1, e2⟩ := hbd a e rfl
      have q1 : ((er : Int) == 0) = false := beq_eq_false_iff_ne.2 (by omega)
      have HE : Hid (Tryz.TxtOk w p t o X (.returned (.string ⟨#[]⟩)) wr) := ⟨⟨_, rfl, fun s' q e => by rw [hx] at e; cases e⟩, by rw [hx]; exact hS.dead, hwk⟩
      clear hx hS hwk hbd e1 e2
      go_wp2
      go_ret
      exact HE.out
    · have hqs := hS.le
      obtain ⟨j, hj⟩ : ∃ j, gk = j + 1 := ⟨gk - 1, by omega⟩
      obtain ⟨i, er, c0, c1, -, c3, fz, -, hts, -, hy, -⟩ := hS.place
      obtain ⟨e1, e2⟩ := hy _ rfl
      have e1 : q = i := e1
      subst e1 e2
      have f1 := fz 1
      have k1 : Hid (∀ W : World, W.heap = wr.heap → Calls Tryz.prog 58 #[.pointer (some ⟨p, 0, none⟩)] W fun e w' => e = .returned (.int .i64 (byteJ t (.ok ((), q) : R (Unit × Nat)))) ∧ ∃ n, w' = W.drewN n) := fun W h => Tryz.dsNext (hS.heap (by rw [h]))
      have kf : Hid (∀ (a k : Nat), k ≠ 0 → ∀ W : World, W.heap = wr.heap → Calls Tryz.prog 59 #[.pointer (some ⟨p, 0, none⟩), .int .i64 a, .int .i64 k] W fun e w' => (∃ v, e = .returned v) ∧ Tryz.DS w' p t o (.bad a k : R (Unit × Nat)) ∧ Wk p W w' ∧ w'.heap.size = W.heap.size) := fun a k hk W e => Tryz.dsFail Unit (hS.heap (w' := W) (by rw [e])) a k hk
      have HSS : Hid (∀ W : World, W.heap = wr.heap → Tryz.DS W p t o (.ok ((), q) : R (Unit × Nat))) := fun W e => hS.heap (by rw [e])
      have HWK : Hid (∀ (W : World), W.heap = wr.heap → W.os = wr.os → W.tape = wr.tape → W.output = wr.output → Wk p w W) := fun W e1 e2 e3 e4 => Wk.same hwk e1 e2 e3 e4
      have HROW : Hid (wr.ownsRow w.heap.size 5 1 u3 out.length (Lib.byteCells out)) := hrow
      have HXE : Hid (quotedFrom t (j + 1) q out = X) := by rw [← hj]; exact he
      have HKJ : Hid (gk = j + 1 ∧ t.size + 1 - q ≤ gk ∧ out.length ≤ 4 * q) := ⟨hj, hk, hl⟩
      have hstep : quotedFrom t (j + 1) q out = (next t q).bind fun c => if c = 34 then .ok (⟨out.toArray⟩, q + 1) else if c < 32 then .bad q eSyntax else if c = 92 then (escape t q).bind fun x => quotedFrom t j x.2 (out ++ Lib.encodeRune x.1) else (signAt t q).bind fun x => quotedFrom t j x.2 (out ++ Lib.encodeRune x.1) := rfl
      clear hy fz hS hwk hrow he hk hl hj
      by_cases hlq : q < t.size
      · rw [Jv.next_at hlq, Rbind_ok] at hstep
        have hb : byteJ t (.ok ((), q) : R (Unit × Nat)) = (((t.get! q).toNat : Nat) : Int) := if_pos hlq
        rw [hb] at k1
        clear hb
        have kE : t.get! q = 92 → Hid (∀ W : World, W.heap = wr.heap → Calls Tryz.prog 112 #[.pointer (some ⟨p, 0, none⟩)] W fun e w' => Tryz.Esc W p t o (escape t q) e w') := fun e W hW => Tryz.dsEscape (HSS.out W hW) hlq e
        have hl2 : q ≤ 4096 := by omega
        by_cases h34 : t.get! q = 34
        · have HX : Hid (X = .ok (⟨out.toArray⟩, q + 1)) := HXE.out.symm.trans (hstep.trans (if_pos h34))
          have hcv : ∀ n, (convert 22 9 u3).run Tryz.prog ((wr.drewN n).setCell ⟨p, 1, none⟩ (.int .i64 ((q : Int) + 1))) = .ok (.string ⟨out.toArray⟩) ((wr.drewN n).setCell ⟨p, 1, none⟩ (.int .i64 ((q : Int) + 1))) := fun n =>
            Tryz.gathered (B := w.heap.size) (Jv.row_kept (w := wr) HROW.out fun g h1 _ => (Below.heap_setCell (wr.drewN n) ⟨p, 1, none⟩ _ g (by show g ≠ p; omega)).trans rfl)
          have HD : Hid (∀ (W : World) (z : Int), W.heap = wr.heap → z = ((q + 1 : Nat) : Int) → Tryz.DS (W.setCell ⟨p, 1, none⟩ (.int .i64 z)) p t o (.ok ((⟨out.toArray⟩ : ByteArray), q + 1) : R (ByteArray × Nat))) := fun W z e hz => (HSS.out W e).move0 z (q + 1) hz hlq _
          rw [h34] at k1
          have k1 : Hid (∀ W : World, W.heap = wr.heap → Calls Tryz.prog 58 #[.pointer (some ⟨p, 0, none⟩)] W fun e w' => e = .returned (.int .i64 34) ∧ ∃ n, w' = W.drewN n) := k1
          clear hstep HXE kf kE h34 HROW
          go_wp2_with (first | (go_at_call 58; refine (k1.out _ (by rfl)).mono ?_; clear k1; rintro e w2 ⟨rfl, n1, rfl⟩) | fail)
          go_ret
          exact ⟨⟨_, rfl, fun s' q' e => by rw [HX.out] at e; injection e with e; injection e with e⟩, by rw [HX.out]; exact HD.out _ _ (by rfl) (by simp), (by refine Wk.setCell ?_ _ _ _; exact HWK.out _ (by rfl) (by rfl) (by rfl) (by rfl))⟩
        · rw [if_neg h34] at hstep
          have d34 : (((t.get! q).toNat : Int) == 34) = false := beq_eq_false_iff_ne.2 fun e => h34 (UInt8.toNat_inj.1 (by show (t.get! q).toNat = 34; omega))
          by_cases h32 : t.get! q < 32
          · have HX : Hid (X = .bad q 20) := HXE.out.symm.trans (hstep.trans (if_pos h32))
            have d32 : ((t.get! q).toNat : Int) < 32 := by have : (t.get! q).toNat < 32 := h32; omega
            have kf1 := kf.out q 20 (by decide)
            clear hstep HXE kf kE h34 h32
            generalize t.get! q = c at *
            go_wp2_with (first | (go_at_call 58; refine (k1.out _ (by rfl)).mono ?_; clear k1; rintro e w2 ⟨rfl, n1, rfl⟩) | (go_at_call 59; refine (kf1 _ (by rfl)).mono ?_; clear kf1; rintro e w2 ⟨⟨v, rfl⟩, G1, G2, G3⟩) | fail)
            go_ret
            exact ⟨⟨_, rfl, fun s' q e => by rw [HX.out] at e; cases e⟩, by rw [HX.out]; exact G1.dead, (HWK.out _ (by rfl) (by rfl) (by rfl) (by rfl)).trans G2⟩
          · rw [if_neg h32] at hstep
            have d32 : ¬ ((t.get! q).toNat : Int) < 32 := by have : ¬ (t.get! q).toNat < 32 := h32; omega
            by_cases h92 : t.get! q = 92
            · rw [if_pos h92] at hstep
              have d92 : (((t.get! q).toNat : Int) == 92) = true := by rw [h92]; rfl
              have kE1 := (kE h92).out
              clear kE kf h34 h32 h92
              generalize t.get! q = c at *
              cases hes : escape t q with
              | bad a e =>
                rw [hes, Rbind_bad] at hstep
                rw [hes] at kE1
                have HX : Hid (X = .bad a e) := HXE.out.symm.trans hstep
                obtain ⟨i0, hi0, hz0, hz1, hz2⟩ := info_parts Tryz.info_u8
                clear hstep hes HXE hz0 hz1 hz2
                go_wp2_with (first
                  | (go_at_call 58; refine (k1.out _ (by rfl)).mono ?_; clear k1; rintro e w2 ⟨rfl, n1, rfl⟩)
                  | (go_at_call 112; refine (kE1 _ (by rfl)).mono ?_; clear kE1; rintro e2 w3 ⟨hno, -, G1, G2⟩; obtain rfl := hno _ _ rfl; clear hno; have HR3 : Hid (w3.ownsRow w.heap.size 5 1 u3 out.length (Lib.byteCells out)) := Jv.row_wk (b := p) HROW.out ((Wk.same (Wk.refl p wr) (by rfl) (by rfl) (by rfl) (by rfl)).trans G2) hpw)
                  | (at_builtin; refine wpList_append_own_none rfl _ _ 22 rfl w.heap.size 5 i0 1 Tryz.underlying22 hi0 u3 out.length (Lib.byteCells out) rfl HR3.out rfl ?_)
                  | fail)
                go_roundg j
                case measure => have := HKJ.out.1; omega
                case rel => exact ⟨(HWK.out _ (by rfl) (by rfl) (by rfl) (by rfl)).trans G2, .inl ⟨a, e, HX.out, G1.dead⟩⟩
              | ok rq =>
                obtain ⟨r, q2⟩ := rq
                rw [hes, Rbind_ok] at hstep
                rw [hes] at kE1
                have hq2 := (Jv.escape_ok hes).2
                have HX : Hid (quotedFrom t j q2 (out ++ Lib.encodeRune (r : Int)) = X) := hstep.symm.trans HXE.out
                have hl4 : (Lib.byteCells (Lib.encodeRune (r : Int))).length ≤ 4 ∧ 0 < (Lib.byteCells (Lib.encodeRune (r : Int))).length := by
                  rw [Lib.byteCells_length]
                  unfold Lib.encodeRune
                  rw [List.length_map]
                  have := Lib.encodeRuneZ_length (r : Int)
                  omega
                have hol : out.length ≤ 16384 := by have := HKJ.out.2.2; omega
                have HL : Hid (∀ l : List UInt8, l.length = (Lib.byteCells l).length) := fun l => (Lib.byteCells_length l).symm
                obtain ⟨i0, hi0, hz0, hz1, hz2⟩ := info_parts Tryz.info_u8
                clear hstep hes HXE
                obtain ⟨l4, l1⟩ := hl4
                have HBC : Hid (Lib.byteCells (out ++ Lib.encodeRune (r : Int)) = Lib.byteCells out ++ Lib.byteCells (Lib.encodeRune (r : Int))) := (by show _ = _; simp [Lib.byteCells])
                have HB1 : Hid (∀ u ∈ Lib.byteCells (Lib.encodeRune (r : Int)), u.oneCell' = true) := (by
                  intro u hu
                  unfold Lib.byteCells at hu
                  obtain ⟨c, _, rfl⟩ := List.mem_map.1 hu
                  rfl)
                have kE2 : Hid (∀ W : World, W.heap = wr.heap → Calls Tryz.prog 112 #[.pointer (some ⟨p, 0, none⟩)] W fun e w' => ∃ g, e = .returned (.slice (some ⟨g, 0, none⟩) (Lib.byteCells (Lib.encodeRune (r : Int))).length (Lib.byteCells (Lib.encodeRune (r : Int))).length) ∧ Hid (W.heap.size ≤ g ∧ w'.heap[g]? = some (.cells (Lib.byteCells (Lib.encodeRune (r : Int))).toArray 5 (0, 0)) ∧ Tryz.DS w' p t o (.ok (r, q2) : R (Nat × Nat)) ∧ Wk p W w')) := fun W hW => by
                  refine (kE1 W hW).mono ?_
                  rintro e w' ⟨-, hy, h1, h2⟩
                  obtain ⟨g, e1, e2, e3⟩ := hy _ _ rfl
                  exact ⟨g, e1, e2, e3, h1, h2⟩
                clear kE1
                obtain ⟨news, hnews⟩ : ∃ news, Lib.byteCells (Lib.encodeRune (r : Int)) = news := ⟨_, rfl⟩
                have HNE : Hid (Lib.byteCells (Lib.encodeRune (r : Int)) = news) := hnews
                rw [hnews] at kE2 l4 l1 HBC HB1
                clear hnews
                obtain ⟨m, hm⟩ : ∃ m, news.length = m := ⟨_, rfl⟩
                have HMM : Hid (news.length = m) := hm
                have kE1 := kE2.out
                rw [hm] at kE1 l4 l1
                clear hm kE2
                go_wp2_with (first
                  | (go_at_call 58; refine (k1.out _ (by rfl)).mono ?_; clear k1; rintro e w2 ⟨rfl, n1, rfl⟩)
                  | (go_at_call 112; refine (kE1 _ (by rfl)).mono ?_; clear kE1; rintro e2 w3 ⟨g, rfl, HG⟩; have G2s : Hid (Wk p w w3) := (HWK.out _ (by rfl) (by rfl) (by rfl) (by rfl)).trans HG.out.2.2.2; have HR3 : Hid (w3.ownsRow w.heap.size 5 1 u3 out.length (Lib.byteCells out)) := Jv.row_wk (b := p) HROW.out ((Wk.same (Wk.refl p wr) (by rfl) (by rfl) (by rfl) (by rfl)).trans HG.out.2.2.2) hpw; have hws : w.heap.size ≤ w3.heap.size := G2s.out.size; have hg2 := HG.out.2.1)
                  | (at_builtin; refine wpList_append_lies _ rfl _ _ 22 rfl w.heap.size 5 i0 _ 1 1 Tryz.underlying22 hi0 hz0 hz1 hz2 rfl (by omega) u3 out.length (Lib.byteCells out) rfl HR3.out ⟨g, 0, none⟩ m m news rfl (by rw [HMM.out, Nat.mul_one]) (fun j u hu => World.news_of_block (cs := news.toArray) hg2 j u (by simpa using hu)) HB1.out l1 (by unfold maxLen; omega) (by omega) hws w3.heap.size rfl ?_; intro g5 cap5 w5 hown5 hgrow5 hat5 hlt5)
                  | fail)
                have HN5 : Hid (w5.ownsRow w.heap.size 5 1 (.slice (some ⟨g5, 0, none⟩) (out.length + m) cap5) (out ++ Lib.encodeRune (r : Int)).length (Lib.byteCells (out ++ Lib.encodeRune (r : Int)))) := (by
                  have e1 : (out ++ Lib.encodeRune (r : Int)).length = out.length + m := by rw [List.length_append, HL.out (Lib.encodeRune (r : Int))]; have := HMM.out; rw [← HNE.out] at this; rw [← this]
                  rw [e1, HBC.out]
                  exact hown5)
                go_roundg j
                case measure => have := HKJ.out.1; omega
                case rel => exact Tryz.tq_more hpw G2s.out HR3.out hgrow5 HX.out (by have := HKJ.out; omega) (by have h1 := HL.out (Lib.encodeRune (r : Int)); rw [HNE.out, HMM.out] at h1; have h2 := HKJ.out; rw [List.length_append]; omega) HN5.out rfl HG.out.2.2.1
            · rw [if_neg h92] at hstep
              have d92 : (((t.get! q).toNat : Int) == 92) = false := beq_eq_false_iff_ne.2 fun e => h92 (UInt8.toNat_inj.1 (by show (t.get! q).toNat = 92; omega))
              have hsd := sign_doc t q hlq
              have hus : (t.extract q t.size).size = t.size - q := by rw [ByteArray.size_extract]; omega
              have kS := Tryz.sequence2_any (t.extract q t.size) (by omega) (by omega)
              clear kE h34 h32 h92
              generalize t.get! q = c at *
              have q0 : (0 : Int) ≤ (q : Int) := by omega
              have q1 : (q : Int) ≤ (t.size : Int) := by omega
              have HUS : Hid ((t.extract q t.size).size = t.size - q) := hus
              clear hus
              generalize sqF (t.extract q t.size) = F at *
              generalize sqn (t.extract q t.size) = n at *
              have kS2 : ∀ W, Calls Tryz.prog 67 #[.string (t.extract q t.size)] W fun en w' => en = .returned (.tuple #[.int .i64 n, .bool (decide (n = 0) && !F)]) ∧ w' = W := fun W => (kS W).mono fun e w' h => h
              clear kS
              rcases hsd with ⟨a1, a2, a3⟩ | ⟨a1, a2, a3⟩ | ⟨a1, r, a3, a4, a5⟩
              · subst a1 a2
                rw [a3, Rbind_bad] at hstep
                have HX : Hid (X = .bad t.size 20) := HXE.out.symm.trans hstep
                have kf1 := kf.out t.size 20 (by decide)
                clear hstep a3 HXE kf
                have kS3 : ∀ W, Calls Tryz.prog 67 #[.string (t.extract q t.size)] W fun en w' => en = .returned (.tuple #[.int .i64 0, .bool true]) ∧ w' = W := kS2
                clear kS2
                go_upto_region 14 with (first | (go_at_call 58; refine (k1.out _ (by rfl)).mono ?_; clear k1; rintro e w2 ⟨rfl, n1, rfl⟩) | fail)
                go_quiet ((go_at_call 67; exact (kS3 _).mono fun e w' h => ⟨h.1, _, h.2⟩))
                go_wp2_with (first
                  | (go_at_call 59; refine (kf1 _ (by rfl)).mono ?_; clear kf1; rintro e w2 ⟨⟨v, rfl⟩, G1, G2, G3⟩; have G1s : Hid (Tryz.DS w2 p t o (.bad t.size 20 : R (Unit × Nat))) := G1; have G2s : Hid (Wk p w w2) := (HWK.out _ (by rfl) (by rfl) (by rfl) (by rfl)).trans G2; obtain ⟨i2, e2, -, g1, -, -, -, -, -, -, -, -⟩ := G1.place; have kf2 := Tryz.dsFail Unit G1 i2 10 (by decide); clear G1 G2)
                  | (go_at_call 59; refine kf2.mono ?_; clear kf2; rintro e w3 ⟨⟨v, rfl⟩, G4, G5, G6⟩)
                  | fail)
                go_ret
                exact ⟨⟨_, rfl, fun s' q e => by rw [HX.out] at e; cases e⟩, by rw [HX.out]; exact Tryz.DS.dead G4, G2s.out.trans G5⟩
              · subst a1 a2
                rw [a3, Rbind_bad] at hstep
                have HX : Hid (X = .bad q 10) := HXE.out.symm.trans hstep
                have kf1 := kf.out q 10 (by decide)
                clear hstep a3 HXE kf
                have kS3 : ∀ W, Calls Tryz.prog 67 #[.string (t.extract q t.size)] W fun en w' => en = .returned (.tuple #[.int .i64 0, .bool false]) ∧ w' = W := kS2
                clear kS2
                go_upto_region 14 with (first | (go_at_call 58; refine (k1.out _ (by rfl)).mono ?_; clear k1; rintro e w2 ⟨rfl, n1, rfl⟩) | fail)
                go_quiet ((go_at_call 67; exact (kS3 _).mono fun e w' h => ⟨h.1, _, h.2⟩))
                go_wp2_with (first | (go_at_call 59; refine (kf1 _ (by rfl)).mono ?_; clear kf1; rintro e w2 ⟨⟨v, rfl⟩, G1, G2, G3⟩) | fail)
                go_ret
                exact ⟨⟨_, rfl, fun s' q e => by rw [HX.out] at e; cases e⟩, by rw [HX.out]; exact G1.dead, (HWK.out _ (by rfl) (by rfl) (by rfl) (by rfl)).trans G2⟩
              · rw [a3, Rbind_ok] at hstep
                have HX : Hid (quotedFrom t j (q + n) (out ++ Lib.encodeRune (r : Int)) = X) := hstep.symm.trans HXE.out
                have hn0 : ((n : Int) == 0) = false := beq_eq_false_iff_ne.2 (by omega)
                have kS3 : ∀ W, Calls Tryz.prog 67 #[.string (t.extract q t.size)] W fun en w' => en = .returned (.tuple #[.int .i64 n, .bool false]) ∧ w' = W := fun W => by
                  have h1 := kS2 W
                  rw [decide_eq_false (by omega)] at h1
                  exact h1
                have hes : (t.extract q (q + n)).size = n := by rw [ByteArray.size_extract]; omega
                have hel : (Lib.encodeRune (r : Int)).length = n := by rw [← a4, ← Lib.size_eq, hes]
                have HEL : Hid ((Lib.encodeRune (r : Int)).length = n) := hel
                have HES : Hid ((t.extract q (q + n)).size = n) := hes
                have HA4 : Hid ((t.extract q (q + n)).data.toList = Lib.encodeRune (r : Int)) := a4
                have hn4 : n ≤ 4 := by
                  rw [← hel]; unfold Lib.encodeRune; rw [List.length_map]; exact (Lib.encodeRuneZ_length _).2
                have hol : out.length ≤ 16384 := by have := HKJ.out.2.2; omega
                have HBC : Hid (Lib.byteCells (out ++ Lib.encodeRune (r : Int)) = Lib.byteCells out ++ Lib.byteCells (Lib.encodeRune (r : Int))) := (by show _ = _; simp [Lib.byteCells])
                have q2 : (q : Int) + (n : Int) ≤ (t.size : Int) := by omega
                have q3 : (q : Int) ≤ (q : Int) + (n : Int) := by omega
                have q4 : (0 : Int) ≤ (q : Int) + (n : Int) := by omega
                have qw : IntKind.i64.wrap ((q : Int) + (n : Int)) = (q : Int) + (n : Int) := by rw [IntKind.wrap_i64]; omega
                have qt : ((q : Int) + (n : Int)).toNat = q + n := by omega
                clear hstep a3 HXE kf kS2 hes hel a4
                go_upto_region 14 with (first | (go_at_call 58; refine (k1.out _ (by rfl)).mono ?_; clear k1; rintro e w2 ⟨rfl, n1, rfl⟩) | fail)
                go_quiet ((go_at_call 67; exact (kS3 _).mono fun e w' h => ⟨h.1, _, h.2⟩))
                go_upto_region 20 with (fail)
                go_region_law (first
                  | (refine Tryz.step_str (by rfl) _ _ (by rfl) w.heap.size u3 out.length (Lib.byteCells out) (by rfl) (by exact HROW.out) (by exact (HWK.out wr rfl rfl rfl rfl).size) (t.extract q (q + n)) (by rfl) (by rw [HES.out]; omega) ?_; intro v5 w5 hown5 hgrow5)
                  | fail)
                all_goals
                  have hg5 : wr.grownBy w5 u3.ownBlock := ⟨hgrow5.os, hgrow5.tape, hgrow5.output, hgrow5.size, hgrow5.block⟩
                  have hpr : p < wr.heap.size := (HSS.out wr rfl).lt
                  have hne : u3.ownBlock ≠ some p := fun e => by have := Jv.row_block HROW.out p e; omega
                  have c15 := (hg5.cell_far ⟨p, 1, none⟩ hpr (Ne.symm hne)).trans c1
                  have f15 := (hg5.frozen_far ⟨p, 1, none⟩ hpr (Ne.symm hne)).trans f1
                  have HG5 : Hid (wr.grownBy w5 u3.ownBlock) := hg5
                  have HN5 : Hid (w5.ownsRow w.heap.size 5 1 v5 (out ++ Lib.encodeRune (r : Int)).length (Lib.byteCells (out ++ Lib.encodeRune (r : Int)))) := (by
                    have h9 := hown5
                    rw [HA4.out, HES.out] at h9
                    rw [List.length_append, HEL.out, HBC.out]
                    exact h9)
                  clear hown5 hgrow5 hg5 hne
                  go_wp2
                  go_roundg j
                  case measure => have := HKJ.out.1; omega
                  case rel => exact Tryz.tq_step hpw (HWK.out wr rfl rfl rfl rfl) HROW.out HG5.out HX.out (by have := HKJ.out; omega) (by have h2 := HKJ.out; rw [List.length_append, HEL.out]; omega) HN5.out (HSS.out wr rfl) _ (by simp) a5
      · rw [Jv.next_end hlq, Rbind_bad] at hstep
        have hb : byteJ t (.ok ((), q) : R (Unit × Nat)) = -1 := if_neg hlq
        rw [hb] at k1
        have HX : Hid (X = .bad q 20) := HXE.out.symm.trans hstep
        have kf1 := kf.out q 20 (by decide)
        clear hb hstep HXE kf hlq
        go_wp2_with (first
          | (go_at_call 58; refine (k1.out _ (by rfl)).mono ?_; clear k1; rintro e w2 ⟨rfl, n1, rfl⟩)
          | (go_at_call 59; refine (kf1 _ (by rfl)).mono ?_; clear kf1; rintro e w2 ⟨⟨v, rfl⟩, G1, G2, G3⟩)
          | fail)
        go_ret
        exact ⟨⟨_, rfl, fun s' q e => by rw [HX.out] at e; cases e⟩, by rw [HX.out]; exact G1.dead, (HWK.out _ (by rfl) (by rfl) (by rfl) (by rfl)).trans G2⟩
end Go.Proofs
