/-
  Laid together by packg.py of TmM TmN TmO.
-/
import Derived.Test.YtcakkkafanpjaaaGreatDoorQaP
namespace Go.Jv
open Go.RowKit
theorem key_doc (t : ByteArray) (q : Nat) (had : List ByteArray) : key t q had = (Go.Jv.quoted t q).bind fun x => if had[place had x.1]? = some x.1 then .bad q eTwice else (Go.Jv.take t (blanks t x.2) 58).bind fun q2 => .ok (x.1, blanks t q2) := by
  unfold key
  by_cases hl : q < t.size
  · have hn : next t q = .ok (t.get! q) := by unfold next; rw [if_pos hl]
    rw [hn, Rbind_ok]
    by_cases hc : t.get! q = 34
    · rw [if_neg (by simpa using hc)]
    · rw [if_pos hc]
      unfold Go.Jv.quoted Go.Jv.take
      rw [if_neg (fun e => hc e.2)]
      rfl
  · have hn : next t q = .bad q eSyntax := by unfold next; rw [if_neg hl]
    rw [hn, Rbind_bad]
    unfold Go.Jv.quoted Go.Jv.take
    rw [if_neg (fun e => hl e.1)]
    rfl
/-- One member: its key and its value. -/
def memQ (t : ByteArray) (d : Nat) (ks : List ByteArray) (q : Nat) : R ((ByteArray × V) × Nat) := (key t q ks).bind fun k => (value t d k.2).bind fun v => .ok ((k.1, v.1), v.2)
end Go.Jv
namespace Go.Proofs
open Go.RowKit Go.Jv
/-- What a call on a reader and an object leaves of all else. -/
structure Jv.PutP (p : Nat) (w w' : World) (x : Nat) (kv sv kv' sv' : Value) : Prop where
  os : w'.os = w.os
  tape : w'.tape = w.tape
  output : w'.output = w.output
  size : w.heap.size ≤ w'.heap.size
  block : ∀ k, k < w.heap.size → k ≠ p → k ≠ x → kv.ownBlock ≠ some k → sv.ownBlock ≠ some k → w'.heap[k]? = w.heap[k]?
  kn : ∀ g, kv'.ownBlock = some g → kv.ownBlock = some g ∨ w.heap.size ≤ g
  sn : ∀ g, sv'.ownBlock = some g → sv.ownBlock = some g ∨ w.heap.size ≤ g
theorem Jv.PutP.ofWk {p : Nat} {w w' : World} (h : Wk p w w') (x : Nat) (kv sv : Value) : Jv.PutP p w w' x kv sv kv sv := ⟨h.os, h.tape, h.output, h.size, fun k a b _ _ _ => h.block k a b, fun _ e => .inl e, fun _ e => .inl e⟩
theorem Jv.PutP.ofC {p : Nat} {w w' : World} {x : Nat} {kv sv kv' sv' : Value} (h : Jv.PutC w w' x kv sv kv' sv') : Jv.PutP p w w' x kv sv kv' sv' := ⟨h.os, h.tape, h.output, h.size, fun k a _ b c d => h.block k a b c d, h.kn, h.sn⟩
theorem Jv.PutP.trans {p : Nat} {w w1 w2 : World} {x : Nat} {kv sv kv1 sv1 kv2 sv2 : Value} (h : Jv.PutP p w w1 x kv sv kv1 sv1) (g : Jv.PutP p w1 w2 x kv1 sv1 kv2 sv2) : Jv.PutP p w w2 x kv sv kv2 sv2 :=
  ⟨g.os.trans h.os, g.tape.trans h.tape, g.output.trans h.output, Nat.le_trans h.size g.size,
   fun k hk h0 h1 h2 h3 => (g.block k (Nat.lt_of_lt_of_le hk h.size) h0 h1 (fun e => by rcases h.kn k e with e | e; exact h2 e; omega) (fun e => by rcases h.sn k e with e | e; exact h3 e; omega)).trans (h.block k hk h0 h1 h2 h3),
   fun k e => by rcases g.kn k e with e | e; exact h.kn k e; exact .inr (Nat.le_trans h.size e),
   fun k e => by rcases g.sn k e with e | e; exact h.sn k e; exact .inr (Nat.le_trans h.size e)⟩
theorem Tryz.Ow.wk {w w' : World} {p x : Nat} {ks : List ByteArray} {vals : List Value} {kv sv : Value} (h : Tryz.Ow w x ks vals kv sv) (g : Wk p w w') (hp : p < x) : Tryz.Ow w' x ks vals kv sv :=
  ⟨h.vb.keep (g.block x h.vb.lt (by omega)) g.size, Jv.row_wk h.keys g (by omega), Jv.row_wk h.items g (by omega)⟩
/-- The reader is not touched by what is done to the object. -/
theorem Tryz.DS.putC {α : Type} {w w' : World} {p x o : Nat} {t : ByteArray} {Q : R (α × Nat)} {ks : List ByteArray} {vals : List Value} {kv sv kv' sv' : Value} (h : Tryz.DS w p t o Q) (hO : Tryz.Ow w x ks vals kv sv) (g : Jv.PutC w w' x kv sv kv' sv') (hp : p < x) : Tryz.DS w' p t o Q :=
  h.heap (g.block p h.lt (by omega) (fun e => by have := (Jv.row_lt hO.keys p e).1; omega) (fun e => by have := (Jv.row_lt hO.items p e).1; omega))
structure Tryz.MemOk (w : World) (p x : Nat) (t : ByteArray) (o : Nat) (Q : R ((ByteArray × V) × Nat)) (ks : List ByteArray) (vals : List Value) (kv sv : Value) (e : Ending) (w' : World) : Prop where
  rt : ∃ v, e = .returned v
  rd : Tryz.DS w' p t o Q
  ch : ∃ ks' vals' kv' sv', Tryz.Ow w' x ks' vals' kv' sv' ∧ vals'.length = ks'.length ∧ (∀ v ∈ vals', ∃ a : Option Addr, v = .pointer a) ∧ Jv.PutP p w w' x kv sv kv' sv' ∧
    ∀ k v q', Q = .ok ((k, v), q') → ks' = insertAt ks (place ks k) k ∧ ∃ y, vals' = insertAt vals (place ks k) (.pointer (some ⟨y, 0, none⟩)) ∧ Tryz.Td w' (fun g => w.heap.size ≤ g ∧ kv'.ownBlock ≠ some g ∧ sv'.ownBlock ≠ some g) v y
/-- What 'value' does, d brackets may still be opened. -/
def Tryz.ValD (d : Nat) : Prop := ∀ (w : World) (p : Nat) (t : ByteArray) (o : Nat) (Q : R (Unit × Nat)), Tryz.DS w p t o Q → o + d = 10 →
  Calls Tryz.prog 57 #[.pointer (some ⟨p, 0, none⟩)] w fun e w' => Tryz.Vd w p t o (Q.bind fun y => value t d y.2) e w'
theorem Jv.tlist_inj {a b : ByteArray} (h : a.toList = b.toList) : a = b := by
  rw [Lib.toList_data, Lib.toList_data] at h
  exact ByteArray.ext (Array.toList_inj.1 h)
/-- A member's end: what was read is put in. -/
theorem Tryz.memEnd {d : Nat} {w w3 w4 w5 : World} {p x : Nat} {t : ByteArray} {o : Nat} {ks : List ByteArray} {vals : List Value} {kv sv kv' sv' : Value} {k : ByteArray} {Q2 : R (Unit × Nat)} {Y : R ((ByteArray × V) × Nat)} {a : Option Addr} {v0 : Value}
    (hY : Y = Q2.bind fun y => (value t d y.2).bind fun v => .ok ((k, v.1), v.2))
    (hO : Tryz.Ow w x ks vals kv sv) (g3 : Wk p w w3) (hv : Tryz.Vd w3 p t o (Q2.bind fun y => value t d y.2) (.returned (.pointer a)) w4)
    (hO5 : Tryz.Ow w5 x (insertAt ks (place ks k) k) (insertAt vals (place ks k) (.pointer a)) kv' sv') (hC : Jv.PutC w4 w5 x kv sv kv' sv')
    (hlen : vals.length = ks.length) (hpv : ∀ v ∈ vals, ∃ a : Option Addr, v = .pointer a) (hpl : place ks k ≤ ks.length) (hpx : p < x) :
    Tryz.MemOk w p x t o Y ks vals kv sv (.returned v0) w5 := by
  have g4 : Wk p w w4 := g3.trans hv.wk
  refine ⟨⟨_, rfl⟩, ?_, _, _, _, _, hO5, by rw [ins_len _ _ _ (by omega), ins_len _ _ _ hpl, hlen], fun v hm => ?_, (Jv.PutP.ofWk g4 x kv sv).trans (Jv.PutP.ofC hC), fun k2 v q' e => ?_⟩
  · have h1 : Tryz.DS w5 p t o (Q2.bind fun y => value t d y.2) := hv.rd.putC (hO.wk g4 hpx) hC hpx
    rw [hY]
    revert h1
    cases Q2 with
    | bad a e => exact fun h => h.dead
    | ok y =>
      rw [Rbind_ok, Rbind_ok]
      cases value t d y.2 with
      | bad a e => exact fun h => h.dead
      | ok z => exact fun h => h.val _
  · rcases ins_mem hm with e | e
    · exact ⟨a, e⟩
    · exact hpv v e
  · rw [hY] at e
    obtain ⟨vv, hvv⟩ : ∃ vv, (Q2.bind fun y => value t d y.2) = .ok vv ∧ vv = (v, q') ∧ k = k2 := by
      revert e
      cases Q2 with
      | bad a e => intro e; cases e
      | ok y =>
        rw [Rbind_ok, Rbind_ok]
        cases value t d y.2 with
        | bad a e => intro e; cases e
        | ok z => intro e; rw [Rbind_ok] at e; injection e with e; injection e with e1 e2; injection e1 with e1 e3; exact ⟨z, rfl, by rw [← e2, ← e3], e1⟩
    obtain ⟨h1, rfl, rfl⟩ := hvv
    obtain ⟨a', ha', hval⟩ := hv.val
    injection ha' with ha'
    injection ha' with ha'
    subst ha'
    obtain ⟨y, rfl, hT⟩ := hval _ _ h1
    refine ⟨rfl, y, rfl, ?_⟩
    have bk := Jv.row_lt hO.keys
    have bs := Jv.row_lt hO.items
    have hx := hO.vb.lt
    have hz := g3.size
    refine Tryz.Td_keep (w := w4) (fun g hg hlt => hC.block g hlt (by omega) (fun e => by have := (bk g e).2; omega) (fun e => by have := (bs g e).2; omega)) hC.size v y (Tryz.Td_mono (fun g hg hlt => ⟨by omega, fun e => ?_, fun e => ?_⟩) v y hT)
    · rcases hC.kn g e with e | e
      · have := (bk g e).2; omega
      · omega
    · rcases hC.sn g e with e | e
      · have := (bs g e).2; omega
      · omega
set_option maxRecDepth 20000 in
set_option maxHeartbeats 4000000 in
theorem Tryz.dsMember {d : Nat} (hV : Tryz.ValD d) {w : World} {p x : Nat} {t : ByteArray} {o : Nat} {Q : R (Unit × Nat)} {ks : List ByteArray} {vals : List Value} {kv sv : Value} (h : Tryz.DS w p t o Q) (ho : o + d = 10) (hO : Tryz.Ow w x ks vals kv sv) (hpx : p < x)
    (hlen : vals.length = ks.length) (hpv : ∀ v ∈ vals, ∃ a : Option Addr, v = .pointer a) (hl : ks.length ≤ 64) (hr : Rising ks) :
    Calls Tryz.prog 113 #[.pointer (some ⟨p, 0, none⟩), .pointer (some ⟨x, 0, none⟩)] w fun e w' => Tryz.MemOk w p x t o (Q.bind fun y => memQ t d ks y.2) ks vals kv sv e w' := by
  have kt := Tryz.dsText h
  obtain ⟨i, er, c0, c1, -, -, -, -, -, -, hy, -⟩ := h.place
  obtain ⟨X, hX⟩ : ∃ X, (Q.bind fun y => Go.Jv.quoted t y.2) = X := ⟨_, rfl⟩
  have HMQ : Hid ((Q.bind fun y => memQ t d ks y.2) = X.bind fun z => if ks[place ks z.1]? = some z.1 then .bad i eTwice else ((Go.Jv.take t (blanks t z.2) 58).bind fun q2 => (value t d (blanks t q2)).bind fun v => .ok ((z.1, v.1), v.2))) := (by
    show _ = _
    rw [← hX]
    cases Q with
    | bad a e => rfl
    | ok y =>
      rw [Rbind_ok, Rbind_ok]
      unfold memQ
      rw [key_doc, ← (hy y rfl).1]
      cases Go.Jv.quoted t y.2 with
      | bad a e => rfl
      | ok z =>
        rw [Rbind_ok, Rbind_ok]
        split
        · rfl
        · cases Go.Jv.take t (blanks t z.2) 58 <;> rfl)
  rw [hX] at kt
  obtain ⟨Y, hYY⟩ : ∃ Y, (Q.bind fun y => memQ t d ks y.2) = Y := ⟨_, rfl⟩
  rw [hYY] at HMQ ⊢
  have HOW : Hid (Tryz.Ow w x ks vals kv sv) := hO
  have HPV : Hid (vals.length = ks.length ∧ (∀ v ∈ vals, ∃ a : Option Addr, v = .pointer a) ∧ ks.length ≤ 64 ∧ Rising ks ∧ p < x ∧ o + d = 10) := ⟨hlen, hpv, hl, hr, hpx, ho⟩
  clear hX hYY hy hO hlen hpv hl hr hpx ho h
  cases X with
  | bad a e =>
    have HY : Hid (Y = .bad a e) := HMQ.out
    go_enter Tryz.func113, Tryz.ntmps113
    go_wp2_with (first
      | (go_at_call 82; refine kt.mono ?_; clear kt; rintro e1 w1 ⟨⟨s, rfl, -⟩, G1, G2⟩; obtain ⟨i1, er1, -, -, -, d3, -, -, -, -, -, hb⟩ := G1.place; have q1 : ((er1 : Int) != 0) = true := (by obtain ⟨h1, h2⟩ := hb a e rfl; simp only [bne_iff_ne, ne_eq]; omega); clear hb)
      | fail)
    exact bodyPost_ret (results_none rfl _ _ _) rfl ⟨⟨_, rfl⟩, by rw [HY.out]; exact G1.dead, _, _, _, _, HOW.out.wk G2 HPV.out.2.2.2.2.1, HPV.out.1, HPV.out.2.1, Jv.PutP.ofWk G2 _ _ _, fun k v q' e => by rw [HY.out] at e; cases e⟩
  | ok z =>
    obtain ⟨k, q1⟩ := z
    rw [Rbind_ok] at HMQ
    have hi : ∃ i', i' = i := ⟨_, rfl⟩
    go_enter Tryz.func113, Tryz.ntmps113
    go_upto_region 2 with (first
      | (go_at_call 82; refine kt.mono ?_; clear kt; rintro e1 w1 ⟨⟨s, rfl, hs⟩, G1, G2⟩; obtain rfl := hs k q1 rfl; clear hs)
      | fail)
    have HO1 : Hid (Tryz.Ow w1 x ks vals kv sv) := HOW.out.wk G2 HPV.out.2.2.2.2.1
    have HG2 : Hid (Wk p w w1) := G2
    have HG1 : Hid (Tryz.DS w1 p t o (.ok (s, q1) : R (ByteArray × Nat))) := G1
    have kp := Tryz.place_any (key := s) ⟨HO1.out.vb, HO1.out.keys, HO1.out.items, HPV.out.1⟩ HPV.out.2.2.2.1 HPV.out.2.2.1
    obtain ⟨i1, er1, d0, d1, -, d3, fz, -, -, -, hy1, -⟩ := G1.place
    obtain rfl := (hy1 _ rfl).2
    have c5 := HO1.out.vb.c5
    obtain ⟨ad, cap, rfl⟩ := Jv.row_form2 HO1.out.keys
    have HPL : Hid (place ks s ≤ ks.length) := (place_in HPV.out.2.2.2.1 s).1
    clear hy1 G1 G2
    by_cases hP : place ks s < ks.length
    · obtain ⟨g, c, e, _, _, hc, _⟩ := Jv.row_at HO1.out.keys (by omega)
      have hg : ad = some ⟨g, 0, none⟩ := by injection e
      subst hg
      have hc2 : w1.cell? ⟨g, place ks s, none⟩ = some (.string ks[place ks s]) := hc _ _ (by rw [List.getElem?_map, List.getElem?_eq_getElem hP]; rfl)
      have HKS : Hid (ks[place ks s]? = some ks[place ks s]) := List.getElem?_eq_getElem hP
      clear hc e c
      generalize ks[place ks s] = kk at *
      generalize hPP : place ks s = P at *
      have HPP : Hid (place ks s = P) := hPP
      clear hPP
      by_cases hkk : kk = s
      · subst hkk
        have HYB : Hid (Y = .bad i eTwice) := HMQ.out.trans (if_pos HKS.out)
        go_wp2_with (first
          | (go_at_call 98; refine kp.mono ?_; clear kp; rintro e2 w2 ⟨rfl, rfl⟩)
          | (go_at_call 59; refine (Tryz.dsFail Unit (HG1.out) i 24 (by decide)).mono ?_; rintro e2 w2 ⟨⟨v, rfl⟩, G3, G4, -⟩)
          | fail)
        exact bodyPost_ret (results_none rfl _ _ _) rfl ⟨⟨_, rfl⟩, by rw [HYB.out]; exact G3.dead, _, _, _, _, HO1.out.wk G4 HPV.out.2.2.2.2.1, HPV.out.1, HPV.out.2.1, Jv.PutP.ofWk (HG2.out.trans G4) _ _ _, fun k v q' e => by rw [HYB.out] at e; cases e⟩
      · have HYT : Hid (ks[P]? ≠ some s) := by rw [HKS.out]; exact fun e => hkk (by injection e)
        have hne : (kk.toList == s.toList) = false := by
          have : kk.toList ≠ s.toList := fun e => hkk (Jv.tlist_inj e)
          simpa using this
        clear hkk
        have HYT2 : Hid (Y = ((Go.Jv.take t (blanks t q1) 58).bind fun q2 => (.ok ((), blanks t q2) : R (Unit × Nat))).bind fun y => (value t d y.2).bind fun v => .ok ((s, v.1), v.2)) := (HMQ.out.trans (if_neg HYT.out)).trans (by cases Go.Jv.take t (blanks t q1) 58 <;> rfl)
        clear HMQ
        go_upto_region 6 with (first
          | (go_at_call 98; refine kp.mono ?_; clear kp; rintro e2 w2 ⟨rfl, rfl⟩)
          | fail)
        go_upto_region 7 with (first | (go_at_call 56; refine (Tryz.dsBlanks HG1.out).mono ?_; rintro e2 w2 ⟨⟨v2, rfl⟩, G3, G4, -⟩) | fail)
        go_upto_region 8 with (first | (go_at_call 111; refine (Tryz.dsMust G3 58).mono ?_; rintro e3 w3 ⟨⟨v3, rfl⟩, G5, G6, -⟩) | fail)
        go_upto_region 9 with (first | (go_at_call 56; refine (Tryz.dsBlanks G5).mono ?_; rintro e4 w4 ⟨⟨v4, rfl⟩, G7, G8, -⟩) | fail)
        have G9 : Tryz.DS w4 p t o ((Go.Jv.take t (blanks t q1) 58).bind fun q2 => (.ok ((), blanks t q2) : R (Unit × Nat))) := (by
          revert G7
          show Tryz.DS w4 p t o (Jv.blQ t (Jv.muQ t 58 (.ok (s, blanks t q1) : R (ByteArray × Nat)))) → _
          unfold Jv.muQ Jv.blQ
          rw [Rbind_ok]
          cases Go.Jv.take t (blanks t q1) 58 with
          | bad a e => exact fun h => h.dead
          | ok z => exact fun h => h.val _)
        have HW : Hid (Wk p w w4) := ((HG2.out.trans G4).trans G6).trans G8
        have kv := hV w4 p t o _ G9 HPV.out.2.2.2.2.2
        have HOF : Hid (Tryz.Ow w x ks vals _ sv) := HOW.out
        clear G3 G4 G5 G6 G7 G8 G9 HG1 HG2 HO1 HOW
        generalize (Go.Jv.take t (blanks t q1) 58).bind (fun q2 => (.ok ((), blanks t q2) : R (Unit × Nat))) = Q2 at *
        go_upto_region 10 with (first | (go_at_call 57; refine kv.mono ?_; clear kv; rintro e5 w5 ⟨⟨a5, rfl, hv5⟩, G10, G11⟩) | fail)
        have HVD : Hid (Tryz.Vd w4 p t o (Q2.bind fun y => value t d y.2) (.returned (.pointer a5)) w5) := ⟨⟨a5, rfl, hv5⟩, G10, G11⟩
        have kput := Tryz.put_any (HOF.out.wk (HW.out.trans G11) HPV.out.2.2.2.2.1) HPV.out.1 HPV.out.2.1 HPV.out.2.2.1 P HPL.out s a5
        clear G10 G11 hv5
        go_wp2_with (first | (go_at_call 99; refine kput.mono ?_; clear kput; rintro e6 w6 ⟨⟨v6, rfl⟩, kv', sv', O6, C6⟩) | fail)
        refine bodyPost_ret (results_none rfl _ _ _) rfl ?_
        rw [← HPP.out] at O6
        exact Tryz.memEnd HYT2.out HOF.out HW.out HVD.out O6 C6 HPV.out.1 HPV.out.2.1 (by rw [HPP.out]; exact HPL.out) HPV.out.2.2.2.2.1
    · have HKS : Hid (ks[place ks s]? = none) := List.getElem?_eq_none (by omega)
      generalize hPP : place ks s = P at *
      have HPP : Hid (place ks s = P) := hPP
      clear hPP
      have HYT : Hid (ks[P]? ≠ some s) := by rw [HKS.out]; exact nofun
      have HYT2 : Hid (Y = ((Go.Jv.take t (blanks t q1) 58).bind fun q2 => (.ok ((), blanks t q2) : R (Unit × Nat))).bind fun y => (value t d y.2).bind fun v => .ok ((s, v.1), v.2)) := (HMQ.out.trans (if_neg HYT.out)).trans (by cases Go.Jv.take t (blanks t q1) 58 <;> rfl)
      clear HMQ
      go_upto_region 6 with (first
        | (go_at_call 98; refine kp.mono ?_; clear kp; rintro e2 w2 ⟨rfl, rfl⟩)
        | fail)
      go_upto_region 7 with (first | (go_at_call 56; refine (Tryz.dsBlanks HG1.out).mono ?_; rintro e2 w2 ⟨⟨v2, rfl⟩, G3, G4, -⟩) | fail)
      go_upto_region 8 with (first | (go_at_call 111; refine (Tryz.dsMust G3 58).mono ?_; rintro e3 w3 ⟨⟨v3, rfl⟩, G5, G6, -⟩) | fail)
      go_upto_region 9 with (first | (go_at_call 56; refine (Tryz.dsBlanks G5).mono ?_; rintro e4 w4 ⟨⟨v4, rfl⟩, G7, G8, -⟩) | fail)
      have G9 : Tryz.DS w4 p t o ((Go.Jv.take t (blanks t q1) 58).bind fun q2 => (.ok ((), blanks t q2) : R (Unit × Nat))) := (by
        revert G7
        show Tryz.DS w4 p t o (Jv.blQ t (Jv.muQ t 58 (.ok (s, blanks t q1) : R (ByteArray × Nat)))) → _
        unfold Jv.muQ Jv.blQ
        rw [Rbind_ok]
        cases Go.Jv.take t (blanks t q1) 58 with
        | bad a e => exact fun h => h.dead
        | ok z => exact fun h => h.val _)
      have HW : Hid (Wk p w w4) := ((HG2.out.trans G4).trans G6).trans G8
      have kv := hV w4 p t o _ G9 HPV.out.2.2.2.2.2
      have HOF : Hid (Tryz.Ow w x ks vals _ sv) := HOW.out
      clear G3 G4 G5 G6 G7 G8 G9 HG1 HG2 HO1 HOW
      generalize (Go.Jv.take t (blanks t q1) 58).bind (fun q2 => (.ok ((), blanks t q2) : R (Unit × Nat))) = Q2 at *
      go_upto_region 10 with (first | (go_at_call 57; refine kv.mono ?_; clear kv; rintro e5 w5 ⟨⟨a5, rfl, hv5⟩, G10, G11⟩) | fail)
      have HVD : Hid (Tryz.Vd w4 p t o (Q2.bind fun y => value t d y.2) (.returned (.pointer a5)) w5) := ⟨⟨a5, rfl, hv5⟩, G10, G11⟩
      have kput := Tryz.put_any (HOF.out.wk (HW.out.trans G11) HPV.out.2.2.2.2.1) HPV.out.1 HPV.out.2.1 HPV.out.2.2.1 P HPL.out s a5
      clear G10 G11 hv5
      go_wp2_with (first | (go_at_call 99; refine kput.mono ?_; clear kput; rintro e6 w6 ⟨⟨v6, rfl⟩, kv', sv', O6, C6⟩) | fail)
      refine bodyPost_ret (results_none rfl _ _ _) rfl ?_
      rw [← HPP.out] at O6
      exact Tryz.memEnd HYT2.out HOF.out HW.out HVD.out O6 C6 HPV.out.1 HPV.out.2.1 (by rw [HPP.out]; exact HPL.out) HPV.out.2.2.2.2.1
end Go.Proofs
namespace Go.Jv
open Go.RowKit
theorem run_ends (f : UInt8 → Bool) (t : ByteArray) : ∀ (n q : Nat), t.size - q ≤ n → q ≤ t.size → run f t q < t.size → f (t.get! (run f t q)) = false
  | 0, q, h, hq, e => by have := (Go.Proofs.Jv.run_le f t q hq).1; omega
  | n + 1, q, h, hq, e => by
    by_cases hc : q < t.size ∧ f (t.get! q) = true
    · rw [Go.Proofs.Jv.run_step f t q hc.1 hc.2] at e ⊢
      exact run_ends f t n (q + 1) (by omega) (by omega) e
    · have hs : run f t q = q := Go.Proofs.Jv.run_stop f t q fun h2 => by
        cases hx : f (t.get! q) with
        | true => exact absurd ⟨h2, hx⟩ hc
        | false => rfl
      rw [hs] at e ⊢
      cases hx : f (t.get! q) with
      | true => exact absurd ⟨e, hx⟩ hc
      | false => rfl
theorem blanks_twice (t : ByteArray) (q : Nat) (hq : q ≤ t.size) : blanks t (blanks t q) = blanks t q :=
  Go.Proofs.Jv.run_stop isBlank t _ (run_ends isBlank t _ q (Nat.le_refl _) hq)
/-- Where the next item is read; there may be too many. -/
def sizeAt (t : ByteArray) (q m : Nat) : R (Unit × Nat) := if blanks t q < t.size ∧ m = 64 then .bad (blanks t q) eSize else .ok ((), blanks t q)
/-- The rest of a list, from the place of its next item on. -/
def headL (t : ByteArray) (d n q : Nat) (had : List V) : R (V × Nat) := (sizeAt t q had.length).bind fun y => (value t d y.2).bind fun x => listFrom t (value t d) n x.2 (had ++ [x.1])
theorem value_end {t : ByteArray} {d q : Nat} (h : ¬ q < t.size) : value t d q = .bad q eSyntax := by
  unfold value
  rw [Go.Proofs.Jv.next_end h]
  rfl
theorem headL_is (t : ByteArray) (d n q : Nat) (had : List V) : headL t d n q had = (next t (blanks t q)).bind fun _ => if had.length = 64 then .bad (blanks t q) eSize else (value t d (blanks t q)).bind fun x => listFrom t (value t d) n x.2 (had ++ [x.1]) := by
  unfold headL sizeAt
  by_cases h : blanks t q < t.size
  · rw [Go.Proofs.Jv.next_at h, Rbind_ok]
    by_cases h2 : had.length = 64
    · rw [if_pos ⟨h, h2⟩, if_pos h2]; rfl
    · rw [if_neg (fun e => h2 e.2), if_neg h2]; rfl
  · rw [Go.Proofs.Jv.next_end h, if_neg (fun e => h e.1), Rbind_ok, Rbind_bad]
    show (value t d (blanks t q)).bind _ = _
    rw [value_end h]
    rfl
theorem list_head (t : ByteArray) (d n p : Nat) (had : List V) (hp : p ≤ t.size) : listFrom t (value t d) (n + 1) p had = (next t (blanks t p)).bind fun c => if c = 93 then .ok (.list had, blanks t p + 1) else if had.length = 0 then headL t d n (blanks t p) had else (Go.Jv.take t (blanks t p) 44).bind fun q => headL t d n q had := by
  have e : listFrom t (value t d) (n + 1) p had = (more t p 93 had.length).bind fun m => if m.1 = false then .ok (.list had, m.2) else (value t d m.2).bind fun x => listFrom t (value t d) n x.2 (had ++ [x.1]) := rfl
  rw [e]
  unfold more
  by_cases hl : blanks t p < t.size
  · rw [Go.Proofs.Jv.next_at hl, Rbind_ok, Rbind_ok]
    by_cases h1 : t.get! (blanks t p) = 93
    · rw [if_pos h1, if_pos h1]; rfl
    · rw [if_neg h1, if_neg h1]
      by_cases h2 : had.length = 0
      · rw [if_pos h2, if_pos h2, headL_is, blanks_twice t p hp, Go.Proofs.Jv.next_at hl, Rbind_ok, Rbind_ok, if_neg (show ¬ had.length = 64 by omega)]
        rfl
      · rw [if_neg h2, if_neg h2]
        cases Go.Jv.take t (blanks t p) 44 with
        | bad a e => rfl
        | ok q =>
          rw [Rbind_ok, Rbind_ok, headL_is]
          cases next t (blanks t q) with
          | bad a e => rfl
          | ok c =>
            rw [Rbind_ok, Rbind_ok]
            split
            · rfl
            · rfl
  · rw [Go.Proofs.Jv.next_end hl]; rfl
/-- Behind the first bracket. -/
theorem list_first (t : ByteArray) (d q : Nat) (hq : q ≤ t.size) : listFrom t (value t d) 66 q [] = if blanks t q < t.size ∧ t.get! (blanks t q) = 93 then .ok (.list [], blanks t q + 1) else headL t d 65 (blanks t q) [] := by
  rw [list_head t d 65 q [] hq]
  by_cases hl : blanks t q < t.size
  · rw [Go.Proofs.Jv.next_at hl, Rbind_ok]
    by_cases h1 : t.get! (blanks t q) = 93
    · rw [if_pos h1, if_pos ⟨hl, h1⟩]
    · rw [if_neg h1, if_neg (show ¬ (blanks t q < t.size ∧ t.get! (blanks t q) = 93) from fun e => h1 e.2)]; rfl
  · rw [if_neg (show ¬ (blanks t q < t.size ∧ t.get! (blanks t q) = 93) from fun e => hl e.1), Go.Proofs.Jv.next_end hl, headL_is, blanks_twice t q hq, Go.Proofs.Jv.next_end hl]; rfl
/-- Behind an item. -/
theorem list_next (t : ByteArray) (d n q : Nat) (had : List V) (hh : had.length ≠ 0) (hq : q ≤ t.size) : listFrom t (value t d) (n + 1) q had = if blanks t q < t.size ∧ t.get! (blanks t q) = 93 then .ok (.list had, blanks t q + 1) else (Go.Jv.take t (blanks t q) 44).bind fun q => headL t d n q had := by
  rw [list_head t d n q had hq]
  by_cases hl : blanks t q < t.size
  · rw [Go.Proofs.Jv.next_at hl, Rbind_ok]
    by_cases h1 : t.get! (blanks t q) = 93
    · rw [if_pos h1, if_pos ⟨hl, h1⟩]
    · rw [if_neg h1, if_neg (show ¬ (blanks t q < t.size ∧ t.get! (blanks t q) = 93) from fun e => h1 e.2), if_neg hh]
  · rw [if_neg (show ¬ (blanks t q < t.size ∧ t.get! (blanks t q) = 93) from fun e => hl e.1), Go.Proofs.Jv.next_end hl]
    rw [show Go.Jv.take t (blanks t q) 44 = .bad (blanks t q) eSyntax from if_neg fun e => hl e.1]; rfl
theorem sizeAt_64 {t : ByteArray} {d q m : Nat} {x : V × Nat} (h : ((sizeAt t q m).bind fun y => value t d y.2) = .ok x) : m ≠ 64 := by
  rintro rfl
  unfold sizeAt at h
  by_cases hl : blanks t q < t.size
  · rw [if_pos ⟨hl, rfl⟩] at h; cases h
  · rw [if_neg (fun e => hl e.1), Rbind_ok, value_end hl] at h; cases h
end Go.Jv
namespace Go.Proofs
open Go.RowKit Go.Jv
/-- A list in the making: its block and its row. -/
structure Tryz.Lw (w : World) (x : Nat) (vals : List Value) (sv : Value) : Prop where
  vb : Jv.Vb w x 4 false 0 emp sv Jv.nilS
  items : w.ownsRow (x + 1) 25 1 sv vals.length vals
theorem Tryz.Lw.wk {w w' : World} {p x : Nat} {vals : List Value} {sv : Value} (h : Tryz.Lw w x vals sv) (g : Wk p w w') (hp : p < x) : Tryz.Lw w' x vals sv :=
  ⟨h.vb.keep (g.block x h.vb.lt (by omega)) g.size, Jv.row_wk h.items g (by omega)⟩
theorem Tryz.Lw.grow {w w2 : World} {x : Nat} {vals vals2 : List Value} {sv sv2 : Value} {ob : Obj} (h : Tryz.Lw w x vals sv) (hg : (w.alloc ob).grownBy w2 sv.ownBlock) (hr : w2.ownsRow (x + 1) 25 1 sv2 vals2.length vals2) (hn : ∀ g, sv2.ownBlock = some g → sv.ownBlock = some g ∨ w.heap.size ≤ g) :
    Tryz.Lw (w2.setCell ⟨x, 4, none⟩ sv2) x vals2 sv2 ∧ Jv.PutC w (w2.setCell ⟨x, 4, none⟩ sv2) x Jv.nilS sv Jv.nilS sv2 := by
  have hx := h.vb.lt
  have hbs := Jv.row_lt h.items
  have hz : w.heap.size ≤ w2.heap.size := by have := hg.size; simp at this; omega
  have hall : ∀ k, k < w.heap.size → sv.ownBlock ≠ some k → w2.heap[k]? = w.heap[k]? := fun k hk hne => (hg.block k (by simp; omega) (Ne.symm hne)).trans (Below.heap_alloc w ob k hk)
  have hxk : sv.ownBlock ≠ some x := fun e => by have := (hbs x e).1; omega
  refine ⟨⟨(h.vb.keep (hall x hx hxk) hz).set4 _, ?_⟩, ⟨hg.os, hg.tape, hg.output, by simpa using hz, fun k a b c d => (Below.heap_setCell w2 ⟨x, 4, none⟩ _ k (fun e => b e)).trans (hall k a d), fun g e => .inl e, hn⟩⟩
  exact Jv.row_unset hr (fun e => by have := (Jv.row_lt hr x e).1; omega) _ _
end Go.Proofs
namespace Go.Proofs
open Go.RowKit Go.Jv
/-- Where the items of a list in the making may lie. -/
def Jv.okL (w0 : World) (x : Nat) (sv : Value) (g : Nat) : Prop := w0.heap.size ≤ g ∧ g ≠ x ∧ sv.ownBlock ≠ some g
theorem Tryz.listPut {w0 wr w4 w5 W6 : World} {p x o q : Nat} {t : ByteArray} {vals : List Value} {sv sv6 : Value} {D : R (V × Nat)} {a : Option Addr} {v : V} {had : List V} {xs : List Nat} (hp : p < w0.heap.size) (hz : w0.heap.size ≤ wr.heap.size)
    (wk : Wk p wr w4) (lw : Tryz.Lw wr x vals sv) (hV : Tryz.Vd w4 p t o D (.returned (.pointer a)) w5) (hD : D = .ok (v, q)) (hT : Tryz.Tds wr (Jv.okL w0 x sv) had xs) (hC : Jv.PutC w5 W6 x Jv.nilS sv Jv.nilS sv6) :
    ∃ y, a = some ⟨y, 0, none⟩ ∧ Tryz.Tds W6 (Jv.okL w0 x sv6) (had ++ [v]) (xs ++ [y]) := by
  obtain ⟨a', ha', hval⟩ := hV.val
  injection ha' with ha'
  injection ha' with ha'
  subst ha'
  obtain ⟨y, rfl, hy⟩ := hval v q hD
  have bs := Jv.row_lt lw.items
  have hx := lw.vb.lt
  have z1 := wk.size
  have z2 := hV.wk.size
  have wk5 := wk.trans hV.wk
  have h1 : Tryz.Tds w5 (Jv.okL w0 x sv) had xs := Tryz.Tds_keep (fun g hg hlt => wk5.block g hlt (fun e => by have := hg.1; omega)) wk5.size had xs hT
  have h2 : Tryz.Td w5 (Jv.okL w0 x sv) v y := Tryz.Td_mono (fun g hg _ => ⟨by omega, by omega, fun e => by have := (bs g e).2; omega⟩) v y hy
  have h3 := Tryz.Tds_snoc h2 had xs h1
  refine ⟨y, rfl, Tryz.Tds_keep (w := w5) (fun g hg hlt => ?_) hC.size _ _ (Tryz.Tds_mono (ok := Jv.okL w0 x sv) (ok' := fun g => Jv.okL w0 x sv g ∧ sv6.ownBlock ≠ some g) (fun g hg hlt => ⟨hg, fun e => ?_⟩) _ _ h3) |> Tryz.Tds_mono (fun g hg _ => ⟨hg.1.1, hg.1.2.1, hg.2⟩) _ _⟩
  · exact hC.block g hlt hg.1.2.1 (by simp [Jv.nilS, Value.ownBlock]) hg.1.2.2
  · rcases hC.sn g e with e | e
    · exact hg.2.2 e
    · omega
theorem Tryz.listEnd {w0 wE : World} {p x o q : Nat} {t : ByteArray} {vals : List Value} {sv : Value} {X : R (V × Nat)} {z : V} {had : List V} {xs : List Nat} (hp : p < w0.heap.size) (hx : w0.heap.size ≤ x) (wk : Wk p w0 wE) (lw : Tryz.Lw wE x vals sv) (hvx : vals = Jv.ptrs xs) (hT : Tryz.Tds wE (Jv.okL w0 x sv) had xs)
    (hR : Tryz.DS wE p t (o + 1) (.ok (z, q) : R (V × Nat))) (ho : o ≤ 10) (hX : X = .ok (.list had, q)) (n : Nat) (zz : Int) (hzz : zz = (o : Int)) : Tryz.Vd w0 p t o X (.returned (.pointer (some ⟨x, 0, none⟩))) ((wE.drewN n).setCell ⟨p, 2, none⟩ (.int .i64 zz)) := by
  subst hX hvx
  have hW : Wk p wE ((wE.drewN n).setCell ⟨p, 2, none⟩ (.int .i64 zz)) := Wk.setCell ((Wk.refl p wE).drewN n) _ _ _
  have lw2 := lw.wk hW (by omega)
  refine ⟨⟨_, rfl, fun v q' e => ?_⟩, (hR.brackets n zz o hzz ho).val _, wk.trans hW⟩
  injection e with e
  injection e with e1 e2
  subst e1
  refine ⟨x, rfl, ?_⟩
  unfold Tryz.Td
  refine ⟨hx, sv, xs, lw2.vb, ⟨Jv.row_move lw2.items fun g e => ⟨Nat.zero_le _, rfl⟩, fun g e => by have := (Jv.row_lt lw2.items g e).1; omega⟩, ?_⟩
  exact Tryz.Tds_mono (fun g hg _ => hg.1) _ _ (Tryz.Tds_keep (fun g hg hlt => hW.block g hlt (fun e => by have := hg.1; omega)) hW.size _ _ hT)
theorem Tryz.listDead {w0 wE : World} {p o a e : Nat} {t : ByteArray} {X : R (V × Nat)} (wk : Wk p w0 wE) (hR : Tryz.DS wE p t (o + 1) (.bad a e : R (Unit × Nat))) (ho : o ≤ 10) (hX : X = .bad a e) (n : Nat) (zz : Int) (hzz : zz = (o : Int)) (y : Option Addr) : Tryz.Vd w0 p t o X (.returned (.pointer y)) ((wE.drewN n).setCell ⟨p, 2, none⟩ (.int .i64 zz)) := by
  refine Tryz.vd_none hX (hR.brackets n zz o hzz ho).dead (wk.trans (Wk.setCell ((Wk.refl p wE).drewN n) _ _ _)) y
theorem Jv.byteJ_ne {t : ByteArray} {q : Nat} {α : Type} (a : α) (c : UInt8) (h : ¬ (q < t.size ∧ t.get! q = c)) : (byteJ t (.ok (a, q) : R (α × Nat)) == (c.toNat : Int)) = false := by
  refine beq_eq_false_iff_ne.2 fun e => ?_
  by_cases hl : q < t.size
  · have hb : byteJ t (.ok (a, q) : R (α × Nat)) = (((t.get! q).toNat : Nat) : Int) := if_pos hl
    rw [hb] at e
    exact h ⟨hl, UInt8.toNat_inj.1 (by omega)⟩
  · have hb : byteJ t (.ok (a, q) : R (α × Nat)) = -1 := if_neg hl
    rw [hb] at e
    omega
theorem Tryz.wkPut {w w5 W6 : World} {p x : Nat} {vals : List Value} {sv sv6 : Value} (h : Wk p w w5) (lw : Tryz.Lw w5 x vals sv) (hx : w.heap.size ≤ x) (hC : Jv.PutC w5 W6 x Jv.nilS sv Jv.nilS sv6) : Wk p w W6 :=
  ⟨hC.os.trans h.os, hC.tape.trans h.tape, hC.output.trans h.output, Nat.le_trans h.size hC.size, fun k hk hkp => (hC.block k (Nat.lt_of_lt_of_le hk h.size) (by omega) (by simp [Jv.nilS, Value.ownBlock]) (fun e => by have := (Jv.row_lt lw.items k e).1; omega)).trans (h.block k hk hkp)⟩
/-- Between two items. -/
structure Tryz.Lr (w0 : World) (p x o d : Nat) (t : ByteArray) (X : R (V × Nat)) (k : Nat) (wr : World) : Prop where
  wk : Wk p w0 wr
  st : ∃ vals sv, Tryz.Lw wr x vals sv ∧ k + vals.length = 65 ∧
    ((∃ a e, X = .bad a e ∧ Tryz.DS wr p t (o + 1) (.bad a e : R (Unit × Nat))) ∨
     (∃ had xs q, Tryz.DS wr p t (o + 1) (.ok ((), q) : R (Unit × Nat)) ∧ vals = Jv.ptrs xs ∧ Tryz.Tds wr (Jv.okL w0 x sv) had xs ∧ X = headL t d k q had ∧ had.length ≤ 64))
set_option maxRecDepth 20000 in
set_option maxHeartbeats 4000000 in
theorem Tryz.dsList {d : Nat} (hV : Tryz.ValD d) {w : World} {p : Nat} {t : ByteArray} {o q : Nat} (h : Tryz.DS w p t o (.ok ((), q) : R (Unit × Nat))) (ho : o + 1 + d = 10) (hq : q < t.size) :
    Calls Tryz.prog 83 #[.pointer (some ⟨p, 0, none⟩), .bool false] w fun e w' => Tryz.Vd w p t o (listFrom t (value t d) 66 (q + 1) []) e w' := by
  have hp := h.lt
  have HO : Hid (o + 1 + d = 10) := ho
  have HX : Hid (listFrom t (value t d) 66 (q + 1) [] = _) := list_first t d (q + 1) (by omega)
  obtain ⟨X, hX⟩ : ∃ X, listFrom t (value t d) 66 (q + 1) [] = X := ⟨_, rfl⟩
  rw [hX] at HX ⊢
  clear hX
  have HH : Hid (Tryz.DS w p t o (.ok ((), q) : R (Unit × Nat))) := h
  clear h
  go_enter Tryz.func83, Tryz.ntmps83
  go_upto_region 6 with (fail)
  have HD1 : Hid (Tryz.DS (w.alloc (.cells #[.int .i64 4, .bool false, .int .i64 0, .string emp, Jv.nilS, Jv.nilS] 87)) p t o (.ok ((), q) : R (Unit × Nat))) := HH.out.heap (Below.heap_alloc _ _ _ hp)
  have HV1 : Hid (Jv.Vb (w.alloc (.cells #[.int .i64 4, .bool false, .int .i64 0, .string emp, Jv.nilS, Jv.nilS] 87)) w.heap.size 4 false 0 emp Jv.nilS Jv.nilS) := Jv.Vb.new _ _ _ _ _ _ _ _
  have HK1 : Hid (Wk p w (w.alloc (.cells #[.int .i64 4, .bool false, .int .i64 0, .string emp, Jv.nilS, Jv.nilS] 87))) := (Wk.refl p w).below ((Below.refl w.heap.size _).alloc (Nat.le_refl _) _) (Nat.le_refl _)
  unfold Jv.nilS emp at HD1 HV1 HK1
  generalize w.alloc _ = w1 at *
  obtain ⟨x, hx⟩ : ∃ x, w.heap.size = x := ⟨_, rfl⟩
  rw [hx] at HV1 hp ⊢
  have HPX : Hid (w.heap.size = x ∧ p < x) := ⟨hx, hp⟩
  clear hx HH
  obtain ⟨i, er, c0, c1, c2, c3, fz, hi, hs, -, hy, -⟩ := HD1.out.place
  obtain ⟨e1, rfl⟩ := hy _ rfl
  have e1 : q = i := e1
  subst e1
  have f1 := fz 1
  have f2 := fz 2
  have q1 : (0 : Int) ≤ (q : Int) := by omega
  have q2 : (q : Int) < 4096 := by omega
  have q3 : (o : Int) < 10 := by omega
  have q4 : (0 : Int) ≤ (o : Int) := by omega
  clear hy fz e1
  go_upto_region 11 with (fail)
  have HD2 : Hid (Tryz.DS ((w1.setCell ⟨p, 1, none⟩ (.int .i64 ((q : Int) + 1))).setCell ⟨p, 2, none⟩ (.int .i64 ((o : Int) + 1))) p t (o + 1) (.ok ((), q + 1) : R (Unit × Nat))) := (HD1.out.move0 ((q : Int) + 1) (q + 1) (by omega) (by omega) ()).brackets 0 ((o : Int) + 1) (o + 1) (by omega) (by omega)
  have HK2 : Hid (Wk p w ((w1.setCell ⟨p, 1, none⟩ (.int .i64 ((q : Int) + 1))).setCell ⟨p, 2, none⟩ (.int .i64 ((o : Int) + 1)))) := Wk.setCell (Wk.setCell HK1.out _ _ _) _ _ _
  have hxp : x ≠ p := by omega
  have HV2 : Hid (Jv.Vb ((w1.setCell ⟨p, 1, none⟩ (.int .i64 ((q : Int) + 1))).setCell ⟨p, 2, none⟩ (.int .i64 ((o : Int) + 1))) x 4 false 0 emp Jv.nilS Jv.nilS) := HV1.out.keep ((Below.heap_setCell _ ⟨p, 2, none⟩ _ x hxp).trans (Below.heap_setCell _ ⟨p, 1, none⟩ _ x hxp)) (by simp)
  generalize (w1.setCell ⟨p, 1, none⟩ (.int .i64 ((q : Int) + 1))).setCell ⟨p, 2, none⟩ (.int .i64 ((o : Int) + 1)) = w2 at *
  clear HD1 HK1 HV1 c0 c1 c2 c3 f1 f2
  go_upto_region 12 with (first | (go_at_call 56; refine (Tryz.dsBlanks HD2.out).mono ?_; rintro e3 w3 ⟨⟨v3, rfl⟩, G1, G2, -⟩) | fail)
  have G1' : Tryz.DS w3 p t (o + 1) (.ok ((), blanks t (q + 1)) : R (Unit × Nat)) := G1
  clear G1
  have G1 := G1'
  clear G1'
  have HW3 : Hid (Wk p w w3) := HK2.out.trans G2
  have HL3 : Hid (Tryz.Lw w3 x [] Jv.nilS) := ⟨HV2.out.keep (G2.block x HV2.out.lt hxp) G2.size, by refine ⟨rfl, .inl ⟨rfl, rfl⟩⟩⟩
  have hq2 := (Jv.blanks_le t (q + 1) (by omega)).2
  clear HD2 HK2 HV2 G2 q1 q2
  generalize blanks t (q + 1) = q2 at *
  have kn := Tryz.dsNext G1
  obtain ⟨i, er, c0, c1, c2, c3, fz, -, -, -, hy, -⟩ := G1.place
  obtain ⟨e1, rfl⟩ := hy _ rfl
  have e1 : q2 = i := e1
  subst e1
  have f1 := fz 1
  have f2 := fz 2
  clear hy fz e1
  have q1 : (0 : Int) ≤ (q2 : Int) := by omega
  have q3 : (q2 : Int) ≤ 4096 := by omega
  have HG1 : Hid (Tryz.DS w3 p t (o + 1) (.ok ((), q2) : R (Unit × Nat))) := G1
  clear G1
  by_cases hl : q2 < t.size ∧ t.get! q2 = 93
  · have hb : byteJ t (.ok ((), q2) : R (Unit × Nat)) = 93 := (if_pos hl.1).trans (by rw [hl.2]; rfl)
    rw [hb] at kn
    have HXX : Hid (X = .ok (.list [], q2 + 1)) := HX.out.trans (if_pos hl)
    clear HX hb
    go_wp2_with (first | (go_at_call 58; refine kn.mono ?_; clear kn; rintro e4 w4 ⟨rfl, n4, rfl⟩) | fail)
    go_ret
    exact Tryz.listEnd (vals := []) (sv := Jv.nilS) (had := []) (xs := []) (z := .null) (by have := HPX.out; omega) (by have := HPX.out; omega) (Wk.setCell (HW3.out.drewN n4) _ _ _) (HL3.out.wk (p := p) (Wk.setCell ((Wk.refl _ _).drewN n4) _ _ _) (by omega)) rfl rfl (HG1.out.move n4 ((q2 : Int) + 1) (q2 + 1) (by omega) (by omega) _) (by omega) HXX.out 0 _ (by omega)
  · have HXX : Hid (X = headL t d 65 q2 []) := HX.out.trans (if_neg hl)
    have hb : (byteJ t (.ok ((), q2) : R (Unit × Nat)) == 93) = false := Jv.byteJ_ne _ 93 hl
    clear HX hl
    generalize byteJ t (.ok ((), q2) : R (Unit × Nat)) = jz at *
    go_wp2_with (first | (go_at_call 58; refine kn.mono ?_; clear kn; rintro e4 w4 ⟨rfl, n4, rfl⟩) | fail)
    go_loopg [] 65 (fun k wr => Hid (Tryz.Lr w p x o d t X k wr))
    case atStart => exact ⟨HW3.out.drewN n4, [], Jv.nilS, ⟨HL3.out.vb.keep rfl (Nat.le_refl _), ⟨rfl, .inl ⟨rfl, rfl⟩⟩⟩, rfl, .inr ⟨[], [], q2, HG1.out.drewN n4, rfl, rfl, HXX.out, by simp⟩⟩
    case round =>
      obtain ⟨hwk, vals, sv, hlw, hlen, hst⟩ := hrel.out
      clear hrel c0 c1 c2 c3 f1 f2 hb
      rcases hst with ⟨a, e, hX, hS⟩ | ⟨had, xs, q, hS, hvx, hT, hX, hh⟩
      · obtain ⟨i, er, c0, c1, c2, c3, fz, -, -, -, -, hbd⟩ := hS.place
        obtain ⟨e1, e2⟩ := hbd a e rfl
        have q1 : ((er : Int) == 0) = false := beq_eq_false_iff_ne.2 (by omega)
        have f2 := fz 2
        have HE : Hid (Tryz.DS wr p t (o + 1) (.bad a e : R (Unit × Nat))) := hS
        clear hbd e1 e2 fz hS
        go_wp2
        go_ret
        exact Tryz.listDead hwk HE.out (by omega) hX 0 _ (by omega) _
      · obtain ⟨j, hj⟩ : ∃ j, gk = j + 1 := ⟨gk - 1, by have h1 : vals.length = had.length := (by rw [hvx]; simp [Jv.ptrs, Tryz.Tds_len _ _ hT]); omega⟩
        have HVL : Hid (vals.length = had.length) := (by show vals.length = had.length; rw [hvx]; simp [Jv.ptrs, Tryz.Tds_len _ _ hT])
        have hpx := HPX.out.2
        have hwx : w.heap.size ≤ x := Nat.le_of_eq HPX.out.1
        have hpw : p < w.heap.size := by have := HPX.out; omega
        obtain ⟨ad, cap, rfl⟩ := Jv.row_form2 hlw.items
        have HWR : Hid (Wk p w wr) := hwk
        have HLR : Hid (Tryz.Lw wr x vals (.slice ad vals.length cap)) := hlw
        have HTR : Hid (Tryz.Tds wr (Jv.okL w x (.slice ad vals.length cap)) had xs) := hT
        have HVX : Hid (vals = Jv.ptrs xs) := hvx
        have HSR : Hid (Tryz.DS wr p t (o + 1) (.ok ((), q) : R (Unit × Nat))) := hS
        have HXR : Hid (X = ((sizeAt t q had.length).bind fun y => value t d y.2).bind fun x => listFrom t (value t d) (j + 1) x.2 (had ++ [x.1])) := (by rw [hX, hj]; unfold headL; cases sizeAt t q had.length <;> rfl)
        have HC64 : Hid (∀ x, ((sizeAt t q had.length).bind fun y => value t d y.2) = .ok x → had.length ≠ 64) := fun x e => sizeAt_64 e
        have HSZ : Hid (sizeAt t q had.length = if blanks t q < t.size ∧ had.length = 64 then .bad (blanks t q) eSize else .ok ((), blanks t q)) := rfl
        obtain ⟨i1, hi1, hy0, hy1, hy2⟩ := info_parts Tryz.info_ptrD
        obtain ⟨i, er, c0, c1, c2, c3, fz, -, -, -, hy, -⟩ := hS.place
        obtain ⟨e1, rfl⟩ := hy _ rfl
        clear hy fz e1 c0 c1 c2 hwk hlw hT hvx hX
        have hqs := hS.le
        clear hS
        go_upto_region 18 with (first | (go_at_call 56; refine (Tryz.dsBlanks HSR.out).mono ?_; rintro e3 w3 ⟨⟨v3, rfl⟩, G1, G2, -⟩) | fail)
        have HG1 : Hid (Tryz.DS w3 p t (o + 1) (.ok ((), blanks t q) : R (Unit × Nat))) := G1
        have HG2 : Hid (Wk p wr w3) := G2
        have hq2 := (Jv.blanks_le t q hqs).2
        clear G1 G2
        generalize sizeAt t q had.length = C at *
        generalize blanks t q = q2 at *
        have kn := Tryz.dsNext HG1.out
        obtain ⟨i, er, c0, c1, c2, c3, fz, -, -, -, hy, -⟩ := HG1.out.place
        obtain ⟨e1, rfl⟩ := hy _ rfl
        have e1 : q2 = i := e1
        subst e1
        clear hy fz e1
        have c4 := (HLR.out.wk HG2.out hpx).vb.c4
        by_cases hl : q2 < t.size
        · have hb : byteJ t (.ok ((), q2) : R (Unit × Nat)) = (((t.get! q2).toNat : Nat) : Int) := if_pos hl
          rw [hb] at kn
          have hb0 : (0 : Int) ≤ (((t.get! q2).toNat : Nat) : Int) := by omega
          generalize (((t.get! q2).toNat : Nat) : Int) = jz at *
          clear hb
          by_cases h64 : had.length = 64
          · have HCC : Hid (C = .bad q2 eSize) := HSZ.out.trans (if_pos ⟨hl, h64⟩)
            have hv64 : vals.length = 64 := by have := HVL.out; omega
            have hv65 : ((vals.length : Int) == 64) = true := by rw [hv64]; rfl
            clear hv64
            go_upto_region 22 with (first
              | (go_at_call 58; refine kn.mono ?_; clear kn; rintro e4 w4 ⟨rfl, n4, rfl⟩)
              | (go_at_call 59; refine (Tryz.dsFail Unit (HG1.out.drewN n4) q2 22 (by decide)).mono ?_; rintro e5 wC ⟨⟨v5, rfl⟩, G3, G4, -⟩)
              | fail)
            have HSC : Hid (Tryz.DS wC p t (o + 1) C) := (by rw [HCC.out]; exact G3.dead)
            have HWC : Hid (Wk p wr wC) := (HG2.out.drewN n4).trans G4
            clear hv65 h64 G3 G4 HG1 HG2 HCC HSZ c0 c1 c2 c3 c4
            have kv := hV _ p t (o + 1) C HSC.out (by omega)
            go_upto_region 23 with (first | (go_at_call 57; refine kv.mono ?_; clear kv; rintro e5 w5 ⟨⟨a5, rfl, hv5⟩, G10, G11⟩) | fail)
            generalize Value.slice ad vals.length cap = S at *
            have HVD : Hid (Tryz.Vd _ p t (o + 1) (C.bind fun y => value t d y.2) (.returned (.pointer a5)) w5) := ⟨⟨a5, rfl, hv5⟩, G10, G11⟩
            have HW5 : Hid (Wk p wr w5) := HWC.out.trans G11
            have HL5 : Hid (Tryz.Lw w5 x vals S) := HLR.out.wk HW5.out hpx
            have c4 := HL5.out.vb.c4
            have f4 := HL5.out.vb.f4
            have hx5 := HL5.out.vb.lt
            have hxs : S.ownBlock ≠ some x := fun e => by have := (Jv.row_lt HL5.out.items x e).1; omega
            clear hv5 G10 G11
            go_upto_region 24 with (first
              | (at_builtin; refine wpList_append_lies _ rfl _ _ 44 rfl (x + 1) 25 i1 _ 1 8 Tryz.underlying44 hi1 hy0 hy1 hy2 rfl (by omega) S vals.length vals rfl (Jv.row_alloc HL5.out.items _) ⟨w5.heap.size, 0, none⟩ 1 1 [.pointer a5] rfl rfl (World.news_of_block (cs := #[.pointer a5]) (t := 25) (fr := (0, 0)) (heap_alloc_new w5 _)) (by simp [Value.oneCell']) (by omega) (by unfold maxLen; omega) (by omega) (by simp; omega) (w5.heap.size + 1) (by simp) ?_; intro g2 cap2 w6 hown2 hg2 hat2 hlt2; have c42 : w6.cell? ⟨x, 4, none⟩ = some S := (hg2.cell_far _ (by simp; omega) (Ne.symm hxs)).trans ((((Below.refl w5.heap.size w5).alloc (Nat.le_refl _) _).cell (p := ⟨x, 4, none⟩) hx5).trans c4); have f42 : w6.frozen? ⟨x, 4, none⟩ = false := (hg2.frozen_far _ (by simp; omega) (Ne.symm hxs)).trans ((((Below.refl w5.heap.size w5).alloc (Nat.le_refl _) _).frozen (p := ⟨x, 4, none⟩) hx5).trans f4))
              | fail)
            have HGR : Hid (Tryz.Lw (w6.setCell ⟨x, 4, none⟩ (.slice (some ⟨g2, 0, none⟩) (vals.length + 1) cap2)) x (vals ++ [.pointer a5]) (.slice (some ⟨g2, 0, none⟩) (vals.length + 1) cap2) ∧ Jv.PutC w5 (w6.setCell ⟨x, 4, none⟩ (.slice (some ⟨g2, 0, none⟩) (vals.length + 1) cap2)) x Jv.nilS S Jv.nilS (.slice (some ⟨g2, 0, none⟩) (vals.length + 1) cap2)) := (by
              refine HL5.out.grow hg2 (by rw [List.length_append]; exact hown2) (fun g e => ?_)
              injection e with e
              rcases hat2 with h1 | h1
              · left; rw [h1]; exact congrArg some e
              · right; have e : g2 = g := e; omega)
            generalize w6.setCell ⟨x, 4, none⟩ (.slice (some ⟨g2, 0, none⟩) (vals.length + 1) cap2) = W6 at *
            generalize Value.slice (some ⟨g2, 0, none⟩) (vals.length + 1) cap2 = sv6 at *
            clear c42 f42 hown2 hg2 hat2 hlt2 c4 f4
            have HD6 : Hid (Tryz.DS W6 p t (o + 1) (C.bind fun y => value t d y.2)) := HVD.out.rd.heap (HGR.out.2.block p HVD.out.rd.lt (by omega) (by simp [Jv.nilS, Value.ownBlock]) (fun e => by have := (Jv.row_lt HL5.out.items p e).1; omega))
            have HW6 : Hid (Wk p w W6) := Tryz.wkPut (HWR.out.trans HW5.out) HL5.out hwx HGR.out.2
            have HPUT : Hid (∀ v q, (C.bind fun y => value t d y.2) = .ok (v, q) → had.length ≠ 64 ∧ q ≤ t.size ∧ ∃ y, a5 = some ⟨y, 0, none⟩ ∧ Tryz.Tds W6 (Jv.okL w x sv6) (had ++ [v]) (xs ++ [y])) := fun v q e => (by
              refine ⟨HC64.out _ e, ?_, Tryz.listPut hpw HWR.out.size HWC.out HLR.out HVD.out e HTR.out HGR.out.2⟩
              have h1 := HVD.out.rd
              rw [e] at h1
              exact h1.le)
            have HLW : Hid (Tryz.Lw W6 x (vals ++ [.pointer a5]) sv6) := HGR.out.1
            clear HGR HVD HL5 HW5 hxs hx5 HSC HWC HC64
            generalize (C.bind fun y => value t d y.2) = D at *
            go_upto_region 25 with (first | (go_at_call 56; refine (Tryz.dsBlanks HD6.out).mono ?_; rintro e7 w7 ⟨⟨v7, rfl⟩, G20, G21, -⟩) | fail)
            have HW7 : Hid (Wk p w w7) := HW6.out.trans G21
            have HLW7 : Hid (Tryz.Lw w7 x (vals ++ [.pointer a5]) sv6) := HLW.out.wk G21 hpx
            have hlen7 : j + (vals ++ [Value.pointer a5]).length = 65 := by rw [List.length_append]; simp; omega
            have HG21 : Hid (Wk p W6 w7) := G21
            clear HW6 HLW HD6 G21
            cases D with
            | bad a e =>
              have HXB : Hid (X = .bad a e) := HXR.out
              have HG : Hid (Tryz.DS w7 p t (o + 1) (.bad a e : R (V × Nat))) := G20
              have kn7 := Tryz.dsNext HG.out
              have hb7 : byteJ t (.bad a e : R (V × Nat)) = -1 := rfl
              rw [hb7] at kn7
              clear G20 hb7
              go_wp2_with (first
                | (go_at_call 58; refine kn7.mono ?_; clear kn7; rintro e8 w8 ⟨rfl, n8, rfl⟩)
                | (go_at_call 111; refine (Tryz.dsMust (HG.out.drewN n8) 44).mono ?_; rintro e9 w9 ⟨⟨v9, rfl⟩, G30, G31, -⟩)
                | fail)
              go_roundg j
              case measure => omega
              case rel => exact ⟨(HW7.out.drewN n8).trans G31, _, _, HLW7.out.wk (((Wk.refl p _).drewN n8).trans G31) hpx, hlen7, .inl ⟨a, e, HXB.out, G30.dead⟩⟩
            | ok vq =>
              obtain ⟨v, q0⟩ := vq
              have HXO : Hid (X = listFrom t (value t d) (j + 1) q0 (had ++ [v])) := HXR.out
              obtain ⟨h63, hq0, y, rfl, hTs⟩ := HPUT.out v q0 rfl
              have HXN := list_next t d j q0 (had ++ [v]) (by simp) hq0
              have hq3 := (Jv.blanks_le t q0 hq0).2
              have HG : Hid (Tryz.DS w7 p t (o + 1) (.ok (v, blanks t q0) : R (V × Nat))) := G20
              have HTS : Hid (Tryz.Tds w7 (Jv.okL w x sv6) (had ++ [v]) (xs ++ [y])) := Tryz.Tds_keep (fun g hg hlt => HG21.out.block g hlt (fun e => by have := hg.1; omega)) HG21.out.size _ _ hTs
              have HVV : Hid (vals ++ [Value.pointer (some ⟨y, 0, none⟩)] = Jv.ptrs (xs ++ [y])) := (by show vals ++ [Value.pointer (some ⟨y, 0, none⟩)] = Jv.ptrs (xs ++ [y]); rw [HVX.out]; unfold Jv.ptrs; rw [List.map_append]; rfl)
              clear G20 hTs HPUT HXR
              generalize blanks t q0 = q3 at *
              have HXQ : Hid (X = if q3 < t.size ∧ t.get! q3 = 93 then .ok (.list (had ++ [v]), q3 + 1) else (Go.Jv.take t q3 44).bind fun q => headL t d j q (had ++ [v])) := HXO.out.trans HXN
              clear HXN HXO
              have kn7 := Tryz.dsNext HG.out
              obtain ⟨i, er, c0, c1, c2, c3, fz, -, -, -, hy, -⟩ := HG.out.place
              obtain ⟨e1, rfl⟩ := hy _ rfl
              have e1 : q3 = i := e1
              subst e1
              have f1 := fz 1
              have f2 := fz 2
              clear hy fz e1
              have q9 : (q3 : Int) ≤ 4096 := by omega
              have q8 : (0 : Int) ≤ (q3 : Int) := by omega
              by_cases hl : q3 < t.size ∧ t.get! q3 = 93
              · have hb7 : byteJ t (.ok (v, q3) : R (V × Nat)) = 93 := (if_pos hl.1).trans (by rw [hl.2]; rfl)
                rw [hb7] at kn7
                have HXF : Hid (X = .ok (.list (had ++ [v]), q3 + 1)) := HXQ.out.trans (if_pos hl)
                clear HXQ hb7
                go_wp2_with (first
                  | (go_at_call 58; refine kn7.mono ?_; clear kn7; rintro e8 w8 ⟨rfl, n8, rfl⟩)
                  | fail)
                go_ret
                exact Tryz.listEnd hpw hwx (Wk.setCell (HW7.out.drewN n8) _ _ _) (HLW7.out.wk (p := p) (Wk.setCell ((Wk.refl _ _).drewN n8) _ _ _) hpx) HVV.out (Tryz.Tds_keep (fun g hg hlt => (Wk.setCell ((Wk.refl p w7).drewN n8) _ _ _).block g hlt (fun e => by have := hg.1; omega)) (by simp) _ _ HTS.out) (HG.out.move n8 ((q3 : Int) + 1) (q3 + 1) (by omega) (by omega) v) (by omega) HXF.out 0 _ (by omega)
              · have hb7 : (byteJ t (.ok (v, q3) : R (V × Nat)) == 93) = false := Jv.byteJ_ne _ 93 hl
                have HXF : Hid (X = (Go.Jv.take t q3 44).bind fun q => headL t d j q (had ++ [v])) := HXQ.out.trans (if_neg hl)
                clear HXQ hl
                generalize byteJ t (.ok (v, q3) : R (V × Nat)) = jz at *
                go_wp2_with (first
                  | (go_at_call 58; refine kn7.mono ?_; clear kn7; rintro e8 w8 ⟨rfl, n8, rfl⟩)
                  | (go_at_call 111; refine (Tryz.dsMust (HG.out.drewN n8) 44).mono ?_; rintro e9 w9 ⟨⟨v9, rfl⟩, G30, G31, -⟩)
                  | fail)
                go_roundg j
                case measure => omega
                case rel =>
                  have hW9 : Wk p w7 w9 := ((Wk.refl p _).drewN n8).trans G31
                  refine ⟨HW7.out.trans hW9, _, sv6, HLW7.out.wk hW9 hpx, hlen7, ?_⟩
                  have hx := HXF.out
                  revert hx G30
                  show Tryz.DS w9 p t (o + 1) ((Go.Jv.take t q3 44).bind fun q => .ok (v, q)) → _ → _
                  cases Go.Jv.take t q3 44 with
                  | bad a e => exact fun h hx => .inl ⟨a, e, hx, h.dead⟩
                  | ok z => exact fun h hx => .inr ⟨had ++ [v], xs ++ [y], z, h.val _, HVV.out, Tryz.Tds_keep (fun g hg hlt => hW9.block g hlt (fun e => by have := hg.1; omega)) hW9.size _ _ HTS.out, hx, by rw [List.length_append]; simp; have := HVL.out; omega⟩
          · have HCC : Hid (C = .ok ((), q2)) := HSZ.out.trans (if_neg fun e => h64 e.2)
            have hv65 : ((vals.length : Int) == 64) = false := beq_eq_false_iff_ne.2 (by have := HVL.out; omega)
            go_upto_region 22 with (first
              | (go_at_call 58; refine kn.mono ?_; clear kn; rintro e4 w4 ⟨rfl, n4, rfl⟩)
              | fail)
            have HSC : Hid (Tryz.DS (w3.drewN n4) p t (o + 1) C) := (by rw [HCC.out]; exact HG1.out.drewN n4)
            have HWC : Hid (Wk p wr (w3.drewN n4)) := HG2.out.drewN n4
            clear hv65 h64 HG1 HG2 HCC HSZ c0 c1 c2 c3 c4
            have kv := hV _ p t (o + 1) C HSC.out (by omega)
            go_upto_region 23 with (first | (go_at_call 57; refine kv.mono ?_; clear kv; rintro e5 w5 ⟨⟨a5, rfl, hv5⟩, G10, G11⟩) | fail)
            generalize Value.slice ad vals.length cap = S at *
            have HVD : Hid (Tryz.Vd _ p t (o + 1) (C.bind fun y => value t d y.2) (.returned (.pointer a5)) w5) := ⟨⟨a5, rfl, hv5⟩, G10, G11⟩
            have HW5 : Hid (Wk p wr w5) := HWC.out.trans G11
            have HL5 : Hid (Tryz.Lw w5 x vals S) := HLR.out.wk HW5.out hpx
            have c4 := HL5.out.vb.c4
            have f4 := HL5.out.vb.f4
            have hx5 := HL5.out.vb.lt
            have hxs : S.ownBlock ≠ some x := fun e => by have := (Jv.row_lt HL5.out.items x e).1; omega
            clear hv5 G10 G11
            go_upto_region 24 with (first
              | (at_builtin; refine wpList_append_lies _ rfl _ _ 44 rfl (x + 1) 25 i1 _ 1 8 Tryz.underlying44 hi1 hy0 hy1 hy2 rfl (by omega) S vals.length vals rfl (Jv.row_alloc HL5.out.items _) ⟨w5.heap.size, 0, none⟩ 1 1 [.pointer a5] rfl rfl (World.news_of_block (cs := #[.pointer a5]) (t := 25) (fr := (0, 0)) (heap_alloc_new w5 _)) (by simp [Value.oneCell']) (by omega) (by unfold maxLen; omega) (by omega) (by simp; omega) (w5.heap.size + 1) (by simp) ?_; intro g2 cap2 w6 hown2 hg2 hat2 hlt2; have c42 : w6.cell? ⟨x, 4, none⟩ = some S := (hg2.cell_far _ (by simp; omega) (Ne.symm hxs)).trans ((((Below.refl w5.heap.size w5).alloc (Nat.le_refl _) _).cell (p := ⟨x, 4, none⟩) hx5).trans c4); have f42 : w6.frozen? ⟨x, 4, none⟩ = false := (hg2.frozen_far _ (by simp; omega) (Ne.symm hxs)).trans ((((Below.refl w5.heap.size w5).alloc (Nat.le_refl _) _).frozen (p := ⟨x, 4, none⟩) hx5).trans f4))
              | fail)
            have HGR : Hid (Tryz.Lw (w6.setCell ⟨x, 4, none⟩ (.slice (some ⟨g2, 0, none⟩) (vals.length + 1) cap2)) x (vals ++ [.pointer a5]) (.slice (some ⟨g2, 0, none⟩) (vals.length + 1) cap2) ∧ Jv.PutC w5 (w6.setCell ⟨x, 4, none⟩ (.slice (some ⟨g2, 0, none⟩) (vals.length + 1) cap2)) x Jv.nilS S Jv.nilS (.slice (some ⟨g2, 0, none⟩) (vals.length + 1) cap2)) := (by
              refine HL5.out.grow hg2 (by rw [List.length_append]; exact hown2) (fun g e => ?_)
              injection e with e
              rcases hat2 with h1 | h1
              · left; rw [h1]; exact congrArg some e
              · right; have e : g2 = g := e; omega)
            generalize w6.setCell ⟨x, 4, none⟩ (.slice (some ⟨g2, 0, none⟩) (vals.length + 1) cap2) = W6 at *
            generalize Value.slice (some ⟨g2, 0, none⟩) (vals.length + 1) cap2 = sv6 at *
            clear c42 f42 hown2 hg2 hat2 hlt2 c4 f4
            have HD6 : Hid (Tryz.DS W6 p t (o + 1) (C.bind fun y => value t d y.2)) := HVD.out.rd.heap (HGR.out.2.block p HVD.out.rd.lt (by omega) (by simp [Jv.nilS, Value.ownBlock]) (fun e => by have := (Jv.row_lt HL5.out.items p e).1; omega))
            have HW6 : Hid (Wk p w W6) := Tryz.wkPut (HWR.out.trans HW5.out) HL5.out hwx HGR.out.2
            have HPUT : Hid (∀ v q, (C.bind fun y => value t d y.2) = .ok (v, q) → had.length ≠ 64 ∧ q ≤ t.size ∧ ∃ y, a5 = some ⟨y, 0, none⟩ ∧ Tryz.Tds W6 (Jv.okL w x sv6) (had ++ [v]) (xs ++ [y])) := fun v q e => (by
              refine ⟨HC64.out _ e, ?_, Tryz.listPut hpw HWR.out.size HWC.out HLR.out HVD.out e HTR.out HGR.out.2⟩
              have h1 := HVD.out.rd
              rw [e] at h1
              exact h1.le)
            have HLW : Hid (Tryz.Lw W6 x (vals ++ [.pointer a5]) sv6) := HGR.out.1
            clear HGR HVD HL5 HW5 hxs hx5 HSC HWC HC64
            generalize (C.bind fun y => value t d y.2) = D at *
            go_upto_region 25 with (first | (go_at_call 56; refine (Tryz.dsBlanks HD6.out).mono ?_; rintro e7 w7 ⟨⟨v7, rfl⟩, G20, G21, -⟩) | fail)
            have HW7 : Hid (Wk p w w7) := HW6.out.trans G21
            have HLW7 : Hid (Tryz.Lw w7 x (vals ++ [.pointer a5]) sv6) := HLW.out.wk G21 hpx
            have hlen7 : j + (vals ++ [Value.pointer a5]).length = 65 := by rw [List.length_append]; simp; omega
            have HG21 : Hid (Wk p W6 w7) := G21
            clear HW6 HLW HD6 G21
            cases D with
            | bad a e =>
              have HXB : Hid (X = .bad a e) := HXR.out
              have HG : Hid (Tryz.DS w7 p t (o + 1) (.bad a e : R (V × Nat))) := G20
              have kn7 := Tryz.dsNext HG.out
              have hb7 : byteJ t (.bad a e : R (V × Nat)) = -1 := rfl
              rw [hb7] at kn7
              clear G20 hb7
              go_wp2_with (first
                | (go_at_call 58; refine kn7.mono ?_; clear kn7; rintro e8 w8 ⟨rfl, n8, rfl⟩)
                | (go_at_call 111; refine (Tryz.dsMust (HG.out.drewN n8) 44).mono ?_; rintro e9 w9 ⟨⟨v9, rfl⟩, G30, G31, -⟩)
                | fail)
              go_roundg j
              case measure => omega
              case rel => exact ⟨(HW7.out.drewN n8).trans G31, _, _, HLW7.out.wk (((Wk.refl p _).drewN n8).trans G31) hpx, hlen7, .inl ⟨a, e, HXB.out, G30.dead⟩⟩
            | ok vq =>
              obtain ⟨v, q0⟩ := vq
              have HXO : Hid (X = listFrom t (value t d) (j + 1) q0 (had ++ [v])) := HXR.out
              obtain ⟨h63, hq0, y, rfl, hTs⟩ := HPUT.out v q0 rfl
              have HXN := list_next t d j q0 (had ++ [v]) (by simp) hq0
              have hq3 := (Jv.blanks_le t q0 hq0).2
              have HG : Hid (Tryz.DS w7 p t (o + 1) (.ok (v, blanks t q0) : R (V × Nat))) := G20
              have HTS : Hid (Tryz.Tds w7 (Jv.okL w x sv6) (had ++ [v]) (xs ++ [y])) := Tryz.Tds_keep (fun g hg hlt => HG21.out.block g hlt (fun e => by have := hg.1; omega)) HG21.out.size _ _ hTs
              have HVV : Hid (vals ++ [Value.pointer (some ⟨y, 0, none⟩)] = Jv.ptrs (xs ++ [y])) := (by show vals ++ [Value.pointer (some ⟨y, 0, none⟩)] = Jv.ptrs (xs ++ [y]); rw [HVX.out]; unfold Jv.ptrs; rw [List.map_append]; rfl)
              clear G20 hTs HPUT HXR
              generalize blanks t q0 = q3 at *
              have HXQ : Hid (X = if q3 < t.size ∧ t.get! q3 = 93 then .ok (.list (had ++ [v]), q3 + 1) else (Go.Jv.take t q3 44).bind fun q => headL t d j q (had ++ [v])) := HXO.out.trans HXN
              clear HXN HXO
              have kn7 := Tryz.dsNext HG.out
              obtain ⟨i, er, c0, c1, c2, c3, fz, -, -, -, hy, -⟩ := HG.out.place
              obtain ⟨e1, rfl⟩ := hy _ rfl
              have e1 : q3 = i := e1
              subst e1
              have f1 := fz 1
              have f2 := fz 2
              clear hy fz e1
              have q9 : (q3 : Int) ≤ 4096 := by omega
              have q8 : (0 : Int) ≤ (q3 : Int) := by omega
              by_cases hl : q3 < t.size ∧ t.get! q3 = 93
              · have hb7 : byteJ t (.ok (v, q3) : R (V × Nat)) = 93 := (if_pos hl.1).trans (by rw [hl.2]; rfl)
                rw [hb7] at kn7
                have HXF : Hid (X = .ok (.list (had ++ [v]), q3 + 1)) := HXQ.out.trans (if_pos hl)
                clear HXQ hb7
                go_wp2_with (first
                  | (go_at_call 58; refine kn7.mono ?_; clear kn7; rintro e8 w8 ⟨rfl, n8, rfl⟩)
                  | fail)
                go_ret
                exact Tryz.listEnd hpw hwx (Wk.setCell (HW7.out.drewN n8) _ _ _) (HLW7.out.wk (p := p) (Wk.setCell ((Wk.refl _ _).drewN n8) _ _ _) hpx) HVV.out (Tryz.Tds_keep (fun g hg hlt => (Wk.setCell ((Wk.refl p w7).drewN n8) _ _ _).block g hlt (fun e => by have := hg.1; omega)) (by simp) _ _ HTS.out) (HG.out.move n8 ((q3 : Int) + 1) (q3 + 1) (by omega) (by omega) v) (by omega) HXF.out 0 _ (by omega)
              · have hb7 : (byteJ t (.ok (v, q3) : R (V × Nat)) == 93) = false := Jv.byteJ_ne _ 93 hl
                have HXF : Hid (X = (Go.Jv.take t q3 44).bind fun q => headL t d j q (had ++ [v])) := HXQ.out.trans (if_neg hl)
                clear HXQ hl
                generalize byteJ t (.ok (v, q3) : R (V × Nat)) = jz at *
                go_wp2_with (first
                  | (go_at_call 58; refine kn7.mono ?_; clear kn7; rintro e8 w8 ⟨rfl, n8, rfl⟩)
                  | (go_at_call 111; refine (Tryz.dsMust (HG.out.drewN n8) 44).mono ?_; rintro e9 w9 ⟨⟨v9, rfl⟩, G30, G31, -⟩)
                  | fail)
                go_roundg j
                case measure => omega
                case rel =>
                  have hW9 : Wk p w7 w9 := ((Wk.refl p _).drewN n8).trans G31
                  refine ⟨HW7.out.trans hW9, _, sv6, HLW7.out.wk hW9 hpx, hlen7, ?_⟩
                  have hx := HXF.out
                  revert hx G30
                  show Tryz.DS w9 p t (o + 1) ((Go.Jv.take t q3 44).bind fun q => .ok (v, q)) → _ → _
                  cases Go.Jv.take t q3 44 with
                  | bad a e => exact fun h hx => .inl ⟨a, e, hx, h.dead⟩
                  | ok z => exact fun h hx => .inr ⟨had ++ [v], xs ++ [y], z, h.val _, HVV.out, Tryz.Tds_keep (fun g hg hlt => hW9.block g hlt (fun e => by have := hg.1; omega)) hW9.size _ _ HTS.out, hx, by rw [List.length_append]; simp; have := HVL.out; omega⟩
        · have hb : byteJ t (.ok ((), q2) : R (Unit × Nat)) = -1 := if_neg hl
          rw [hb] at kn
          clear hb
          have HCC : Hid (C = .ok ((), q2)) := HSZ.out.trans (if_neg fun e => hl e.1)
          go_upto_region 22 with (first
            | (go_at_call 58; refine kn.mono ?_; clear kn; rintro e4 w4 ⟨rfl, n4, rfl⟩)
            | fail)
          have HSC : Hid (Tryz.DS (w3.drewN n4) p t (o + 1) C) := (by rw [HCC.out]; exact HG1.out.drewN n4)
          have HWC : Hid (Wk p wr (w3.drewN n4)) := HG2.out.drewN n4
          clear HG1 HG2 HCC HSZ c0 c1 c2 c3 c4
          have kv := hV _ p t (o + 1) C HSC.out (by omega)
          go_upto_region 23 with (first | (go_at_call 57; refine kv.mono ?_; clear kv; rintro e5 w5 ⟨⟨a5, rfl, hv5⟩, G10, G11⟩) | fail)
          generalize Value.slice ad vals.length cap = S at *
          have HVD : Hid (Tryz.Vd _ p t (o + 1) (C.bind fun y => value t d y.2) (.returned (.pointer a5)) w5) := ⟨⟨a5, rfl, hv5⟩, G10, G11⟩
          have HW5 : Hid (Wk p wr w5) := HWC.out.trans G11
          have HL5 : Hid (Tryz.Lw w5 x vals S) := HLR.out.wk HW5.out hpx
          have c4 := HL5.out.vb.c4
          have f4 := HL5.out.vb.f4
          have hx5 := HL5.out.vb.lt
          have hxs : S.ownBlock ≠ some x := fun e => by have := (Jv.row_lt HL5.out.items x e).1; omega
          clear hv5 G10 G11
          go_upto_region 24 with (first
            | (at_builtin; refine wpList_append_lies _ rfl _ _ 44 rfl (x + 1) 25 i1 _ 1 8 Tryz.underlying44 hi1 hy0 hy1 hy2 rfl (by omega) S vals.length vals rfl (Jv.row_alloc HL5.out.items _) ⟨w5.heap.size, 0, none⟩ 1 1 [.pointer a5] rfl rfl (World.news_of_block (cs := #[.pointer a5]) (t := 25) (fr := (0, 0)) (heap_alloc_new w5 _)) (by simp [Value.oneCell']) (by omega) (by unfold maxLen; omega) (by omega) (by simp; omega) (w5.heap.size + 1) (by simp) ?_; intro g2 cap2 w6 hown2 hg2 hat2 hlt2; have c42 : w6.cell? ⟨x, 4, none⟩ = some S := (hg2.cell_far _ (by simp; omega) (Ne.symm hxs)).trans ((((Below.refl w5.heap.size w5).alloc (Nat.le_refl _) _).cell (p := ⟨x, 4, none⟩) hx5).trans c4); have f42 : w6.frozen? ⟨x, 4, none⟩ = false := (hg2.frozen_far _ (by simp; omega) (Ne.symm hxs)).trans ((((Below.refl w5.heap.size w5).alloc (Nat.le_refl _) _).frozen (p := ⟨x, 4, none⟩) hx5).trans f4))
            | fail)
          have HGR : Hid (Tryz.Lw (w6.setCell ⟨x, 4, none⟩ (.slice (some ⟨g2, 0, none⟩) (vals.length + 1) cap2)) x (vals ++ [.pointer a5]) (.slice (some ⟨g2, 0, none⟩) (vals.length + 1) cap2) ∧ Jv.PutC w5 (w6.setCell ⟨x, 4, none⟩ (.slice (some ⟨g2, 0, none⟩) (vals.length + 1) cap2)) x Jv.nilS S Jv.nilS (.slice (some ⟨g2, 0, none⟩) (vals.length + 1) cap2)) := (by
            refine HL5.out.grow hg2 (by rw [List.length_append]; exact hown2) (fun g e => ?_)
            injection e with e
            rcases hat2 with h1 | h1
            · left; rw [h1]; exact congrArg some e
            · right; have e : g2 = g := e; omega)
          generalize w6.setCell ⟨x, 4, none⟩ (.slice (some ⟨g2, 0, none⟩) (vals.length + 1) cap2) = W6 at *
          generalize Value.slice (some ⟨g2, 0, none⟩) (vals.length + 1) cap2 = sv6 at *
          clear c42 f42 hown2 hg2 hat2 hlt2 c4 f4
          have HD6 : Hid (Tryz.DS W6 p t (o + 1) (C.bind fun y => value t d y.2)) := HVD.out.rd.heap (HGR.out.2.block p HVD.out.rd.lt (by omega) (by simp [Jv.nilS, Value.ownBlock]) (fun e => by have := (Jv.row_lt HL5.out.items p e).1; omega))
          have HW6 : Hid (Wk p w W6) := Tryz.wkPut (HWR.out.trans HW5.out) HL5.out hwx HGR.out.2
          have HPUT : Hid (∀ v q, (C.bind fun y => value t d y.2) = .ok (v, q) → had.length ≠ 64 ∧ q ≤ t.size ∧ ∃ y, a5 = some ⟨y, 0, none⟩ ∧ Tryz.Tds W6 (Jv.okL w x sv6) (had ++ [v]) (xs ++ [y])) := fun v q e => (by
            refine ⟨HC64.out _ e, ?_, Tryz.listPut hpw HWR.out.size HWC.out HLR.out HVD.out e HTR.out HGR.out.2⟩
            have h1 := HVD.out.rd
            rw [e] at h1
            exact h1.le)
          have HLW : Hid (Tryz.Lw W6 x (vals ++ [.pointer a5]) sv6) := HGR.out.1
          clear HGR HVD HL5 HW5 hxs hx5 HSC HWC HC64
          generalize (C.bind fun y => value t d y.2) = D at *
          go_upto_region 25 with (first | (go_at_call 56; refine (Tryz.dsBlanks HD6.out).mono ?_; rintro e7 w7 ⟨⟨v7, rfl⟩, G20, G21, -⟩) | fail)
          have HW7 : Hid (Wk p w w7) := HW6.out.trans G21
          have HLW7 : Hid (Tryz.Lw w7 x (vals ++ [.pointer a5]) sv6) := HLW.out.wk G21 hpx
          have hlen7 : j + (vals ++ [Value.pointer a5]).length = 65 := by rw [List.length_append]; simp; omega
          have HG21 : Hid (Wk p W6 w7) := G21
          clear HW6 HLW HD6 G21
          cases D with
          | bad a e =>
            have HXB : Hid (X = .bad a e) := HXR.out
            have HG : Hid (Tryz.DS w7 p t (o + 1) (.bad a e : R (V × Nat))) := G20
            have kn7 := Tryz.dsNext HG.out
            have hb7 : byteJ t (.bad a e : R (V × Nat)) = -1 := rfl
            rw [hb7] at kn7
            clear G20 hb7
            go_wp2_with (first
              | (go_at_call 58; refine kn7.mono ?_; clear kn7; rintro e8 w8 ⟨rfl, n8, rfl⟩)
              | (go_at_call 111; refine (Tryz.dsMust (HG.out.drewN n8) 44).mono ?_; rintro e9 w9 ⟨⟨v9, rfl⟩, G30, G31, -⟩)
              | fail)
            go_roundg j
            case measure => omega
            case rel => exact ⟨(HW7.out.drewN n8).trans G31, _, _, HLW7.out.wk (((Wk.refl p _).drewN n8).trans G31) hpx, hlen7, .inl ⟨a, e, HXB.out, G30.dead⟩⟩
          | ok vq =>
            obtain ⟨v, q0⟩ := vq
            have HXO : Hid (X = listFrom t (value t d) (j + 1) q0 (had ++ [v])) := HXR.out
            obtain ⟨h63, hq0, y, rfl, hTs⟩ := HPUT.out v q0 rfl
            have HXN := list_next t d j q0 (had ++ [v]) (by simp) hq0
            have hq3 := (Jv.blanks_le t q0 hq0).2
            have HG : Hid (Tryz.DS w7 p t (o + 1) (.ok (v, blanks t q0) : R (V × Nat))) := G20
            have HTS : Hid (Tryz.Tds w7 (Jv.okL w x sv6) (had ++ [v]) (xs ++ [y])) := Tryz.Tds_keep (fun g hg hlt => HG21.out.block g hlt (fun e => by have := hg.1; omega)) HG21.out.size _ _ hTs
            have HVV : Hid (vals ++ [Value.pointer (some ⟨y, 0, none⟩)] = Jv.ptrs (xs ++ [y])) := (by show vals ++ [Value.pointer (some ⟨y, 0, none⟩)] = Jv.ptrs (xs ++ [y]); rw [HVX.out]; unfold Jv.ptrs; rw [List.map_append]; rfl)
            clear G20 hTs HPUT HXR
            generalize blanks t q0 = q3 at *
            have HXQ : Hid (X = if q3 < t.size ∧ t.get! q3 = 93 then .ok (.list (had ++ [v]), q3 + 1) else (Go.Jv.take t q3 44).bind fun q => headL t d j q (had ++ [v])) := HXO.out.trans HXN
            clear HXN HXO
            have kn7 := Tryz.dsNext HG.out
            obtain ⟨i, er, c0, c1, c2, c3, fz, -, -, -, hy, -⟩ := HG.out.place
            obtain ⟨e1, rfl⟩ := hy _ rfl
            have e1 : q3 = i := e1
            subst e1
            have f1 := fz 1
            have f2 := fz 2
            clear hy fz e1
            have q9 : (q3 : Int) ≤ 4096 := by omega
            have q8 : (0 : Int) ≤ (q3 : Int) := by omega
            by_cases hl : q3 < t.size ∧ t.get! q3 = 93
            · have hb7 : byteJ t (.ok (v, q3) : R (V × Nat)) = 93 := (if_pos hl.1).trans (by rw [hl.2]; rfl)
              rw [hb7] at kn7
              have HXF : Hid (X = .ok (.list (had ++ [v]), q3 + 1)) := HXQ.out.trans (if_pos hl)
              clear HXQ hb7
              go_wp2_with (first
                | (go_at_call 58; refine kn7.mono ?_; clear kn7; rintro e8 w8 ⟨rfl, n8, rfl⟩)
                | fail)
              go_ret
              exact Tryz.listEnd hpw hwx (Wk.setCell (HW7.out.drewN n8) _ _ _) (HLW7.out.wk (p := p) (Wk.setCell ((Wk.refl _ _).drewN n8) _ _ _) hpx) HVV.out (Tryz.Tds_keep (fun g hg hlt => (Wk.setCell ((Wk.refl p w7).drewN n8) _ _ _).block g hlt (fun e => by have := hg.1; omega)) (by simp) _ _ HTS.out) (HG.out.move n8 ((q3 : Int) + 1) (q3 + 1) (by omega) (by omega) v) (by omega) HXF.out 0 _ (by omega)
            · have hb7 : (byteJ t (.ok (v, q3) : R (V × Nat)) == 93) = false := Jv.byteJ_ne _ 93 hl
              have HXF : Hid (X = (Go.Jv.take t q3 44).bind fun q => headL t d j q (had ++ [v])) := HXQ.out.trans (if_neg hl)
              clear HXQ hl
              generalize byteJ t (.ok (v, q3) : R (V × Nat)) = jz at *
              go_wp2_with (first
                | (go_at_call 58; refine kn7.mono ?_; clear kn7; rintro e8 w8 ⟨rfl, n8, rfl⟩)
                | (go_at_call 111; refine (Tryz.dsMust (HG.out.drewN n8) 44).mono ?_; rintro e9 w9 ⟨⟨v9, rfl⟩, G30, G31, -⟩)
                | fail)
              go_roundg j
              case measure => omega
              case rel =>
                have hW9 : Wk p w7 w9 := ((Wk.refl p _).drewN n8).trans G31
                refine ⟨HW7.out.trans hW9, _, sv6, HLW7.out.wk hW9 hpx, hlen7, ?_⟩
                have hx := HXF.out
                revert hx G30
                show Tryz.DS w9 p t (o + 1) ((Go.Jv.take t q3 44).bind fun q => .ok (v, q)) → _ → _
                cases Go.Jv.take t q3 44 with
                | bad a e => exact fun h hx => .inl ⟨a, e, hx, h.dead⟩
                | ok z => exact fun h hx => .inr ⟨had ++ [v], xs ++ [y], z, h.val _, HVV.out, Tryz.Tds_keep (fun g hg hlt => hW9.block g hlt (fun e => by have := hg.1; omega)) hW9.size _ _ HTS.out, hx, by rw [List.length_append]; simp; have := HVL.out; omega⟩
end Go.Proofs
