/-
  Laid together by packg.py of TmU TmV.
-/
import Derived.Test.YtcakkkafanpjaaaGreatDoorQaQ
namespace Go.Jv
open Go.RowKit
/-- The rest of an object, from the place of its next member on. -/
def headO (t : ByteArray) (d n q : Nat) (ks : List ByteArray) (had : List V) : R (V × Nat) := (sizeAt t q had.length).bind fun y => (Go.Jv.memQ t d ks y.2).bind fun x => objFrom t (value t d) n x.2 (insertAt ks (place ks x.1.1) x.1.1) (insertAt had (place ks x.1.1) x.1.2)
theorem memQ_end {t : ByteArray} {d q : Nat} {ks : List ByteArray} (h : ¬ q < t.size) : memQ t d ks q = .bad q eSyntax := by
  unfold memQ key
  rw [Go.Proofs.Jv.next_end h]
  rfl
theorem memQ_bind {α : Type} (t : ByteArray) (d q : Nat) (ks : List ByteArray) (f : (ByteArray × V) × Nat → R α) : (memQ t d ks q).bind f = (key t q ks).bind fun k => (value t d k.2).bind fun x => f ((k.1, x.1), x.2) := by
  unfold memQ
  cases key t q ks with
  | bad a e => rfl
  | ok k =>
    rw [Rbind_ok, Rbind_ok]
    cases value t d k.2 <;> rfl
theorem memQ_new {t : ByteArray} {d q q' : Nat} {ks : List ByteArray} {k : ByteArray} {v : V} (h : memQ t d ks q = .ok ((k, v), q')) : ks[place ks k]? ≠ some k := by
  intro hk
  unfold memQ at h
  rw [key_doc] at h
  cases hq : Go.Jv.quoted t q with
  | bad a e => rw [hq] at h; cases h
  | ok z =>
    rw [hq, Rbind_ok] at h
    by_cases h2 : ks[place ks z.1]? = some z.1
    · rw [if_pos h2] at h; cases h
    · rw [if_neg h2] at h
      cases ht : Go.Jv.take t (blanks t z.2) 58 with
      | bad a e => rw [ht] at h; cases h
      | ok q2 =>
        rw [ht, Rbind_ok, Rbind_ok] at h
        cases hv : value t d (blanks t q2) with
        | bad a e => rw [hv] at h; cases h
        | ok vv =>
          rw [hv, Rbind_ok] at h
          injection h with h
          injection h with h3 h4
          injection h3 with h3 h5
          exact h2 (by rw [h3]; exact hk)
theorem headO_is (t : ByteArray) (d n q : Nat) (ks : List ByteArray) (had : List V) : headO t d n q ks had = (next t (blanks t q)).bind fun _ => if had.length = 64 then .bad (blanks t q) eSize else (key t (blanks t q) ks).bind fun k => (value t d k.2).bind fun x => objFrom t (value t d) n x.2 (insertAt ks (place ks k.1) k.1) (insertAt had (place ks k.1) x.1) := by
  unfold headO sizeAt
  by_cases h : blanks t q < t.size
  · rw [Go.Proofs.Jv.next_at h, Rbind_ok]
    by_cases h2 : had.length = 64
    · rw [if_pos ⟨h, h2⟩, if_pos h2]; rfl
    · rw [if_neg (fun e => h2 e.2), if_neg h2, Rbind_ok, memQ_bind]
  · rw [Go.Proofs.Jv.next_end h, if_neg (fun e => h e.1), Rbind_ok, Rbind_bad]
    show (memQ t d ks (blanks t q)).bind _ = _
    rw [memQ_end h]
    rfl
theorem obj_head (t : ByteArray) (d n p : Nat) (ks : List ByteArray) (had : List V) (hp : p ≤ t.size) : objFrom t (value t d) (n + 1) p ks had = (next t (blanks t p)).bind fun c => if c = 125 then .ok (.obj ks had, blanks t p + 1) else if had.length = 0 then headO t d n (blanks t p) ks had else (Go.Jv.take t (blanks t p) 44).bind fun q => headO t d n q ks had := by
  have e : objFrom t (value t d) (n + 1) p ks had = (more t p 125 had.length).bind fun m => if m.1 = false then .ok (.obj ks had, m.2) else (key t m.2 ks).bind fun k => (value t d k.2).bind fun x => objFrom t (value t d) n x.2 (insertAt ks (place ks k.1) k.1) (insertAt had (place ks k.1) x.1) := rfl
  rw [e]
  unfold more
  by_cases hl : blanks t p < t.size
  · rw [Go.Proofs.Jv.next_at hl, Rbind_ok, Rbind_ok]
    by_cases h1 : t.get! (blanks t p) = 125
    · rw [if_pos h1, if_pos h1]; rfl
    · rw [if_neg h1, if_neg h1]
      by_cases h2 : had.length = 0
      · rw [if_pos h2, if_pos h2, headO_is, blanks_twice t p hp, Go.Proofs.Jv.next_at hl, Rbind_ok, Rbind_ok, if_neg (show ¬ had.length = 64 by omega)]
        rfl
      · rw [if_neg h2, if_neg h2]
        cases Go.Jv.take t (blanks t p) 44 with
        | bad a e => rfl
        | ok q =>
          rw [Rbind_ok, Rbind_ok, headO_is]
          cases next t (blanks t q) with
          | bad a e => rfl
          | ok c =>
            rw [Rbind_ok, Rbind_ok]
            split
            · rfl
            · rfl
  · rw [Go.Proofs.Jv.next_end hl]; rfl
/-- Behind the first bracket. -/
theorem obj_first (t : ByteArray) (d q : Nat) (hq : q ≤ t.size) : objFrom t (value t d) 66 q [] [] = if blanks t q < t.size ∧ t.get! (blanks t q) = 125 then .ok (.obj [] [], blanks t q + 1) else headO t d 65 (blanks t q) [] [] := by
  rw [obj_head t d 65 q [] [] hq]
  by_cases hl : blanks t q < t.size
  · rw [Go.Proofs.Jv.next_at hl, Rbind_ok]
    by_cases h1 : t.get! (blanks t q) = 125
    · rw [if_pos h1, if_pos ⟨hl, h1⟩]
    · rw [if_neg h1, if_neg (show ¬ (blanks t q < t.size ∧ t.get! (blanks t q) = 125) from fun e => h1 e.2)]; rfl
  · rw [if_neg (show ¬ (blanks t q < t.size ∧ t.get! (blanks t q) = 125) from fun e => hl e.1), Go.Proofs.Jv.next_end hl, headO_is, blanks_twice t q hq, Go.Proofs.Jv.next_end hl]; rfl
/-- Behind an item. -/
theorem obj_next (t : ByteArray) (d n q : Nat) (ks : List ByteArray) (had : List V) (hh : had.length ≠ 0) (hq : q ≤ t.size) : objFrom t (value t d) (n + 1) q ks had = if blanks t q < t.size ∧ t.get! (blanks t q) = 125 then .ok (.obj ks had, blanks t q + 1) else (Go.Jv.take t (blanks t q) 44).bind fun q => headO t d n q ks had := by
  rw [obj_head t d n q ks had hq]
  by_cases hl : blanks t q < t.size
  · rw [Go.Proofs.Jv.next_at hl, Rbind_ok]
    by_cases h1 : t.get! (blanks t q) = 125
    · rw [if_pos h1, if_pos ⟨hl, h1⟩]
    · rw [if_neg h1, if_neg (show ¬ (blanks t q < t.size ∧ t.get! (blanks t q) = 125) from fun e => h1 e.2), if_neg hh]
  · rw [if_neg (show ¬ (blanks t q < t.size ∧ t.get! (blanks t q) = 125) from fun e => hl e.1), Go.Proofs.Jv.next_end hl]
    rw [show Go.Jv.take t (blanks t q) 44 = .bad (blanks t q) eSyntax from if_neg fun e => hl e.1]; rfl
theorem sizeAt_mem {t : ByteArray} {d q m : Nat} {ks : List ByteArray} {x : (ByteArray × V) × Nat} (h : ((sizeAt t q m).bind fun y => memQ t d ks y.2) = .ok x) : m ≠ 64 ∧ ks[place ks x.1.1]? ≠ some x.1.1 := by
  obtain ⟨⟨k, v⟩, q'⟩ := x
  unfold sizeAt at h
  by_cases hl : blanks t q < t.size
  · by_cases hm : m = 64
    · rw [if_pos ⟨hl, hm⟩] at h; cases h
    · rw [if_neg (fun e => hm e.2), Rbind_ok] at h
      exact ⟨hm, memQ_new h⟩
  · rw [if_neg (fun e => hl e.1), Rbind_ok] at h
    have h2 : memQ t d ks (blanks t q) = .bad (blanks t q) eSyntax := memQ_end hl
    rw [h2] at h; cases h
end Go.Jv
namespace Go.Proofs
open Go.RowKit Go.Jv
theorem Jv.Vb.set0 {w : World} {x : Nat} {k : Int} {tr : Bool} {n : Int} {s : ByteArray} {ks is : Value} (h : Jv.Vb w x k tr n s ks is) (u : Int) : Jv.Vb (w.setCell ⟨x, 0, none⟩ (.int .i64 u)) x u tr n s ks is := by
  have hs : ∀ y, (w.setCell ⟨x, 0, none⟩ (.int .i64 u)).frozen? y = w.frozen? y := fun y => by simp
  refine ⟨World.cell?_setCell_same' _ _ _ (by rw [h.c0]; rfl), ?_, ?_, ?_, ?_, ?_, (hs _).trans h.f4, (hs _).trans h.f5, by simpa using h.lt, by obtain ⟨cs, T, h1⟩ := h.un; exact ⟨_, T, heap_setCell_same w x 0 cs T _ h1⟩⟩
  · rw [World.cell?_setCell_other _ _ _ _ (by simp)]; exact h.c1
  · rw [World.cell?_setCell_other _ _ _ _ (by simp)]; exact h.c2
  · rw [World.cell?_setCell_other _ _ _ _ (by simp)]; exact h.c3
  · rw [World.cell?_setCell_other _ _ _ _ (by simp)]; exact h.c4
  · rw [World.cell?_setCell_other _ _ _ _ (by simp)]; exact h.c5
theorem Jv.ptrs_insert (xs : List Nat) (i y : Nat) : insertAt (Jv.ptrs xs) i (.pointer (some ⟨y, 0, none⟩)) = Jv.ptrs (insertAt xs i y) := by
  unfold insertAt Jv.ptrs
  rw [List.map_append, List.map_cons, List.map_take, List.map_drop]
theorem Tryz.Tds_insert {w : World} {ok : Nat → Prop} {v : V} {y : Nat} (hv : Tryz.Td w ok v y) : ∀ (i : Nat) (l : List V) (xs : List Nat), i ≤ l.length → Tryz.Tds w ok l xs → Tryz.Tds w ok (insertAt l i v) (insertAt xs i y)
  | 0, l, xs, _, h => ⟨y, xs, rfl, hv, h⟩
  | i + 1, [], xs, h, _ => by simp at h
  | i + 1, u :: l, xs, hi, h => by
    unfold Tryz.Tds at h
    obtain ⟨x, r, rfl, h2, h3⟩ := h
    exact ⟨x, insertAt r i y, rfl, h2, Tryz.Tds_insert hv i l r (by simp at hi; omega) h3⟩
/-- Where the members of an object in the making may lie. -/
def Jv.okO (w0 : World) (x : Nat) (kv sv : Value) (g : Nat) : Prop := w0.heap.size ≤ g ∧ g ≠ x ∧ kv.ownBlock ≠ some g ∧ sv.ownBlock ≠ some g
theorem Tryz.wkPutO {w w5 W6 : World} {p x : Nat} {ks : List ByteArray} {vals : List Value} {kv sv kv6 sv6 : Value} (h : Wk p w w5) (lw : Tryz.Ow w5 x ks vals kv sv) (hx : w.heap.size ≤ x) (hC : Jv.PutP p w5 W6 x kv sv kv6 sv6) : Wk p w W6 :=
  ⟨hC.os.trans h.os, hC.tape.trans h.tape, hC.output.trans h.output, Nat.le_trans h.size hC.size, fun k hk hkp => (hC.block k (Nat.lt_of_lt_of_le hk h.size) hkp (by omega) (fun e => by have := (Jv.row_lt lw.keys k e).1; omega) (fun e => by have := (Jv.row_lt lw.items k e).1; omega)).trans (h.block k hk hkp)⟩
theorem Tryz.memPut {w0 wr wC w5 : World} {p x : Nat} {ks ks' : List ByteArray} {vals vals' : List Value} {kv sv kv' sv' : Value} {had : List V} {xs : List Nat} {k : ByteArray} {v : V} (hp : p < w0.heap.size) (hz : w0.heap.size ≤ wr.heap.size) (hxz : x < wC.heap.size)
    (wk : Wk p wr wC) (_lw : Tryz.Ow wC x ks vals kv sv) (hvx : vals = Jv.ptrs xs) (hT : Tryz.Tds wr (Jv.okO w0 x kv sv) had xs) (hC : Jv.PutP p wC w5 x kv sv kv' sv') (hpl : place ks k ≤ had.length)
    (hM : ks' = insertAt ks (place ks k) k ∧ ∃ y, vals' = insertAt vals (place ks k) (.pointer (some ⟨y, 0, none⟩)) ∧ Tryz.Td w5 (fun g => wC.heap.size ≤ g ∧ kv'.ownBlock ≠ some g ∧ sv'.ownBlock ≠ some g) v y) :
    ks' = insertAt ks (place ks k) k ∧ ∃ xs', vals' = Jv.ptrs xs' ∧ Tryz.Tds w5 (Jv.okO w0 x kv' sv') (insertAt had (place ks k) v) xs' := by
  obtain ⟨h1, y, h2, h3⟩ := hM
  refine ⟨h1, insertAt xs (place ks k) y, by rw [h2, hvx, Jv.ptrs_insert], ?_⟩
  have z1 := wk.size
  refine Tryz.Tds_insert (Tryz.Td_mono (fun g hg _ => ⟨by omega, by omega, hg.2.1, hg.2.2⟩) v y h3) _ _ _ hpl ?_
  have h4 : Tryz.Tds wC (Jv.okO w0 x kv sv) had xs := Tryz.Tds_keep (fun g hg hlt => wk.block g hlt (fun e => by have := hg.1; omega)) wk.size had xs hT
  have h5 : Tryz.Tds wC (fun g => Jv.okO w0 x kv sv g ∧ kv'.ownBlock ≠ some g ∧ sv'.ownBlock ≠ some g) had xs := Tryz.Tds_mono (fun g hg hlt => ⟨hg, fun e => by rcases hC.kn g e with e | e; exact hg.2.2.1 e; omega, fun e => by rcases hC.sn g e with e | e; exact hg.2.2.2 e; omega⟩) _ _ h4
  exact Tryz.Tds_mono (fun g hg _ => ⟨hg.1.1, hg.1.2.1, hg.2.1, hg.2.2⟩) _ _ (Tryz.Tds_keep (fun g hg hlt => hC.block g hlt (fun e => by have := hg.1.1; omega) hg.1.2.1 hg.1.2.2.1 hg.1.2.2.2) hC.size _ _ h5)
theorem Tryz.objEnd {w0 wE : World} {p x o q : Nat} {t : ByteArray} {ks : List ByteArray} {vals : List Value} {kv sv : Value} {X : R (V × Nat)} {α : Type} {z : α} {had : List V} {xs : List Nat} (hp : p < w0.heap.size) (hx : w0.heap.size ≤ x) (wk : Wk p w0 wE) (lw : Tryz.Ow wE x ks vals kv sv) (hvx : vals = Jv.ptrs xs) (hln : vals.length = ks.length) (hT : Tryz.Tds wE (Jv.okO w0 x kv sv) had xs)
    (hR : Tryz.DS wE p t (o + 1) (.ok (z, q) : R (α × Nat))) (ho : o ≤ 10) (hX : X = .ok (.obj ks had, q)) (n : Nat) (zz : Int) (hzz : zz = (o : Int)) : Tryz.Vd w0 p t o X (.returned (.pointer (some ⟨x, 0, none⟩))) ((wE.drewN n).setCell ⟨p, 2, none⟩ (.int .i64 zz)) := by
  subst hX hvx
  have hW : Wk p wE ((wE.drewN n).setCell ⟨p, 2, none⟩ (.int .i64 zz)) := Wk.setCell ((Wk.refl p wE).drewN n) _ _ _
  have lw2 := lw.wk hW (by omega)
  refine ⟨⟨_, rfl, fun v q' e => ?_⟩, (hR.brackets n zz o hzz ho).val _, wk.trans hW⟩
  injection e with e
  injection e with e1 e2
  subst e1
  refine ⟨x, rfl, ?_⟩
  unfold Tryz.Td
  refine ⟨hx, kv, sv, xs, lw2.vb, ⟨Jv.row_move (by have h1 := lw2.keys; rw [← List.length_map (f := Value.string)] at h1; exact h1) fun g e => ⟨Nat.zero_le _, rfl⟩, fun g e => by have := (Jv.row_lt lw2.keys g e).1; omega⟩, ⟨Jv.row_move lw2.items fun g e => ⟨Nat.zero_le _, rfl⟩, fun g e => by have := (Jv.row_lt lw2.items g e).1; omega⟩, ?_, by rw [← hln]; simp [Jv.ptrs]⟩
  exact Tryz.Tds_mono (fun g hg _ => hg.1) _ _ (Tryz.Tds_keep (fun g hg hlt => hW.block g hlt (fun e => by have := hg.1; omega)) hW.size _ _ hT)
/-- Between two members. -/
structure Tryz.Or (w0 : World) (p x o d : Nat) (t : ByteArray) (X : R (V × Nat)) (k : Nat) (wr : World) : Prop where
  wk : Wk p w0 wr
  st : (∃ a e, X = .bad a e ∧ Tryz.DS wr p t (o + 1) (.bad a e : R (Unit × Nat))) ∨
     (∃ ks had vals xs q kv sv, Tryz.Ow wr x ks vals kv sv ∧ vals.length = ks.length ∧ Rising ks ∧ k + had.length = 65 ∧ Tryz.DS wr p t (o + 1) (.ok ((), q) : R (Unit × Nat)) ∧ vals = Jv.ptrs xs ∧ Tryz.Tds wr (Jv.okO w0 x kv sv) had xs ∧ X = headO t d k q ks had ∧ had.length ≤ 64)
end Go.Proofs
namespace Go.Proofs
open Go.RowKit Go.Jv
set_option maxRecDepth 20000 in
set_option maxHeartbeats 4000000 in
theorem Tryz.dsObject {d : Nat} (hV : Tryz.ValD d) {w : World} {p : Nat} {t : ByteArray} {o q : Nat} (h : Tryz.DS w p t o (.ok ((), q) : R (Unit × Nat))) (ho : o + 1 + d = 10) (hq : q < t.size) :
    Calls Tryz.prog 83 #[.pointer (some ⟨p, 0, none⟩), .bool true] w fun e w' => Tryz.Vd w p t o (objFrom t (value t d) 66 (q + 1) [] []) e w' := by
  have hp := h.lt
  have HO : Hid (o + 1 + d = 10) := ho
  have HX : Hid (objFrom t (value t d) 66 (q + 1) [] [] = _) := obj_first t d (q + 1) (by omega)
  obtain ⟨X, hX⟩ : ∃ X, objFrom t (value t d) 66 (q + 1) [] [] = X := ⟨_, rfl⟩
  rw [hX] at HX ⊢
  clear hX
  have HH : Hid (Tryz.DS w p t o (.ok ((), q) : R (Unit × Nat))) := h
  clear h
  go_enter Tryz.func83, Tryz.ntmps83
  go_upto_region 6 with (fail)
  have HD1 : Hid (Tryz.DS (w.alloc (.cells #[.int .i64 5, .bool false, .int .i64 0, .string emp, Jv.nilS, Jv.nilS] 87)) p t o (.ok ((), q) : R (Unit × Nat))) := HH.out.heap (Below.heap_alloc _ _ _ hp)
  have HV1 : Hid (Jv.Vb (w.alloc (.cells #[.int .i64 5, .bool false, .int .i64 0, .string emp, Jv.nilS, Jv.nilS] 87)) w.heap.size 5 false 0 emp Jv.nilS Jv.nilS) := Jv.Vb.new _ _ _ _ _ _ _ _
  have HK1 : Hid (Wk p w (w.alloc (.cells #[.int .i64 5, .bool false, .int .i64 0, .string emp, Jv.nilS, Jv.nilS] 87))) := (Wk.refl p w).below ((Below.refl w.heap.size _).alloc (Nat.le_refl _) _) (Nat.le_refl _)
  unfold Jv.nilS emp at HD1 HV1 HK1
  generalize w.alloc _ = w1 at *
  obtain ⟨x, hx⟩ : ∃ x, w.heap.size = x := ⟨_, rfl⟩
  rw [hx] at HV1 hp ⊢
  have HPX : Hid (w.heap.size = x ∧ p < x) := ⟨hx, hp⟩
  clear hx HH
  obtain ⟨i, er, c0, c1, c2, c3, fz, hi, hs, -, hy, -⟩ := HD1.out.place
  obtain ⟨e1, rfl⟩ := hy _ rfl
  have e1 : q = i := e1
  subst e1
  have f1 := fz 1
  have f2 := fz 2
  have q1 : (0 : Int) ≤ (q : Int) := by omega
  have q2 : (q : Int) < 4096 := by omega
  have q3 : (o : Int) < 10 := by omega
  have q4 : (0 : Int) ≤ (o : Int) := by omega
  clear hy fz e1
  go_upto_region 11 with (fail)
  have HD2 : Hid (Tryz.DS ((w1.setCell ⟨p, 1, none⟩ (.int .i64 ((q : Int) + 1))).setCell ⟨p, 2, none⟩ (.int .i64 ((o : Int) + 1))) p t (o + 1) (.ok ((), q + 1) : R (Unit × Nat))) := (HD1.out.move0 ((q : Int) + 1) (q + 1) (by omega) (by omega) ()).brackets 0 ((o : Int) + 1) (o + 1) (by omega) (by omega)
  have HK2 : Hid (Wk p w ((w1.setCell ⟨p, 1, none⟩ (.int .i64 ((q : Int) + 1))).setCell ⟨p, 2, none⟩ (.int .i64 ((o : Int) + 1)))) := Wk.setCell (Wk.setCell HK1.out _ _ _) _ _ _
  have hxp : x ≠ p := by omega
  have HV2 : Hid (Jv.Vb ((w1.setCell ⟨p, 1, none⟩ (.int .i64 ((q : Int) + 1))).setCell ⟨p, 2, none⟩ (.int .i64 ((o : Int) + 1))) x 5 false 0 emp Jv.nilS Jv.nilS) := HV1.out.keep ((Below.heap_setCell _ ⟨p, 2, none⟩ _ x hxp).trans (Below.heap_setCell _ ⟨p, 1, none⟩ _ x hxp)) (by simp)
  generalize (w1.setCell ⟨p, 1, none⟩ (.int .i64 ((q : Int) + 1))).setCell ⟨p, 2, none⟩ (.int .i64 ((o : Int) + 1)) = w2 at *
  clear HD1 HK1 HV1 c0 c1 c2 c3 f1 f2
  go_upto_region 12 with (first | (go_at_call 56; refine (Tryz.dsBlanks HD2.out).mono ?_; rintro e3 w3 ⟨⟨v3, rfl⟩, G1, G2, -⟩) | fail)
  have G1' : Tryz.DS w3 p t (o + 1) (.ok ((), blanks t (q + 1)) : R (Unit × Nat)) := G1
  clear G1
  have G1 := G1'
  clear G1'
  have HW3 : Hid (Wk p w w3) := HK2.out.trans G2
  have HL3 : Hid (Tryz.Ow w3 x [] [] Jv.nilS Jv.nilS) := ⟨HV2.out.keep (G2.block x HV2.out.lt hxp) G2.size, ⟨rfl, .inl ⟨rfl, rfl⟩⟩, ⟨rfl, .inl ⟨rfl, rfl⟩⟩⟩
  have hq2 := (Jv.blanks_le t (q + 1) (by omega)).2
  clear HD2 HK2 HV2 G2 q1 q2
  generalize blanks t (q + 1) = q2 at *
  have kn := Tryz.dsNext G1
  obtain ⟨i, er, c0, c1, c2, c3, fz, -, -, -, hy, -⟩ := G1.place
  obtain ⟨e1, rfl⟩ := hy _ rfl
  have e1 : q2 = i := e1
  subst e1
  have f1 := fz 1
  have f2 := fz 2
  clear hy fz e1
  have q1 : (0 : Int) ≤ (q2 : Int) := by omega
  have q3 : (q2 : Int) ≤ 4096 := by omega
  have HG1 : Hid (Tryz.DS w3 p t (o + 1) (.ok ((), q2) : R (Unit × Nat))) := G1
  clear G1
  by_cases hl : q2 < t.size ∧ t.get! q2 = 125
  · have hb : byteJ t (.ok ((), q2) : R (Unit × Nat)) = 125 := (if_pos hl.1).trans (by rw [hl.2]; rfl)
    rw [hb] at kn
    have HXX : Hid (X = .ok (.obj [] [], q2 + 1)) := HX.out.trans (if_pos hl)
    clear HX hb
    go_wp2_with (first | (go_at_call 58; refine kn.mono ?_; clear kn; rintro e4 w4 ⟨rfl, n4, rfl⟩) | fail)
    go_ret
    exact Tryz.objEnd (ks := []) (vals := []) (kv := Jv.nilS) (sv := Jv.nilS) (had := []) (xs := []) (z := V.null) (by have := HPX.out; omega) (by have := HPX.out; omega) (Wk.setCell (HW3.out.drewN n4) _ _ _) (HL3.out.wk (p := p) (Wk.setCell ((Wk.refl _ _).drewN n4) _ _ _) (by omega)) rfl rfl rfl (HG1.out.move n4 ((q2 : Int) + 1) (q2 + 1) (by omega) (by omega) _) (by omega) HXX.out 0 _ (by omega)
  · have HXX : Hid (X = headO t d 65 q2 [] []) := HX.out.trans (if_neg hl)
    have hb : (byteJ t (.ok ((), q2) : R (Unit × Nat)) == 125) = false := Jv.byteJ_ne _ 125 hl
    clear HX hl
    generalize byteJ t (.ok ((), q2) : R (Unit × Nat)) = jz at *
    go_wp2_with (first | (go_at_call 58; refine kn.mono ?_; clear kn; rintro e4 w4 ⟨rfl, n4, rfl⟩) | fail)
    go_loopg [] 65 (fun k wr => Hid (Tryz.Or w p x o d t X k wr))
    case atStart => exact ⟨HW3.out.drewN n4, .inr ⟨[], [], [], [], q2, Jv.nilS, Jv.nilS, ⟨HL3.out.vb.keep rfl (Nat.le_refl _), ⟨rfl, .inl ⟨rfl, rfl⟩⟩, ⟨rfl, .inl ⟨rfl, rfl⟩⟩⟩, rfl, List.Pairwise.nil, rfl, HG1.out.drewN n4, rfl, rfl, HXX.out, by simp⟩⟩
    case round =>
      obtain ⟨hwk, hst⟩ := hrel.out
      clear hrel c0 c1 c2 c3 f1 f2 hb
      rcases hst with ⟨a, e, hX, hS⟩ | ⟨ks, had, vals, xs, q, kv, sv, hlw, hlk, hrise, hlen, hS, hvx, hT, hX, hh⟩
      · obtain ⟨i, er, c0, c1, c2, c3, fz, -, -, -, -, hbd⟩ := hS.place
        obtain ⟨e1, e2⟩ := hbd a e rfl
        have q1 : ((er : Int) == 0) = false := beq_eq_false_iff_ne.2 (by omega)
        have f2 := fz 2
        have HE : Hid (Tryz.DS wr p t (o + 1) (.bad a e : R (Unit × Nat))) := hS
        clear hbd e1 e2 fz hS
        go_wp2
        go_ret
        exact Tryz.listDead hwk HE.out (by omega) hX 0 _ (by omega) _
      · obtain ⟨j, hj⟩ : ∃ j, gk = j + 1 := ⟨gk - 1, by omega⟩
        have HVL : Hid (vals.length = had.length) := (by show vals.length = had.length; rw [hvx]; simp [Jv.ptrs, Tryz.Tds_len _ _ hT])
        have HLK : Hid (vals.length = ks.length ∧ Rising ks) := ⟨hlk, hrise⟩
        have hpx := HPX.out.2
        have hwx : w.heap.size ≤ x := Nat.le_of_eq HPX.out.1
        have hpw : p < w.heap.size := by have := HPX.out; omega
        obtain ⟨ad, cap, rfl⟩ := Jv.row_form2 hlw.items
        have HWR : Hid (Wk p w wr) := hwk
        have HLR : Hid (Tryz.Ow wr x ks vals kv (.slice ad vals.length cap)) := hlw
        have HTR : Hid (Tryz.Tds wr (Jv.okO w x kv (.slice ad vals.length cap)) had xs) := hT
        have HVX : Hid (vals = Jv.ptrs xs) := hvx
        have HSR : Hid (Tryz.DS wr p t (o + 1) (.ok ((), q) : R (Unit × Nat))) := hS
        have HXR : Hid (X = ((sizeAt t q had.length).bind fun y => memQ t d ks y.2).bind fun x => objFrom t (value t d) (j + 1) x.2 (insertAt ks (place ks x.1.1) x.1.1) (insertAt had (place ks x.1.1) x.1.2)) := (by rw [hX, hj]; unfold headO; cases sizeAt t q had.length <;> rfl)
        have HC64 : Hid (∀ x, ((sizeAt t q had.length).bind fun y => memQ t d ks y.2) = .ok x → had.length ≠ 64 ∧ ks[place ks x.1.1]? ≠ some x.1.1) := fun x e => sizeAt_mem e
        have HSZ : Hid (sizeAt t q had.length = if blanks t q < t.size ∧ had.length = 64 then .bad (blanks t q) eSize else .ok ((), blanks t q)) := rfl
        obtain ⟨i, er, c0, c1, c2, c3, fz, -, -, -, hy, -⟩ := hS.place
        obtain ⟨e1, rfl⟩ := hy _ rfl
        clear hy fz e1 c0 c1 c2 hwk hlw hT hvx hX hlk hrise
        have hqs := hS.le
        clear hS
        go_upto_region 18 with (first | (go_at_call 56; refine (Tryz.dsBlanks HSR.out).mono ?_; rintro e3 w3 ⟨⟨v3, rfl⟩, G1, G2, -⟩) | fail)
        have HG1 : Hid (Tryz.DS w3 p t (o + 1) (.ok ((), blanks t q) : R (Unit × Nat))) := G1
        have HG2 : Hid (Wk p wr w3) := G2
        have hq2 := (Jv.blanks_le t q hqs).2
        clear G1 G2
        generalize sizeAt t q had.length = C at *
        generalize blanks t q = q2 at *
        have kn := Tryz.dsNext HG1.out
        obtain ⟨i, er, c0, c1, c2, c3, fz, -, -, -, hy, -⟩ := HG1.out.place
        obtain ⟨e1, rfl⟩ := hy _ rfl
        have e1 : q2 = i := e1
        subst e1
        clear hy fz e1
        have c4 := (HLR.out.wk HG2.out hpx).vb.c4
        by_cases hl : q2 < t.size
        · have hb : byteJ t (.ok ((), q2) : R (Unit × Nat)) = (((t.get! q2).toNat : Nat) : Int) := if_pos hl
          rw [hb] at kn
          have hb0 : (0 : Int) ≤ (((t.get! q2).toNat : Nat) : Int) := by omega
          generalize (((t.get! q2).toNat : Nat) : Int) = jz at *
          clear hb
          by_cases h64 : had.length = 64
          · have HCC : Hid (C = .bad q2 eSize) := HSZ.out.trans (if_pos ⟨hl, h64⟩)
            have hv64 : vals.length = 64 := by have := HVL.out; omega
            have hv65 : ((vals.length : Int) == 64) = true := by rw [hv64]; rfl
            clear hv64
            go_upto_region 21 with (first
              | (go_at_call 58; refine kn.mono ?_; clear kn; rintro e4 w4 ⟨rfl, n4, rfl⟩)
              | (go_at_call 59; refine (Tryz.dsFail Unit (HG1.out.drewN n4) q2 22 (by decide)).mono ?_; rintro e5 wC ⟨⟨v5, rfl⟩, G3, G4, -⟩)
              | fail)
            have HSC : Hid (Tryz.DS wC p t (o + 1) C) := (by rw [HCC.out]; exact G3.dead)
            have HWC : Hid (Wk p wr wC) := (HG2.out.drewN n4).trans G4
            clear hv65 h64 G3 G4 HG1 HG2 HCC HSZ c0 c1 c2 c3 c4
            have HPVS : Hid (∀ v ∈ vals, ∃ a : Option Addr, v = .pointer a) := fun v hv => (by
              rw [HVX.out] at hv
              obtain ⟨z, _, rfl⟩ := List.mem_map.1 hv
              exact ⟨_, rfl⟩)
            generalize Value.slice ad vals.length cap = S at *
            have HLC : Hid (Tryz.Ow _ x ks vals kv S) := HLR.out.wk HWC.out hpx
            have kmem := Tryz.dsMember hV HSC.out (by omega) HLC.out hpx HLK.out.1 HPVS.out (by have := HVL.out; have := HLK.out.1; omega) HLK.out.2
            go_upto_region 24 with (first | (go_at_call 113; refine kmem.mono ?_; clear kmem; rintro e5 w5 ⟨⟨v5, rfl⟩, G10, ks', vals', kv', sv', G11, hl', -, G12, hch⟩) | fail)
            have HD6 : Hid (Tryz.DS w5 p t (o + 1) (C.bind fun y => memQ t d ks y.2)) := G10
            have HW6 : Hid (Wk p w w5) := Tryz.wkPutO (HWR.out.trans HWC.out) HLC.out hwx G12
            have HPUT : Hid (∀ k v q, (C.bind fun y => memQ t d ks y.2) = .ok ((k, v), q) → had.length ≠ 64 ∧ q ≤ t.size ∧ place ks k ≤ had.length ∧ Rising (insertAt ks (place ks k) k) ∧ ks' = insertAt ks (place ks k) k ∧ ∃ xs', vals' = Jv.ptrs xs' ∧ Tryz.Tds w5 (Jv.okO w x kv' sv') (insertAt had (place ks k) v) xs') := fun k v q e => (by
              obtain ⟨h1, h2⟩ := HC64.out _ e
              have hpl : place ks k ≤ had.length := by have h3 := (place_in HLK.out.2 k).1; have := HVL.out; have := HLK.out.1; omega
              refine ⟨h1, ?_, hpl, ins_rising HLK.out.2 k h2, Tryz.memPut hpw HWR.out.size HLC.out.vb.lt HWC.out HLC.out HVX.out HTR.out G12 hpl (hch k v q e)⟩
              have h4 := G10
              rw [e] at h4
              exact h4.le)
            have HLW : Hid (Tryz.Ow w5 x ks' vals' kv' sv') := G11
            have HLN : Hid (vals'.length = ks'.length) := hl'
            clear HSC HWC HC64 G10 G11 G12 hch hl' HLC HPVS
            generalize (C.bind fun y => memQ t d ks y.2) = D at *
            go_upto_region 25 with (first | (go_at_call 56; refine (Tryz.dsBlanks HD6.out).mono ?_; rintro e7 w7 ⟨⟨v7, rfl⟩, G20, G21, -⟩) | fail)
            have HW7 : Hid (Wk p w w7) := HW6.out.trans G21
            have HLW7 : Hid (Tryz.Ow w7 x ks' vals' kv' sv') := HLW.out.wk G21 hpx
            have HG21 : Hid (Wk p w5 w7) := G21
            clear HW6 HLW HD6 G21
            cases D with
            | bad a e =>
              have HXB : Hid (X = .bad a e) := HXR.out
              have HG : Hid (Tryz.DS w7 p t (o + 1) (.bad a e : R ((ByteArray × V) × Nat))) := G20
              have kn7 := Tryz.dsNext HG.out
              have hb7 : byteJ t (.bad a e : R ((ByteArray × V) × Nat)) = -1 := rfl
              rw [hb7] at kn7
              clear G20 hb7
              go_wp2_with (first
                | (go_at_call 58; refine kn7.mono ?_; clear kn7; rintro e8 w8 ⟨rfl, n8, rfl⟩)
                | (go_at_call 111; refine (Tryz.dsMust (HG.out.drewN n8) 44).mono ?_; rintro e9 w9 ⟨⟨v9, rfl⟩, G30, G31, -⟩)
                | fail)
              go_roundg j
              case measure => omega
              case rel => exact ⟨(HW7.out.drewN n8).trans G31, .inl ⟨a, e, HXB.out, G30.dead⟩⟩
            | ok vq =>
              obtain ⟨⟨k, v⟩, q0⟩ := vq
              have HXO : Hid (X = objFrom t (value t d) (j + 1) q0 (insertAt ks (place ks k) k) (insertAt had (place ks k) v)) := HXR.out
              obtain ⟨h63, hq0, hpl, hrs, hks, xs', hvs, hTs⟩ := HPUT.out k v q0 rfl
              have hil : (insertAt had (place ks k) v).length = had.length + 1 := ins_len _ _ _ hpl
              have HXN := obj_next t d j q0 (insertAt ks (place ks k) k) (insertAt had (place ks k) v) (by omega) hq0
              have hq3 := (Jv.blanks_le t q0 hq0).2
              have HG : Hid (Tryz.DS w7 p t (o + 1) (.ok ((k, v), blanks t q0) : R ((ByteArray × V) × Nat))) := G20
              have HTS : Hid (Tryz.Tds w7 (Jv.okO w x kv' sv') (insertAt had (place ks k) v) xs') := Tryz.Tds_keep (fun g hg hlt => HG21.out.block g hlt (fun e => by have := hg.1; omega)) HG21.out.size _ _ hTs
              have HVV : Hid (vals' = Jv.ptrs xs') := hvs
              have HKS : Hid (ks' = insertAt ks (place ks k) k ∧ Rising (insertAt ks (place ks k) k)) := ⟨hks, hrs⟩
              clear G20 hTs HPUT HXR hvs hks hrs
              generalize insertAt had (place ks k) v = had2 at *
              generalize insertAt ks (place ks k) k = ks2 at *
              generalize blanks t q0 = q3 at *
              have HXQ : Hid (X = if q3 < t.size ∧ t.get! q3 = 125 then .ok (.obj ks2 had2, q3 + 1) else (Go.Jv.take t q3 44).bind fun q => headO t d j q ks2 had2) := HXO.out.trans HXN
              clear HXN HXO
              have kn7 := Tryz.dsNext HG.out
              obtain ⟨i, er, c0, c1, c2, c3, fz, -, -, -, hy, -⟩ := HG.out.place
              obtain ⟨e1, rfl⟩ := hy _ rfl
              have e1 : q3 = i := e1
              subst e1
              have f1 := fz 1
              have f2 := fz 2
              clear hy fz e1
              have q9 : (q3 : Int) ≤ 4096 := by omega
              have q8 : (0 : Int) ≤ (q3 : Int) := by omega
              by_cases hl : q3 < t.size ∧ t.get! q3 = 125
              · have hb7 : byteJ t (.ok ((k, v), q3) : R ((ByteArray × V) × Nat)) = 125 := (if_pos hl.1).trans (by rw [hl.2]; rfl)
                rw [hb7] at kn7
                have HXF : Hid (X = .ok (.obj ks2 had2, q3 + 1)) := HXQ.out.trans (if_pos hl)
                clear HXQ hb7
                go_wp2_with (first
                  | (go_at_call 58; refine kn7.mono ?_; clear kn7; rintro e8 w8 ⟨rfl, n8, rfl⟩)
                  | fail)
                go_ret
                have HLE : Tryz.Ow w7 x ks2 vals' kv' sv' := (by rw [← HKS.out.1]; exact HLW7.out)
                exact Tryz.objEnd hpw hwx (Wk.setCell (HW7.out.drewN n8) _ _ _) (HLE.wk (p := p) (Wk.setCell ((Wk.refl _ _).drewN n8) _ _ _) hpx) HVV.out (by rw [← HKS.out.1]; exact HLN.out) (Tryz.Tds_keep (fun g hg hlt => (Wk.setCell ((Wk.refl p w7).drewN n8) _ _ _).block g hlt (fun e => by have := hg.1; omega)) (by simp) _ _ HTS.out) (HG.out.move n8 ((q3 : Int) + 1) (q3 + 1) (by omega) (by omega) (k, v)) (by omega) HXF.out 0 _ (by omega)
              · have hb7 : (byteJ t (.ok ((k, v), q3) : R ((ByteArray × V) × Nat)) == 125) = false := Jv.byteJ_ne _ 125 hl
                have HXF : Hid (X = (Go.Jv.take t q3 44).bind fun q => headO t d j q ks2 had2) := HXQ.out.trans (if_neg hl)
                clear HXQ hl
                generalize byteJ t (.ok ((k, v), q3) : R ((ByteArray × V) × Nat)) = jz at *
                go_wp2_with (first
                  | (go_at_call 58; refine kn7.mono ?_; clear kn7; rintro e8 w8 ⟨rfl, n8, rfl⟩)
                  | (go_at_call 111; refine (Tryz.dsMust (HG.out.drewN n8) 44).mono ?_; rintro e9 w9 ⟨⟨v9, rfl⟩, G30, G31, -⟩)
                  | fail)
                go_roundg j
                case measure => omega
                case rel =>
                  have hW9 : Wk p w7 w9 := ((Wk.refl p _).drewN n8).trans G31
                  refine ⟨HW7.out.trans hW9, ?_⟩
                  have hx := HXF.out
                  revert hx G30
                  show Tryz.DS w9 p t (o + 1) ((Go.Jv.take t q3 44).bind fun q => .ok ((k, v), q)) → _ → _
                  cases Go.Jv.take t q3 44 with
                  | bad a e => exact fun h hx => .inl ⟨a, e, hx, h.dead⟩
                  | ok z => exact fun h hx => .inr ⟨ks2, had2, vals', xs', z, kv', sv', (by rw [← HKS.out.1]; exact HLW7.out.wk hW9 hpx), (by rw [← HKS.out.1]; exact HLN.out), HKS.out.2, by omega, h.val _, HVV.out, Tryz.Tds_keep (fun g hg hlt => hW9.block g hlt (fun e => by have := hg.1; omega)) hW9.size _ _ HTS.out, hx, by omega⟩
          · have HCC : Hid (C = .ok ((), q2)) := HSZ.out.trans (if_neg fun e => h64 e.2)
            have hv65 : ((vals.length : Int) == 64) = false := beq_eq_false_iff_ne.2 (by have := HVL.out; omega)
            go_upto_region 21 with (first
              | (go_at_call 58; refine kn.mono ?_; clear kn; rintro e4 w4 ⟨rfl, n4, rfl⟩)
              | fail)
            have HSC : Hid (Tryz.DS (w3.drewN n4) p t (o + 1) C) := (by rw [HCC.out]; exact HG1.out.drewN n4)
            have HWC : Hid (Wk p wr (w3.drewN n4)) := HG2.out.drewN n4
            clear hv65 h64 HG1 HG2 HCC HSZ c0 c1 c2 c3 c4
            have HPVS : Hid (∀ v ∈ vals, ∃ a : Option Addr, v = .pointer a) := fun v hv => (by
              rw [HVX.out] at hv
              obtain ⟨z, _, rfl⟩ := List.mem_map.1 hv
              exact ⟨_, rfl⟩)
            generalize Value.slice ad vals.length cap = S at *
            have HLC : Hid (Tryz.Ow _ x ks vals kv S) := HLR.out.wk HWC.out hpx
            have kmem := Tryz.dsMember hV HSC.out (by omega) HLC.out hpx HLK.out.1 HPVS.out (by have := HVL.out; have := HLK.out.1; omega) HLK.out.2
            go_upto_region 24 with (first | (go_at_call 113; refine kmem.mono ?_; clear kmem; rintro e5 w5 ⟨⟨v5, rfl⟩, G10, ks', vals', kv', sv', G11, hl', -, G12, hch⟩) | fail)
            have HD6 : Hid (Tryz.DS w5 p t (o + 1) (C.bind fun y => memQ t d ks y.2)) := G10
            have HW6 : Hid (Wk p w w5) := Tryz.wkPutO (HWR.out.trans HWC.out) HLC.out hwx G12
            have HPUT : Hid (∀ k v q, (C.bind fun y => memQ t d ks y.2) = .ok ((k, v), q) → had.length ≠ 64 ∧ q ≤ t.size ∧ place ks k ≤ had.length ∧ Rising (insertAt ks (place ks k) k) ∧ ks' = insertAt ks (place ks k) k ∧ ∃ xs', vals' = Jv.ptrs xs' ∧ Tryz.Tds w5 (Jv.okO w x kv' sv') (insertAt had (place ks k) v) xs') := fun k v q e => (by
              obtain ⟨h1, h2⟩ := HC64.out _ e
              have hpl : place ks k ≤ had.length := by have h3 := (place_in HLK.out.2 k).1; have := HVL.out; have := HLK.out.1; omega
              refine ⟨h1, ?_, hpl, ins_rising HLK.out.2 k h2, Tryz.memPut hpw HWR.out.size HLC.out.vb.lt HWC.out HLC.out HVX.out HTR.out G12 hpl (hch k v q e)⟩
              have h4 := G10
              rw [e] at h4
              exact h4.le)
            have HLW : Hid (Tryz.Ow w5 x ks' vals' kv' sv') := G11
            have HLN : Hid (vals'.length = ks'.length) := hl'
            clear HSC HWC HC64 G10 G11 G12 hch hl' HLC HPVS
            generalize (C.bind fun y => memQ t d ks y.2) = D at *
            go_upto_region 25 with (first | (go_at_call 56; refine (Tryz.dsBlanks HD6.out).mono ?_; rintro e7 w7 ⟨⟨v7, rfl⟩, G20, G21, -⟩) | fail)
            have HW7 : Hid (Wk p w w7) := HW6.out.trans G21
            have HLW7 : Hid (Tryz.Ow w7 x ks' vals' kv' sv') := HLW.out.wk G21 hpx
            have HG21 : Hid (Wk p w5 w7) := G21
            clear HW6 HLW HD6 G21
            cases D with
            | bad a e =>
              have HXB : Hid (X = .bad a e) := HXR.out
              have HG : Hid (Tryz.DS w7 p t (o + 1) (.bad a e : R ((ByteArray × V) × Nat))) := G20
              have kn7 := Tryz.dsNext HG.out
              have hb7 : byteJ t (.bad a e : R ((ByteArray × V) × Nat)) = -1 := rfl
              rw [hb7] at kn7
              clear G20 hb7
              go_wp2_with (first
                | (go_at_call 58; refine kn7.mono ?_; clear kn7; rintro e8 w8 ⟨rfl, n8, rfl⟩)
                | (go_at_call 111; refine (Tryz.dsMust (HG.out.drewN n8) 44).mono ?_; rintro e9 w9 ⟨⟨v9, rfl⟩, G30, G31, -⟩)
                | fail)
              go_roundg j
              case measure => omega
              case rel => exact ⟨(HW7.out.drewN n8).trans G31, .inl ⟨a, e, HXB.out, G30.dead⟩⟩
            | ok vq =>
              obtain ⟨⟨k, v⟩, q0⟩ := vq
              have HXO : Hid (X = objFrom t (value t d) (j + 1) q0 (insertAt ks (place ks k) k) (insertAt had (place ks k) v)) := HXR.out
              obtain ⟨h63, hq0, hpl, hrs, hks, xs', hvs, hTs⟩ := HPUT.out k v q0 rfl
              have hil : (insertAt had (place ks k) v).length = had.length + 1 := ins_len _ _ _ hpl
              have HXN := obj_next t d j q0 (insertAt ks (place ks k) k) (insertAt had (place ks k) v) (by omega) hq0
              have hq3 := (Jv.blanks_le t q0 hq0).2
              have HG : Hid (Tryz.DS w7 p t (o + 1) (.ok ((k, v), blanks t q0) : R ((ByteArray × V) × Nat))) := G20
              have HTS : Hid (Tryz.Tds w7 (Jv.okO w x kv' sv') (insertAt had (place ks k) v) xs') := Tryz.Tds_keep (fun g hg hlt => HG21.out.block g hlt (fun e => by have := hg.1; omega)) HG21.out.size _ _ hTs
              have HVV : Hid (vals' = Jv.ptrs xs') := hvs
              have HKS : Hid (ks' = insertAt ks (place ks k) k ∧ Rising (insertAt ks (place ks k) k)) := ⟨hks, hrs⟩
              clear G20 hTs HPUT HXR hvs hks hrs
              generalize insertAt had (place ks k) v = had2 at *
              generalize insertAt ks (place ks k) k = ks2 at *
              generalize blanks t q0 = q3 at *
              have HXQ : Hid (X = if q3 < t.size ∧ t.get! q3 = 125 then .ok (.obj ks2 had2, q3 + 1) else (Go.Jv.take t q3 44).bind fun q => headO t d j q ks2 had2) := HXO.out.trans HXN
              clear HXN HXO
              have kn7 := Tryz.dsNext HG.out
              obtain ⟨i, er, c0, c1, c2, c3, fz, -, -, -, hy, -⟩ := HG.out.place
              obtain ⟨e1, rfl⟩ := hy _ rfl
              have e1 : q3 = i := e1
              subst e1
              have f1 := fz 1
              have f2 := fz 2
              clear hy fz e1
              have q9 : (q3 : Int) ≤ 4096 := by omega
              have q8 : (0 : Int) ≤ (q3 : Int) := by omega
              by_cases hl : q3 < t.size ∧ t.get! q3 = 125
              · have hb7 : byteJ t (.ok ((k, v), q3) : R ((ByteArray × V) × Nat)) = 125 := (if_pos hl.1).trans (by rw [hl.2]; rfl)
                rw [hb7] at kn7
                have HXF : Hid (X = .ok (.obj ks2 had2, q3 + 1)) := HXQ.out.trans (if_pos hl)
                clear HXQ hb7
                go_wp2_with (first
                  | (go_at_call 58; refine kn7.mono ?_; clear kn7; rintro e8 w8 ⟨rfl, n8, rfl⟩)
                  | fail)
                go_ret
                have HLE : Tryz.Ow w7 x ks2 vals' kv' sv' := (by rw [← HKS.out.1]; exact HLW7.out)
                exact Tryz.objEnd hpw hwx (Wk.setCell (HW7.out.drewN n8) _ _ _) (HLE.wk (p := p) (Wk.setCell ((Wk.refl _ _).drewN n8) _ _ _) hpx) HVV.out (by rw [← HKS.out.1]; exact HLN.out) (Tryz.Tds_keep (fun g hg hlt => (Wk.setCell ((Wk.refl p w7).drewN n8) _ _ _).block g hlt (fun e => by have := hg.1; omega)) (by simp) _ _ HTS.out) (HG.out.move n8 ((q3 : Int) + 1) (q3 + 1) (by omega) (by omega) (k, v)) (by omega) HXF.out 0 _ (by omega)
              · have hb7 : (byteJ t (.ok ((k, v), q3) : R ((ByteArray × V) × Nat)) == 125) = false := Jv.byteJ_ne _ 125 hl
                have HXF : Hid (X = (Go.Jv.take t q3 44).bind fun q => headO t d j q ks2 had2) := HXQ.out.trans (if_neg hl)
                clear HXQ hl
                generalize byteJ t (.ok ((k, v), q3) : R ((ByteArray × V) × Nat)) = jz at *
                go_wp2_with (first
                  | (go_at_call 58; refine kn7.mono ?_; clear kn7; rintro e8 w8 ⟨rfl, n8, rfl⟩)
                  | (go_at_call 111; refine (Tryz.dsMust (HG.out.drewN n8) 44).mono ?_; rintro e9 w9 ⟨⟨v9, rfl⟩, G30, G31, -⟩)
                  | fail)
                go_roundg j
                case measure => omega
                case rel =>
                  have hW9 : Wk p w7 w9 := ((Wk.refl p _).drewN n8).trans G31
                  refine ⟨HW7.out.trans hW9, ?_⟩
                  have hx := HXF.out
                  revert hx G30
                  show Tryz.DS w9 p t (o + 1) ((Go.Jv.take t q3 44).bind fun q => .ok ((k, v), q)) → _ → _
                  cases Go.Jv.take t q3 44 with
                  | bad a e => exact fun h hx => .inl ⟨a, e, hx, h.dead⟩
                  | ok z => exact fun h hx => .inr ⟨ks2, had2, vals', xs', z, kv', sv', (by rw [← HKS.out.1]; exact HLW7.out.wk hW9 hpx), (by rw [← HKS.out.1]; exact HLN.out), HKS.out.2, by omega, h.val _, HVV.out, Tryz.Tds_keep (fun g hg hlt => hW9.block g hlt (fun e => by have := hg.1; omega)) hW9.size _ _ HTS.out, hx, by omega⟩
        · have hb : byteJ t (.ok ((), q2) : R (Unit × Nat)) = -1 := if_neg hl
          rw [hb] at kn
          clear hb
          have HCC : Hid (C = .ok ((), q2)) := HSZ.out.trans (if_neg fun e => hl e.1)
          go_upto_region 21 with (first
            | (go_at_call 58; refine kn.mono ?_; clear kn; rintro e4 w4 ⟨rfl, n4, rfl⟩)
            | fail)
          have HSC : Hid (Tryz.DS (w3.drewN n4) p t (o + 1) C) := (by rw [HCC.out]; exact HG1.out.drewN n4)
          have HWC : Hid (Wk p wr (w3.drewN n4)) := HG2.out.drewN n4
          clear HG1 HG2 HCC HSZ c0 c1 c2 c3 c4
          have HPVS : Hid (∀ v ∈ vals, ∃ a : Option Addr, v = .pointer a) := fun v hv => (by
            rw [HVX.out] at hv
            obtain ⟨z, _, rfl⟩ := List.mem_map.1 hv
            exact ⟨_, rfl⟩)
          generalize Value.slice ad vals.length cap = S at *
          have HLC : Hid (Tryz.Ow _ x ks vals kv S) := HLR.out.wk HWC.out hpx
          have kmem := Tryz.dsMember hV HSC.out (by omega) HLC.out hpx HLK.out.1 HPVS.out (by have := HVL.out; have := HLK.out.1; omega) HLK.out.2
          go_upto_region 24 with (first | (go_at_call 113; refine kmem.mono ?_; clear kmem; rintro e5 w5 ⟨⟨v5, rfl⟩, G10, ks', vals', kv', sv', G11, hl', -, G12, hch⟩) | fail)
          have HD6 : Hid (Tryz.DS w5 p t (o + 1) (C.bind fun y => memQ t d ks y.2)) := G10
          have HW6 : Hid (Wk p w w5) := Tryz.wkPutO (HWR.out.trans HWC.out) HLC.out hwx G12
          have HPUT : Hid (∀ k v q, (C.bind fun y => memQ t d ks y.2) = .ok ((k, v), q) → had.length ≠ 64 ∧ q ≤ t.size ∧ place ks k ≤ had.length ∧ Rising (insertAt ks (place ks k) k) ∧ ks' = insertAt ks (place ks k) k ∧ ∃ xs', vals' = Jv.ptrs xs' ∧ Tryz.Tds w5 (Jv.okO w x kv' sv') (insertAt had (place ks k) v) xs') := fun k v q e => (by
            obtain ⟨h1, h2⟩ := HC64.out _ e
            have hpl : place ks k ≤ had.length := by have h3 := (place_in HLK.out.2 k).1; have := HVL.out; have := HLK.out.1; omega
            refine ⟨h1, ?_, hpl, ins_rising HLK.out.2 k h2, Tryz.memPut hpw HWR.out.size HLC.out.vb.lt HWC.out HLC.out HVX.out HTR.out G12 hpl (hch k v q e)⟩
            have h4 := G10
            rw [e] at h4
            exact h4.le)
          have HLW : Hid (Tryz.Ow w5 x ks' vals' kv' sv') := G11
          have HLN : Hid (vals'.length = ks'.length) := hl'
          clear HSC HWC HC64 G10 G11 G12 hch hl' HLC HPVS
          generalize (C.bind fun y => memQ t d ks y.2) = D at *
          go_upto_region 25 with (first | (go_at_call 56; refine (Tryz.dsBlanks HD6.out).mono ?_; rintro e7 w7 ⟨⟨v7, rfl⟩, G20, G21, -⟩) | fail)
          have HW7 : Hid (Wk p w w7) := HW6.out.trans G21
          have HLW7 : Hid (Tryz.Ow w7 x ks' vals' kv' sv') := HLW.out.wk G21 hpx
          have HG21 : Hid (Wk p w5 w7) := G21
          clear HW6 HLW HD6 G21
          cases D with
          | bad a e =>
            have HXB : Hid (X = .bad a e) := HXR.out
            have HG : Hid (Tryz.DS w7 p t (o + 1) (.bad a e : R ((ByteArray × V) × Nat))) := G20
            have kn7 := Tryz.dsNext HG.out
            have hb7 : byteJ t (.bad a e : R ((ByteArray × V) × Nat)) = -1 := rfl
            rw [hb7] at kn7
            clear G20 hb7
            go_wp2_with (first
              | (go_at_call 58; refine kn7.mono ?_; clear kn7; rintro e8 w8 ⟨rfl, n8, rfl⟩)
              | (go_at_call 111; refine (Tryz.dsMust (HG.out.drewN n8) 44).mono ?_; rintro e9 w9 ⟨⟨v9, rfl⟩, G30, G31, -⟩)
              | fail)
            go_roundg j
            case measure => omega
            case rel => exact ⟨(HW7.out.drewN n8).trans G31, .inl ⟨a, e, HXB.out, G30.dead⟩⟩
          | ok vq =>
            obtain ⟨⟨k, v⟩, q0⟩ := vq
            have HXO : Hid (X = objFrom t (value t d) (j + 1) q0 (insertAt ks (place ks k) k) (insertAt had (place ks k) v)) := HXR.out
            obtain ⟨h63, hq0, hpl, hrs, hks, xs', hvs, hTs⟩ := HPUT.out k v q0 rfl
            have hil : (insertAt had (place ks k) v).length = had.length + 1 := ins_len _ _ _ hpl
            have HXN := obj_next t d j q0 (insertAt ks (place ks k) k) (insertAt had (place ks k) v) (by omega) hq0
            have hq3 := (Jv.blanks_le t q0 hq0).2
            have HG : Hid (Tryz.DS w7 p t (o + 1) (.ok ((k, v), blanks t q0) : R ((ByteArray × V) × Nat))) := G20
            have HTS : Hid (Tryz.Tds w7 (Jv.okO w x kv' sv') (insertAt had (place ks k) v) xs') := Tryz.Tds_keep (fun g hg hlt => HG21.out.block g hlt (fun e => by have := hg.1; omega)) HG21.out.size _ _ hTs
            have HVV : Hid (vals' = Jv.ptrs xs') := hvs
            have HKS : Hid (ks' = insertAt ks (place ks k) k ∧ Rising (insertAt ks (place ks k) k)) := ⟨hks, hrs⟩
            clear G20 hTs HPUT HXR hvs hks hrs
            generalize insertAt had (place ks k) v = had2 at *
            generalize insertAt ks (place ks k) k = ks2 at *
            generalize blanks t q0 = q3 at *
            have HXQ : Hid (X = if q3 < t.size ∧ t.get! q3 = 125 then .ok (.obj ks2 had2, q3 + 1) else (Go.Jv.take t q3 44).bind fun q => headO t d j q ks2 had2) := HXO.out.trans HXN
            clear HXN HXO
            have kn7 := Tryz.dsNext HG.out
            obtain ⟨i, er, c0, c1, c2, c3, fz, -, -, -, hy, -⟩ := HG.out.place
            obtain ⟨e1, rfl⟩ := hy _ rfl
            have e1 : q3 = i := e1
            subst e1
            have f1 := fz 1
            have f2 := fz 2
            clear hy fz e1
            have q9 : (q3 : Int) ≤ 4096 := by omega
            have q8 : (0 : Int) ≤ (q3 : Int) := by omega
            by_cases hl : q3 < t.size ∧ t.get! q3 = 125
            · have hb7 : byteJ t (.ok ((k, v), q3) : R ((ByteArray × V) × Nat)) = 125 := (if_pos hl.1).trans (by rw [hl.2]; rfl)
              rw [hb7] at kn7
              have HXF : Hid (X = .ok (.obj ks2 had2, q3 + 1)) := HXQ.out.trans (if_pos hl)
              clear HXQ hb7
              go_wp2_with (first
                | (go_at_call 58; refine kn7.mono ?_; clear kn7; rintro e8 w8 ⟨rfl, n8, rfl⟩)
                | fail)
              go_ret
              have HLE : Tryz.Ow w7 x ks2 vals' kv' sv' := (by rw [← HKS.out.1]; exact HLW7.out)
              exact Tryz.objEnd hpw hwx (Wk.setCell (HW7.out.drewN n8) _ _ _) (HLE.wk (p := p) (Wk.setCell ((Wk.refl _ _).drewN n8) _ _ _) hpx) HVV.out (by rw [← HKS.out.1]; exact HLN.out) (Tryz.Tds_keep (fun g hg hlt => (Wk.setCell ((Wk.refl p w7).drewN n8) _ _ _).block g hlt (fun e => by have := hg.1; omega)) (by simp) _ _ HTS.out) (HG.out.move n8 ((q3 : Int) + 1) (q3 + 1) (by omega) (by omega) (k, v)) (by omega) HXF.out 0 _ (by omega)
            · have hb7 : (byteJ t (.ok ((k, v), q3) : R ((ByteArray × V) × Nat)) == 125) = false := Jv.byteJ_ne _ 125 hl
              have HXF : Hid (X = (Go.Jv.take t q3 44).bind fun q => headO t d j q ks2 had2) := HXQ.out.trans (if_neg hl)
              clear HXQ hl
              generalize byteJ t (.ok ((k, v), q3) : R ((ByteArray × V) × Nat)) = jz at *
              go_wp2_with (first
                | (go_at_call 58; refine kn7.mono ?_; clear kn7; rintro e8 w8 ⟨rfl, n8, rfl⟩)
                | (go_at_call 111; refine (Tryz.dsMust (HG.out.drewN n8) 44).mono ?_; rintro e9 w9 ⟨⟨v9, rfl⟩, G30, G31, -⟩)
                | fail)
              go_roundg j
              case measure => omega
              case rel =>
                have hW9 : Wk p w7 w9 := ((Wk.refl p _).drewN n8).trans G31
                refine ⟨HW7.out.trans hW9, ?_⟩
                have hx := HXF.out
                revert hx G30
                show Tryz.DS w9 p t (o + 1) ((Go.Jv.take t q3 44).bind fun q => .ok ((k, v), q)) → _ → _
                cases Go.Jv.take t q3 44 with
                | bad a e => exact fun h hx => .inl ⟨a, e, hx, h.dead⟩
                | ok z => exact fun h hx => .inr ⟨ks2, had2, vals', xs', z, kv', sv', (by rw [← HKS.out.1]; exact HLW7.out.wk hW9 hpx), (by rw [← HKS.out.1]; exact HLN.out), HKS.out.2, by omega, h.val _, HVV.out, Tryz.Tds_keep (fun g hg hlt => hW9.block g hlt (fun e => by have := hg.1; omega)) hW9.size _ _ HTS.out, hx, by omega⟩
end Go.Proofs
