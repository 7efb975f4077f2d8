/-
  'Len'; 'list', out of what 'value' does with one bracket fewer.
-/
import Derived.Test.YtejibjeidklnkaaGreatDoorJa
import Derived.Deep.RegionHeld3
import Derived.Deep.AppendLies
import Derived.RegionDies
namespace Go.Proofs
open Go.RowKit Go.Jv
theorem Jv.row_form {w : World} {B : Nat} {e : TypeId} {size : Nat} {v : Value} {n : Nat} {xs : List Value} (h : w.ownsRow B e size v n xs) : ∃ a c, v = .slice a n c := by
  rcases h.2 with ⟨h1, h2⟩ | ⟨g, cap, cur, h1, _⟩
  · exact ⟨none, 0, by rw [h1, h2]⟩
  · exact ⟨_, cap, h1⟩
theorem Tryz.len_any {w : World} {x : Nat} {k : Int} {tr : Bool} {n : Int} {s : ByteArray} {ks : Value} {a : Option Addr} {m c : Nat} (h : Jv.Vb w x k tr n s ks (.slice a m c)) :
    Calls Tryz.prog 47 #[.pointer (some ⟨x, 0, none⟩)] w fun e w' => e = .returned (.int .i64 m) ∧ w' = w := by
  have hc := h.c5
  clear h
  go_enter Tryz.func47, Tryz.ntmps47
  go_wp2
  go_ret
  exact ⟨rfl, rfl⟩
/-- What 'value' does, d brackets may still be opened. -/
def Tryz.ValOk (d : Nat) : Prop :=
  ∀ (w : World) (b : Nat) (t : ByteArray) (p o : Nat), Rd w b t p o → Tryz.Tb w → 8 ≤ b → o + d = 10 →
    Calls Tryz.prog 17 #[.pointer (some ⟨b, 0, none⟩)] w fun en w' =>
      (∃ v q, value t d p = .ok (v, q) ∧ Tryz.Vok b t o w v q en w') ∨ (∃ p' e, value t d p = .bad p' e ∧ Bad 40 p' e en w' ∧ Wk b w w')
theorem Tryz.val_yes {d : Nat} (hv : Tryz.ValOk d) {w : World} {b : Nat} {t : ByteArray} {p o : Nat} (h : Rd w b t p o) (hT : Tryz.Tb w) (hbg : 8 ≤ b) (ho : o + d = 10) {v : V} {q : Nat} (he : value t d p = .ok (v, q)) :
    Calls Tryz.prog 17 #[.pointer (some ⟨b, 0, none⟩)] w fun en w' => ∃ x, en = .returned (.pointer (some ⟨x, 0, none⟩)) ∧ Tryz.Tr w' (fun g => w.heap.size ≤ g) v x ∧ Rd w' b t q o ∧ Wk b w w' := by
  refine (hv w b t p o h hT hbg ho).mono fun e w' hq => ?_
  rcases hq with ⟨v', q', hm, hV⟩ | ⟨p', e', hm, _⟩
  · rw [he] at hm; injection hm with hm; injection hm with h1 h2; subst h1; subst h2; exact hV
  · rw [he] at hm; cases hm
theorem Tryz.val_no {d : Nat} (hv : Tryz.ValOk d) {w : World} {b : Nat} {t : ByteArray} {p o : Nat} (h : Rd w b t p o) (hT : Tryz.Tb w) (hbg : 8 ≤ b) (ho : o + d = 10) {p1 e1 : Nat} (he : value t d p = .bad p1 e1) :
    Calls Tryz.prog 17 #[.pointer (some ⟨b, 0, none⟩)] w fun en w' => Bad 40 p1 e1 en w' ∧ Wk b w w' := by
  refine (hv w b t p o h hT hbg ho).mono fun e w' hq => ?_
  rcases hq with ⟨v', q', hm, _⟩ | ⟨p', e', hm, hB, hW⟩
  · rw [he] at hm; cases hm
  · rw [he] at hm; injection hm with h1 h2; subst h1; subst h2; exact ⟨hB, hW⟩
theorem Tryz.info_ptr : (Tryz.prog.info? 27).map (fun i => (i.zero, i.size, i.bytes)) = some (some (.pointer none), 1, 8) := by kernel_rfl
theorem Jv.vb_wk {b : Nat} {w w' : World} {x : Nat} {k : Int} {tr : Bool} {n : Int} {s : ByteArray} {ks is : Value} (h : Jv.Vb w x k tr n s ks is) (g : Wk b w w') (hx : x ≠ b) : Jv.Vb w' x k tr n s ks is :=
  h.keep (g.block x h.lt hx) g.size
theorem Tryz.trs_wk {b : Nat} {w w' : World} {ok : Nat → Prop} {l : List V} {xs : List Nat} (h : Tryz.Trs w ok l xs) (g : Wk b w w') (hb : ¬ ok b) : Tryz.Trs w' ok l xs :=
  Tryz.Trs_keep (fun k h1 h2 => g.block k h2 (fun e => hb (e ▸ h1))) g.size l xs h
theorem Jv.Vb.set5 {w : World} {x : Nat} {k : Int} {tr : Bool} {n : Int} {s : ByteArray} {ks is : Value} (h : Jv.Vb w x k tr n s ks is) (u : Value) : Jv.Vb (w.setCell ⟨x, 5, none⟩ u) x k tr n s ks u := by
  have hs : ∀ y, (w.setCell ⟨x, 5, none⟩ u).frozen? y = w.frozen? y := fun y => by simp
  refine ⟨?_, ?_, ?_, ?_, ?_, World.cell?_setCell_same' _ _ _ (by rw [h.c5]; rfl), (hs _).trans h.f4, (hs _).trans h.f5, by simpa using h.lt, by obtain ⟨cs, T, h1⟩ := h.un; exact ⟨_, T, heap_setCell_same w x 5 cs T u h1⟩⟩
  · rw [World.cell?_setCell_other _ _ _ _ (by simp)]; exact h.c0
  · rw [World.cell?_setCell_other _ _ _ _ (by simp)]; exact h.c1
  · rw [World.cell?_setCell_other _ _ _ _ (by simp)]; exact h.c2
  · rw [World.cell?_setCell_other _ _ _ _ (by simp)]; exact h.c3
  · rw [World.cell?_setCell_other _ _ _ _ (by simp)]; exact h.c4
theorem Tryz.more_yes {w : World} {b : Nat} {t : ByteArray} {p o q : Nat} {x : UInt8} {had : Nat} (hm : more t p x had = .ok (true, q)) (h : Rd w b t p o) (ho1 : 1 ≤ o) (hh : had ≤ 1000) :
    Calls Tryz.prog 46 #[.pointer (some ⟨b, 0, none⟩), .int .u8 x.toNat, .int .i64 had] w fun en w' => en = .returned (.bool true) ∧ q < t.size ∧ Rd w' b t q o ∧ Wk b w w' := by
  refine (Tryz.more_any h ho1 x had hh).mono fun e w' hq => ?_
  rcases hq with ⟨q', h1, _⟩ | ⟨q', h1, h2, h3, h4, h5⟩ | ⟨p', e', h1, _⟩
  · rw [hm] at h1; injection h1 with h1; injection h1 with h1; cases h1
  · rw [hm] at h1; injection h1 with h1; injection h1 with _ h1; subst h1; exact ⟨h2, h3, h4, h5⟩
  · rw [hm] at h1; cases h1
theorem Tryz.more_end {w : World} {b : Nat} {t : ByteArray} {p o q : Nat} {x : UInt8} {had : Nat} (hm : more t p x had = .ok (false, q)) (h : Rd w b t p o) (ho1 : 1 ≤ o) (hh : had ≤ 1000) :
    Calls Tryz.prog 46 #[.pointer (some ⟨b, 0, none⟩), .int .u8 x.toNat, .int .i64 had] w fun en w' => en = .returned (.bool false) ∧ Rd w' b t q (o - 1) ∧ Wk b w w' := by
  refine (Tryz.more_any h ho1 x had hh).mono fun e w' hq => ?_
  rcases hq with ⟨q', h1, h2, h3, h4⟩ | ⟨q', h1, _⟩ | ⟨p', e', h1, _⟩
  · rw [hm] at h1; injection h1 with h1; injection h1 with _ h1; subst h1; exact ⟨h2, h3, h4⟩
  · rw [hm] at h1; injection h1 with h1; injection h1 with h1; cases h1
  · rw [hm] at h1; cases h1
theorem Tryz.more_no {w : World} {b : Nat} {t : ByteArray} {p o p1 e1 : Nat} {x : UInt8} {had : Nat} (hm : more t p x had = .bad p1 e1) (h : Rd w b t p o) (ho1 : 1 ≤ o) (hh : had ≤ 1000) :
    Calls Tryz.prog 46 #[.pointer (some ⟨b, 0, none⟩), .int .u8 x.toNat, .int .i64 had] w fun en w' => Bad 40 p1 e1 en w' ∧ Wk b w w' := by
  refine (Tryz.more_any h ho1 x had hh).mono fun e w' hq => ?_
  rcases hq with ⟨q', h1, _⟩ | ⟨q', h1, _⟩ | ⟨p', e', h1, h2, h3⟩
  · rw [hm] at h1; cases h1
  · rw [hm] at h1; cases h1
  · rw [hm] at h1; injection h1 with ha hb; subst ha; subst hb; exact ⟨h2, h3⟩
theorem Jv.more_had {t : ByteArray} {p q : Nat} {x : UInt8} {had : Nat} (hm : more t p x had = .ok (true, q)) : had ≠ 64 := by
  rintro rfl
  unfold more at hm
  cases h1 : next t (blanks t p) with
  | bad a b => rw [h1] at hm; cases hm
  | ok c =>
    rw [h1] at hm; simp only [R.bind] at hm
    split at hm
    · injection hm with hm; injection hm with hm; cases hm
    · rw [if_neg (by decide)] at hm
      cases h2 : Go.Jv.take t (blanks t p) 44 with
      | bad a b => rw [h2] at hm; cases hm
      | ok q1 =>
        rw [h2] at hm; simp only at hm
        cases h3 : next t (blanks t q1) with
        | bad a b => rw [h3] at hm; cases hm
        | ok q2 => rw [h3] at hm; simp at hm
theorem Jv.Rd_heap {w w' : World} {b : Nat} {t : ByteArray} {p o : Nat} (h : Rd w b t p o) (hh : w'.heap = w.heap) : Rd w' b t p o :=
  Jv.rd_keep h (by rw [hh]) (by rw [hh]; exact Nat.le_refl _)
theorem Tryz.Tb_heap {w w' : World} (h : Tryz.Tb w) (hh : w'.heap = w.heap) : Tryz.Tb w' := ⟨by rw [hh]; exact h.size, fun w2 h2 => h.all w2 fun k hk => by rw [h2 k hk, hh]⟩
theorem Jv.wk_from {b : Nat} {w W w' : World} (h : Wk b W w') (h1 : W.heap = w.heap) (h2 : W.os = w.os) (h3 : W.tape = w.tape) (h4 : W.output = w.output) : Wk b w w' :=
  ⟨h.os.trans h2, h.tape.trans h3, h.output.trans h4, by rw [← h1]; exact h.size, fun k hk hb => (h.block k (by rw [h1]; exact hk) hb).trans (by rw [h1])⟩
/-- The state of 'list' between two items. -/
structure Tryz.Li (d : Nat) (b : Nat) (t : ByteArray) (o : Nat) (w : World) (x : Nat) (k q : Nat) (had : List V) (sv : Value) (xs : List Nat) (wr : World) : Prop where
  hk : k + had.length = 66
  h64 : had.length ≤ 64
  vb : Jv.Vb wr x 4 false 0 emp Jv.nilS sv
  row : wr.ownsRow (x + 1) 27 1 sv xs.length (Jv.ptrs xs)
  trs : Tryz.Trs wr (fun g => x + 1 ≤ g ∧ sv.ownBlock ≠ some g) had xs
  rd : Rd wr b t q (o + 1)
  wk : Wk b w wr
  tb : Tryz.Tb wr
  hx : w.heap.size ≤ x
theorem Tryz.Li_next {d b : Nat} {t : ByteArray} {o : Nat} {w : World} {x gk k q q2 : Nat} {had : List V} {sv : Value} {xs : List Nat} {wr w3 w4 w5 : World} {v : V} {y g cap : Nat}
    (hL : Tryz.Li d b t o w x gk q had sv xs wr) (hK : gk = k + 1) (hn64 : had.length ≠ 64) (hvb : Jv.Vb w3 x 4 false 0 emp Jv.nilS sv) (hrow : w3.ownsRow (x + 1) 27 1 sv xs.length (Jv.ptrs xs))
    (htrs : Tryz.Trs w3 (fun g => x + 1 ≤ g ∧ sv.ownBlock ≠ some g) had xs) (hwk : Wk b w w3) (htb : Tryz.Tb w3) (htr : Tryz.Tr w4 (fun g => w3.heap.size ≤ g) v y) (hR4 : Rd w4 b t q2 (o + 1)) (hk4 : Wk b w3 w4)
    (hown5 : w5.ownsRow (x + 1) 27 1 (.slice (some ⟨g, 0, none⟩) (xs.length + 1) cap) (xs.length + 1) (Jv.ptrs xs ++ [.pointer (some ⟨y, 0, none⟩)]))
    (hgrow : (w4.alloc (.cells #[.pointer (some ⟨y, 0, none⟩)] 27)).grownBy w5 sv.ownBlock) (hat : sv.ownBlock = some g ∨ g = w4.heap.size + 1) (hbx : b < x) (hbg : 8 ≤ b) :
    Tryz.Li d b t o w x k q2 (had ++ [v]) (.slice (some ⟨g, 0, none⟩) (xs.length + 1) cap) (xs ++ [y]) (w5.setCell ⟨x, 5, none⟩ (.slice (some ⟨g, 0, none⟩) (xs.length + 1) cap)) := by
  have hx3 := hvb.lt
  have h34 := hk4.size
  have hlt := fun k hk => Jv.row_lt hrow k hk
  have hb3 : b < w3.heap.size := by omega
  -- what is kept from w4 on
  have k5 : ∀ m, m < w4.heap.size → sv.ownBlock ≠ some m → w5.heap[m]? = w4.heap[m]? := fun m hm hne =>
    (hgrow.block m (by simp; omega) (Ne.symm hne)).trans (Below.heap_alloc w4 _ m hm)
  have k6 : ∀ m u, m ≠ x → (w5.setCell ⟨x, 5, none⟩ u).heap[m]? = w5.heap[m]? := fun m u hm => Below.heap_setCell w5 ⟨x, 5, none⟩ u m hm
  have hs5 : w4.heap.size ≤ w5.heap.size := by have := hgrow.size; simp at this; omega
  have hnx : sv.ownBlock ≠ some x := fun e => by have := (hlt x e).1; omega
  have hnb : sv.ownBlock ≠ some b := fun e => by have := (hlt b e).1; omega
  have hl := hL.hk
  have h64 := hL.h64
  refine ⟨by rw [List.length_append]; simp; omega, by rw [List.length_append]; simp; omega, ?_, ?_, ?_, ?_, ?_, ?_, hL.hx⟩
  · have e : w5.heap[x]? = w3.heap[x]? := (k5 x (by omega) hnx).trans (hk4.block x hx3 (by omega))
    exact (hvb.keep e (by omega)).set5 _
  · have e1 : (xs ++ [y]).length = xs.length + 1 := by simp
    have e2 : Jv.ptrs (xs ++ [y]) = Jv.ptrs xs ++ [.pointer (some ⟨y, 0, none⟩)] := by simp [Jv.ptrs]
    rw [e1, e2]
    exact Jv.row_kept hown5 fun m h1 _ => k6 m _ (by omega)
  · have hold : Tryz.Trs (w5.setCell ⟨x, 5, none⟩ (.slice (some ⟨g, 0, none⟩) (xs.length + 1) cap)) (fun m => x + 1 ≤ m ∧ Value.ownBlock (.slice (some ⟨g, 0, none⟩) (xs.length + 1) cap) ≠ some m) had xs := by
      have h1 : Tryz.Trs w3 (fun m => (x + 1 ≤ m ∧ sv.ownBlock ≠ some m) ∧ m < w3.heap.size) had xs := Tryz.Trs_mono (fun m hm hlt => ⟨hm, hlt⟩) had xs htrs
      have h2 : Tryz.Trs (w5.setCell ⟨x, 5, none⟩ (.slice (some ⟨g, 0, none⟩) (xs.length + 1) cap)) (fun m => (x + 1 ≤ m ∧ sv.ownBlock ≠ some m) ∧ m < w3.heap.size) had xs := Tryz.Trs_keep (fun m hm _ => by
        obtain ⟨⟨ha, hb⟩, hc⟩ := hm
        exact ((k6 m _ (by omega)).trans (k5 m (by omega) hb)).trans (hk4.block m hc (by omega))) (by simp; omega) had xs h1
      refine Tryz.Trs_mono (fun m hm _ => ?_) had xs h2
      obtain ⟨⟨ha, hb⟩, hc⟩ := hm
      refine ⟨ha, fun e => ?_⟩
      simp [Value.ownBlock] at e
      subst e
      rcases hat with h | h
      · exact hb h
      · omega
    refine Tryz.Trs_snoc ?_ had xs hold
    have h1 : Tryz.Tr w4 (fun m => w3.heap.size ≤ m ∧ m < w4.heap.size) v y := Tryz.Tr_mono (fun m hm hlt => ⟨hm, hlt⟩) v y htr
    have h2 : Tryz.Tr (w5.setCell ⟨x, 5, none⟩ (.slice (some ⟨g, 0, none⟩) (xs.length + 1) cap)) (fun m => w3.heap.size ≤ m ∧ m < w4.heap.size) v y := Tryz.Tr_keep (fun m hm _ =>
      (k6 m _ (by have := hm.1; omega)).trans (k5 m hm.2 (fun e => by have := (hlt m e).2; have := hm.1; omega))) (by simp; omega) v y h1
    refine Tryz.Tr_mono (fun m hm _ => ?_) v y h2
    refine ⟨by have := hm.1; omega, fun e => ?_⟩
    simp [Value.ownBlock] at e
    subst e
    rcases hat with h | h
    · have := (hlt _ h).2; have := hm.1; omega
    · have := hm.2; omega
  · have e : w5.heap[b]? = w4.heap[b]? := k5 b (by omega) hnb
    exact Jv.rd_keep (Jv.rd_keep hR4 e hs5) (k6 b _ (by omega)) (by simp)
  · refine ⟨?_, ?_, ?_, ?_, fun m hm hb => ?_⟩
    · exact (hgrow.os.trans hk4.os).trans hwk.os
    · exact (hgrow.tape.trans hk4.tape).trans hwk.tape
    · exact (hgrow.output.trans hk4.output).trans hwk.output
    · have := hwk.size; simp; omega
    · have h1 := hwk.size
      have h2 := hL.hx
      exact (((k6 m _ (by omega)).trans (k5 m (by omega) (fun e => by have := (hlt m e).1; omega))).trans (hk4.block m (by omega) hb)).trans (hwk.block m hm hb)
  · have h8 := htb.size
    exact ⟨by simp; omega, fun w' hw' => htb.all w' fun m hm => (((hw' m hm).trans (k6 m _ (by omega))).trans (k5 m (by omega) (fun e => by have := (hlt m e).1; omega))).trans (hk4.block m (by omega) (by omega))⟩
set_option maxHeartbeats 4000000 in
set_option maxRecDepth 10000 in
theorem Tryz.list_any {d : Nat} (hv : Tryz.ValOk d) {w : World} {b : Nat} {t : ByteArray} {p o : Nat} (h : Rd w b t p o) (hT : Tryz.Tb w) (hbg : 8 ≤ b) (hod : o + (d + 1) = 10) (hlt : p < t.size) :
    Calls Tryz.prog 31 #[.pointer (some ⟨b, 0, none⟩)] w fun en w' =>
      (∃ v q, listFrom t (value t d) 66 (p + 1) [] = .ok (v, q) ∧ Tryz.Vok b t o w v q en w') ∨ (∃ p' e, listFrom t (value t d) 66 (p + 1) [] = .bad p' e ∧ Bad 40 p' e en w' ∧ Wk b w w') := by
  have hbeg := Tryz.begin_ok h hlt (by omega)
  have hb0 := h.hb
  clear h
  obtain ⟨i0, hi0, hz0, hz1, hz2⟩ := info_parts Tryz.info_ptr
  go_enter Tryz.func31, Tryz.ntmps31
  go_wp2_with (first | (go_at_call 45; refine hbeg.mono ?_; rintro e1 w1 ⟨rfl, hR1, hW1⟩) | fail)
  go_loopg [] 66 (fun k wr => ∃ q had sv xs, listFrom t (value t d) k q had = listFrom t (value t d) 66 (p + 1) [] ∧ Tryz.Li d b t o w w1.heap.size k q had sv xs wr)
  case atStart =>
    refine ⟨p + 1, [], Jv.nilS, [], rfl, rfl, by simp, Jv.Vb.new w1 4 false 0 emp Jv.nilS Jv.nilS _, ⟨rfl, .inl ⟨rfl, rfl⟩⟩, rfl, hR1.below ((Below.refl _ _).alloc (Nat.le_refl _) _), hW1.below ((Below.refl w1.heap.size _).alloc (Nat.le_refl _) _) hW1.size, ?_, hW1.size⟩
    exact (hT.wk hW1 hbg).below ((Below.refl w1.heap.size _).alloc (Nat.le_refl _) _) (hT.wk hW1 hbg).size
  case round =>
    obtain ⟨q, had, sv, xs, he, hL⟩ := hrel
    obtain ⟨ag, cg, hsv⟩ := Jv.row_form hL.row
    have hxl : xs.length = had.length := Tryz.Trs_len had xs hL.trs
    have hlen : ∀ w', Jv.Vb w' w1.heap.size 4 false 0 emp Jv.nilS sv → Calls Tryz.prog 47 #[.pointer (some ⟨w1.heap.size, 0, none⟩)] w' fun e w'' => e = .returned (.int .i64 had.length) ∧ w'' = w' := by
      intro w' hvb
      rw [hsv, hxl] at hvb
      exact Tryz.len_any hvb
    have HE : Hid (listFrom t (value t d) gk q had = listFrom t (value t d) 66 (p + 1) []) := he
    have HL : Hid (Tryz.Li d b t o w w1.heap.size gk q had sv xs wr) := hL
    have hle := hlen wr hL.vb
    have h64 := hL.h64
    obtain ⟨k, hk⟩ : ∃ k, gk = k + 1 := ⟨gk - 1, by have := hL.hk; omega⟩
    have HS : Hid (∃ a c, sv = .slice a xs.length c) := ⟨ag, cg, hsv⟩
    clear he hlen hsv hxl hbeg hR1
    have hstep : listFrom t (value t d) gk q had = (more t q 93 had.length).bind fun m => if m.1 = false then .ok (.list had, m.2) else (value t d m.2).bind fun x => listFrom t (value t d) k x.2 (had ++ [x.1]) := by rw [hk]; rfl
    have HK : Hid (gk = k + 1) := hk
    clear hk
    cases hm : more t q 93 had.length with
    | bad p1 e1 =>
      have HX : Hid (listFrom t (value t d) 66 (p + 1) [] = .bad p1 e1) := HE.out.symm.trans (by rw [hstep, hm]; rfl)
      have hmo : Calls Tryz.prog 46 #[.pointer (some ⟨b, 0, none⟩), .int .u8 93, .int .i64 had.length] wr fun en w' => Bad 40 p1 e1 en w' ∧ Wk b wr w' := Tryz.more_no (x := 93) hm hL.rd (by omega) (by omega)
      clear hm hstep hL
      go_wp2_with (first | (go_at_call 47; refine hle.mono ?_; rintro e2 w2 ⟨rfl, rfl⟩) | (go_at_call 46; refine hmo.mono ?_; rintro e3 w3 ⟨⟨y, hy, rfl, hy0, hy1⟩, hk3⟩) | fail)
      exact ⟨rfl, Or.inr ⟨_, _, HX.out, ⟨y, hy, rfl, hy0, hy1⟩, HL.out.wk.trans hk3⟩⟩
    | ok m =>
      obtain ⟨mb, q1⟩ := m
      cases mb with
      | false =>
        have HX : Hid (listFrom t (value t d) 66 (p + 1) [] = .ok (.list had, q1)) := HE.out.symm.trans (by rw [hstep, hm]; rfl)
        have hmo : Calls Tryz.prog 46 #[.pointer (some ⟨b, 0, none⟩), .int .u8 93, .int .i64 had.length] wr fun en w' => en = .returned (.bool false) ∧ Rd w' b t q1 (o + 1 - 1) ∧ Wk b wr w' := Tryz.more_end (x := 93) hm hL.rd (by omega) (by omega)
        clear hm hstep hL
        go_wp2_with (first | (go_at_call 47; refine hle.mono ?_; rintro e2 w2 ⟨rfl, rfl⟩) | (go_at_call 46; refine hmo.mono ?_; rintro e3 w3 ⟨rfl, hR3, hW3⟩) | fail)
        go_ret
        have hL := HL.out
        have hbx : b < w1.heap.size := Nat.lt_of_lt_of_le hb0 hL.hx
        refine Or.inl ⟨.list had, q1, HX.out, w1.heap.size, rfl, ⟨hL.hx, sv, xs, Jv.vb_wk hL.vb hW3 (by omega), ?_, ?_⟩, hR3, hL.wk.trans hW3⟩
        · have hr := Jv.row_wk hL.row hW3 (by omega)
          refine ⟨?_, fun k hk => ?_⟩
          · have hl : (Jv.ptrs xs).length = xs.length := by simp [Jv.ptrs]
            rw [hl]
            exact Jv.row_move hr fun g _ => ⟨Nat.zero_le _, rfl⟩
          · have h1 := (Jv.row_lt hr k hk).1
            have h2 := hL.hx
            show w.heap.size ≤ k
            omega
        · refine Tryz.Trs_mono (fun g hg _ => ?_) had xs (Tryz.trs_wk hL.trs hW3 (fun h => by have := h.1; omega))
          have h1 := hg.1
          have h2 := hL.hx
          show w.heap.size ≤ g
          omega
      | true =>
        have hmo : Calls Tryz.prog 46 #[.pointer (some ⟨b, 0, none⟩), .int .u8 93, .int .i64 had.length] wr fun en w' => en = .returned (.bool true) ∧ q1 < t.size ∧ Rd w' b t q1 (o + 1) ∧ Wk b wr w' := Tryz.more_yes (x := 93) hm hL.rd (by omega) (by omega)
        have hn64 := Jv.more_had hm
        have HST : Hid (listFrom t (value t d) 66 (p + 1) [] = (value t d q1).bind fun x => listFrom t (value t d) k x.2 (had ++ [x.1])) := HE.out.symm.trans (by rw [hstep, hm]; rfl)
        clear hm hstep hL
        go_wp2_with (first | (go_at_call 47; refine hle.mono ?_; rintro e2 w2 ⟨rfl, rfl⟩) | (go_at_call 46; refine hmo.mono ?_; rintro e3 w3 ⟨rfl, hq1, hR3, hW3⟩) | fail)
        have hL := HL.out
        have hbx : b < w1.heap.size := Nat.lt_of_lt_of_le hb0 hL.hx
        have hvb := Jv.vb_wk hL.vb hW3 (by omega)
        have hrow := Jv.row_wk hL.row hW3 (by omega : b < w1.heap.size + 1)
        have htrs := Tryz.trs_wk hL.trs hW3 (fun h => by have := h.1; omega)
        have htb := hL.tb.wk hW3 hbg
        have hwk := hL.wk.trans hW3
        have HR3 : Hid (Rd w3 b t q1 (o + 1)) := hR3
        have HVB : Hid (Jv.Vb w3 w1.heap.size 4 false 0 emp Jv.nilS sv) := hvb
        have HROW : Hid (w3.ownsRow (w1.heap.size + 1) 27 1 sv xs.length (Jv.ptrs xs)) := hrow
        have HTRS : Hid (Tryz.Trs w3 (fun g => w1.heap.size + 1 ≤ g ∧ sv.ownBlock ≠ some g) had xs) := htrs
        have hc5 := hvb.c5
        have hf5 := hvb.f5
        have hx3 := hvb.lt
        have hhx := hL.hx
        have hxl : xs.length = had.length := Tryz.Trs_len had xs htrs
        have HXL : Hid (xs.length = had.length) := hxl
        clear hL hvb hrow htrs hR3 hle hmo hxl
        cases hva : value t d q1 with
        | bad p1 e1 =>
          have HX : Hid (listFrom t (value t d) 66 (p + 1) [] = .bad p1 e1) := HST.out.trans (by rw [hva]; rfl)
          have hcal : ∀ W : World, W.heap = w3.heap → W.os = w3.os → W.tape = w3.tape → W.output = w3.output → Calls Tryz.prog 17 #[.pointer (some ⟨b, 0, none⟩)] W fun en w' => Bad 40 p1 e1 en w' ∧ Wk b w3 w' := fun W h1 h2 h3 h4 =>
            (Tryz.val_no hv (Jv.Rd_heap HR3.out h1) (Tryz.Tb_heap htb h1) hbg (by omega) hva).mono fun _ _ hq => ⟨hq.1, Jv.wk_from hq.2 h1 h2 h3 h4⟩
          clear hva
          go_region_dies
          all_goals (refine (hcal _ (by rfl) (by rfl) (by rfl) (by rfl)).mono ?_; rintro e4 w4 ⟨⟨y, hy, rfl, hy0, hy1⟩, hk3⟩; exact ⟨rfl, Or.inr ⟨_, _, HX.out, ⟨y, hy, rfl, hy0, hy1⟩, hwk.trans hk3⟩⟩)
        | ok vq =>
          obtain ⟨v, q2⟩ := vq
          have HX : Hid (listFrom t (value t d) k q2 (had ++ [v]) = listFrom t (value t d) 66 (p + 1) []) := (HST.out.trans (by rw [hva]; rfl)).symm
          have hcal : ∀ W : World, W.heap = w3.heap → W.os = w3.os → W.tape = w3.tape → W.output = w3.output → Calls Tryz.prog 17 #[.pointer (some ⟨b, 0, none⟩)] W fun en w' => ∃ y, en = .returned (.pointer (some ⟨y, 0, none⟩)) ∧ Tryz.Tr w' (fun g => w3.heap.size ≤ g) v y ∧ Rd w' b t q2 (o + 1) ∧ Wk b w3 w' := fun W h1 h2 h3 h4 =>
            (Tryz.val_yes hv (Jv.Rd_heap HR3.out h1) (Tryz.Tb_heap htb h1) hbg (by omega) hva).mono fun _ _ ⟨y, hq1, hq2, hq3, hq4⟩ => ⟨y, hq1, by rw [← h1]; exact hq2, hq3, Jv.wk_from hq4 h1 h2 h3 h4⟩
          clear hva
          have hx64 : xs.length ≤ 64 := by have := HXL.out; omega
          have hne : sv.ownBlock ≠ some w1.heap.size := fun e => by have := Jv.row_block HROW.out _ e; omega
          go_region_law (first
              | (go_simp; refine (hcal _ (by rfl) (by rfl) (by rfl) (by rfl)).mono ?_; rintro e4 w4 ⟨y, rfl, htr, hR4, hk4⟩; have hx4 := Nat.lt_of_lt_of_le hx3 hk4.size; have hc4 := (hk4.cell (p := ⟨w1.heap.size, 5, none⟩) hx3 (by show w1.heap.size ≠ b; omega)).trans hc5)
              | (refine step_append_lies _ (by rfl) _ _ _ (by rfl) (w1.heap.size + 1) 27 i0 _ 1 8 Tryz.underlying53 hi0 hz0 hz1 hz2 rfl (by omega) sv xs.length (Jv.ptrs xs) (by rfl) ((Jv.row_wk HROW.out hk4 (by omega)).alloc _)
                  ⟨w4.heap.size, 0, none⟩ 1 1 [.pointer (some ⟨y, 0, none⟩)] (by rfl) (by rfl) (World.news_of_block (cs := #[.pointer (some ⟨y, 0, none⟩)]) (t := 27) (fr := (0, 0)) (heap_alloc_new w4 _)) (by simp [Value.oneCell'])
                  (by omega) (by unfold maxLen; omega) (by omega) (by simp; omega) (w4.heap.size + 1) (by simp) ?_; intro g cap w5 hown5 hgrow hat hlt5; have hfz : w5.frozen? ⟨w1.heap.size, 5, none⟩ = false := (hgrow.frozen_far _ (by simp; omega) (Ne.symm hne)).trans ((((Below.refl w4.heap.size w4).alloc (Nat.le_refl _) _).frozen (p := ⟨w1.heap.size, 5, none⟩) hx4).trans ((hk4.frozen (p := ⟨w1.heap.size, 5, none⟩) hx3 (by show w1.heap.size ≠ b; omega)).trans hf5)); have hc55 : w5.cell? ⟨w1.heap.size, 5, none⟩ = some sv := (hgrow.cell_far _ (by simp; omega) (Ne.symm hne)).trans ((((Below.refl w4.heap.size w4).alloc (Nat.le_refl _) _).cell (p := ⟨w1.heap.size, 5, none⟩) hx4).trans hc4))
              | fail)
          all_goals
            go_wp2
            go_roundg k
            case measure => have := HK.out; omega
            case rel => exact ⟨q2, had ++ [v], _, xs ++ [y], HX.out, Tryz.Li_next HL.out HK.out hn64 HVB.out HROW.out HTRS.out hwk htb htr hR4 hk4 hown5 hgrow hat hbx hbg⟩
end Go.Proofs
