/-
  Laid together by packg.py of Jc Jk Jg Ji Jm.
-/
import Derived.Test.YtcakkkafanpjaaaGreatDoorQaD
import Derived.Test.YtcakkkafanpjaaaGreatDoorShelf2
import Derived.Test.YtcakkkafanpjaaaGreatDoorQaA
import Derived.Deep.RegionHeld3
import Derived.Deep.AppendLies
import Derived.RegionDies
import Derived.Laws.AppendOwn
import Derived.Laws.IdiomCopy
import Derived.Shelf.Spec.SlicesInsertGrow
namespace Go.Proofs
open Go.RowKit Go.Jv
theorem Jv.row_form {w : World} {B : Nat} {e : TypeId} {size : Nat} {v : Value} {n : Nat} {xs : List Value} (h : w.ownsRow B e size v n xs) : ∃ a c, v = .slice a n c := by
  rcases h.2 with ⟨h1, h2⟩ | ⟨g, cap, cur, h1, _⟩
  · exact ⟨none, 0, by rw [h1, h2]⟩
  · exact ⟨_, cap, h1⟩
theorem Tryz.len_any {w : World} {x : Nat} {k : Int} {tr : Bool} {n : Int} {s : ByteArray} {ks : Value} {a : Option Addr} {m c : Nat} (h : Jv.Vb w x k tr n s ks (.slice a m c)) :
    Calls Tryz.prog 38 #[.pointer (some ⟨x, 0, none⟩)] w fun e w' => e = .returned (.int .i64 m) ∧ w' = w := by
  have hc := h.c5
  clear h
  go_enter Tryz.func38, Tryz.ntmps38
  go_wp2
  go_ret
  exact ⟨rfl, rfl⟩
/-- What 'value' does, d brackets may still be opened. -/
def Tryz.ValOk (d : Nat) : Prop :=
  ∀ (w : World) (b : Nat) (t : ByteArray) (p o : Nat), Rd w b t p o → Tryz.Tb w → 8 ≤ b → o + d = 10 →
    Calls Tryz.prog 77 #[.pointer (some ⟨b, 0, none⟩)] w fun en w' =>
      (∃ v q, value t d p = .ok (v, q) ∧ Tryz.Vok b t o w v q en w') ∨ (∃ p' e, value t d p = .bad p' e ∧ Bad 88 p' e en w' ∧ Wk b w w')
theorem Tryz.val_yes {d : Nat} (hv : Tryz.ValOk d) {w : World} {b : Nat} {t : ByteArray} {p o : Nat} (h : Rd w b t p o) (hT : Tryz.Tb w) (hbg : 8 ≤ b) (ho : o + d = 10) {v : V} {q : Nat} (he : value t d p = .ok (v, q)) :
    Calls Tryz.prog 77 #[.pointer (some ⟨b, 0, none⟩)] w fun en w' => ∃ x, en = .returned (.pointer (some ⟨x, 0, none⟩)) ∧ Tryz.Tr w' (fun g => w.heap.size ≤ g) v x ∧ Rd w' b t q o ∧ Wk b w w' := by
  refine (hv w b t p o h hT hbg ho).mono fun e w' hq => ?_
  rcases hq with ⟨v', q', hm, hV⟩ | ⟨p', e', hm, _⟩
  · rw [he] at hm; injection hm with hm; injection hm with h1 h2; subst h1; subst h2; exact hV
  · rw [he] at hm; cases hm
theorem Tryz.val_no {d : Nat} (hv : Tryz.ValOk d) {w : World} {b : Nat} {t : ByteArray} {p o : Nat} (h : Rd w b t p o) (hT : Tryz.Tb w) (hbg : 8 ≤ b) (ho : o + d = 10) {p1 e1 : Nat} (he : value t d p = .bad p1 e1) :
    Calls Tryz.prog 77 #[.pointer (some ⟨b, 0, none⟩)] w fun en w' => Bad 88 p1 e1 en w' ∧ Wk b w w' := by
  refine (hv w b t p o h hT hbg ho).mono fun e w' hq => ?_
  rcases hq with ⟨v', q', hm, _⟩ | ⟨p', e', hm, hB, hW⟩
  · rw [he] at hm; cases hm
  · rw [he] at hm; injection hm with h1 h2; subst h1; subst h2; exact ⟨hB, hW⟩
theorem Tryz.info_ptr : (Tryz.prog.info? 24).map (fun i => (i.zero, i.size, i.bytes)) = some (some (.pointer none), 1, 8) := by kernel_rfl
theorem Jv.vb_wk {b : Nat} {w w' : World} {x : Nat} {k : Int} {tr : Bool} {n : Int} {s : ByteArray} {ks is : Value} (h : Jv.Vb w x k tr n s ks is) (g : Wk b w w') (hx : x ≠ b) : Jv.Vb w' x k tr n s ks is :=
  h.keep (g.block x h.lt hx) g.size
theorem Tryz.trs_wk {b : Nat} {w w' : World} {ok : Nat → Prop} {l : List V} {xs : List Nat} (h : Tryz.Trs w ok l xs) (g : Wk b w w') (hb : ¬ ok b) : Tryz.Trs w' ok l xs :=
  Tryz.Trs_keep (fun k h1 h2 => g.block k h2 (fun e => hb (e ▸ h1))) g.size l xs h
theorem Jv.Vb.set5 {w : World} {x : Nat} {k : Int} {tr : Bool} {n : Int} {s : ByteArray} {ks is : Value} (h : Jv.Vb w x k tr n s ks is) (u : Value) : Jv.Vb (w.setCell ⟨x, 5, none⟩ u) x k tr n s ks u := by
  have hs : ∀ y, (w.setCell ⟨x, 5, none⟩ u).frozen? y = w.frozen? y := fun y => by simp
  refine ⟨?_, ?_, ?_, ?_, ?_, World.cell?_setCell_same' _ _ _ (by rw [h.c5]; rfl), (hs _).trans h.f4, (hs _).trans h.f5, by simpa using h.lt, by obtain ⟨cs, T, h1⟩ := h.un; exact ⟨_, T, heap_setCell_same w x 5 cs T u h1⟩⟩
  · rw [World.cell?_setCell_other _ _ _ _ (by simp)]; exact h.c0
  · rw [World.cell?_setCell_other _ _ _ _ (by simp)]; exact h.c1
  · rw [World.cell?_setCell_other _ _ _ _ (by simp)]; exact h.c2
  · rw [World.cell?_setCell_other _ _ _ _ (by simp)]; exact h.c3
  · rw [World.cell?_setCell_other _ _ _ _ (by simp)]; exact h.c4
theorem Tryz.more_yes {w : World} {b : Nat} {t : ByteArray} {p o q : Nat} {x : UInt8} {had : Nat} (hm : more t p x had = .ok (true, q)) (h : Rd w b t p o) (ho1 : 1 ≤ o) (hh : had ≤ 1000) :
    Calls Tryz.prog 128 #[.pointer (some ⟨b, 0, none⟩), .int .u8 x.toNat, .int .i64 had] w fun en w' => en = .returned (.bool true) ∧ q < t.size ∧ Rd w' b t q o ∧ Wk b w w' := by
  refine (Tryz.more_any h ho1 x had hh).mono fun e w' hq => ?_
  rcases hq with ⟨q', h1, _⟩ | ⟨q', h1, h2, h3, h4, h5⟩ | ⟨p', e', h1, _⟩
  · rw [hm] at h1; injection h1 with h1; injection h1 with h1; cases h1
  · rw [hm] at h1; injection h1 with h1; injection h1 with _ h1; subst h1; exact ⟨h2, h3, h4, h5⟩
  · rw [hm] at h1; cases h1
theorem Tryz.more_end {w : World} {b : Nat} {t : ByteArray} {p o q : Nat} {x : UInt8} {had : Nat} (hm : more t p x had = .ok (false, q)) (h : Rd w b t p o) (ho1 : 1 ≤ o) (hh : had ≤ 1000) :
    Calls Tryz.prog 128 #[.pointer (some ⟨b, 0, none⟩), .int .u8 x.toNat, .int .i64 had] w fun en w' => en = .returned (.bool false) ∧ Rd w' b t q (o - 1) ∧ Wk b w w' := by
  refine (Tryz.more_any h ho1 x had hh).mono fun e w' hq => ?_
  rcases hq with ⟨q', h1, h2, h3, h4⟩ | ⟨q', h1, _⟩ | ⟨p', e', h1, _⟩
  · rw [hm] at h1; injection h1 with h1; injection h1 with _ h1; subst h1; exact ⟨h2, h3, h4⟩
  · rw [hm] at h1; injection h1 with h1; injection h1 with h1; cases h1
  · rw [hm] at h1; cases h1
theorem Tryz.more_no {w : World} {b : Nat} {t : ByteArray} {p o p1 e1 : Nat} {x : UInt8} {had : Nat} (hm : more t p x had = .bad p1 e1) (h : Rd w b t p o) (ho1 : 1 ≤ o) (hh : had ≤ 1000) :
    Calls Tryz.prog 128 #[.pointer (some ⟨b, 0, none⟩), .int .u8 x.toNat, .int .i64 had] w fun en w' => Bad 88 p1 e1 en w' ∧ Wk b w w' := by
  refine (Tryz.more_any h ho1 x had hh).mono fun e w' hq => ?_
  rcases hq with ⟨q', h1, _⟩ | ⟨q', h1, _⟩ | ⟨p', e', h1, h2, h3⟩
  · rw [hm] at h1; cases h1
  · rw [hm] at h1; cases h1
  · rw [hm] at h1; injection h1 with ha hb; subst ha; subst hb; exact ⟨h2, h3⟩
theorem Jv.more_had {t : ByteArray} {p q : Nat} {x : UInt8} {had : Nat} (hm : more t p x had = .ok (true, q)) : had ≠ 64 := by
  rintro rfl
  unfold more at hm
  cases h1 : next t (blanks t p) with
  | bad a b => rw [h1] at hm; cases hm
  | ok c =>
    rw [h1] at hm; simp only [R.bind] at hm
    split at hm
    · injection hm with hm; injection hm with hm; cases hm
    · rw [if_neg (by decide)] at hm
      cases h2 : Go.Jv.take t (blanks t p) 44 with
      | bad a b => rw [h2] at hm; cases hm
      | ok q1 =>
        rw [h2] at hm; simp only at hm
        cases h3 : next t (blanks t q1) with
        | bad a b => rw [h3] at hm; cases hm
        | ok q2 => rw [h3] at hm; simp at hm
theorem Jv.Rd_heap {w w' : World} {b : Nat} {t : ByteArray} {p o : Nat} (h : Rd w b t p o) (hh : w'.heap = w.heap) : Rd w' b t p o :=
  Jv.rd_keep h (by rw [hh]) (by rw [hh]; exact Nat.le_refl _)
theorem Tryz.Tb_heap {w w' : World} (h : Tryz.Tb w) (hh : w'.heap = w.heap) : Tryz.Tb w' := ⟨by rw [hh]; exact h.size, fun w2 h2 => h.all w2 fun k hk => by rw [h2 k hk, hh]⟩
theorem Jv.wk_from {b : Nat} {w W w' : World} (h : Wk b W w') (h1 : W.heap = w.heap) (h2 : W.os = w.os) (h3 : W.tape = w.tape) (h4 : W.output = w.output) : Wk b w w' :=
  ⟨h.os.trans h2, h.tape.trans h3, h.output.trans h4, by rw [← h1]; exact h.size, fun k hk hb => (h.block k (by rw [h1]; exact hk) hb).trans (by rw [h1])⟩
/-- The state of 'list' between two items. -/
structure Tryz.Li (d : Nat) (b : Nat) (t : ByteArray) (o : Nat) (w : World) (x : Nat) (k q : Nat) (had : List V) (sv : Value) (xs : List Nat) (wr : World) : Prop where
  hk : k + had.length = 66
  h64 : had.length ≤ 64
  vb : Jv.Vb wr x 4 false 0 emp Jv.nilS sv
  row : wr.ownsRow (x + 1) 24 1 sv xs.length (Jv.ptrs xs)
  trs : Tryz.Trs wr (fun g => x + 1 ≤ g ∧ sv.ownBlock ≠ some g) had xs
  rd : Rd wr b t q (o + 1)
  wk : Wk b w wr
  tb : Tryz.Tb wr
  hx : w.heap.size ≤ x
theorem Tryz.Li_next {d b : Nat} {t : ByteArray} {o : Nat} {w : World} {x gk k q q2 : Nat} {had : List V} {sv : Value} {xs : List Nat} {wr w3 w4 w5 : World} {v : V} {y g cap : Nat}
    (hL : Tryz.Li d b t o w x gk q had sv xs wr) (hK : gk = k + 1) (hn64 : had.length ≠ 64) (hvb : Jv.Vb w3 x 4 false 0 emp Jv.nilS sv) (hrow : w3.ownsRow (x + 1) 24 1 sv xs.length (Jv.ptrs xs))
    (htrs : Tryz.Trs w3 (fun g => x + 1 ≤ g ∧ sv.ownBlock ≠ some g) had xs) (hwk : Wk b w w3) (htb : Tryz.Tb w3) (htr : Tryz.Tr w4 (fun g => w3.heap.size ≤ g) v y) (hR4 : Rd w4 b t q2 (o + 1)) (hk4 : Wk b w3 w4)
    (hown5 : w5.ownsRow (x + 1) 24 1 (.slice (some ⟨g, 0, none⟩) (xs.length + 1) cap) (xs.length + 1) (Jv.ptrs xs ++ [.pointer (some ⟨y, 0, none⟩)]))
    (hgrow : (w4.alloc (.cells #[.pointer (some ⟨y, 0, none⟩)] 24)).grownBy w5 sv.ownBlock) (hat : sv.ownBlock = some g ∨ g = w4.heap.size + 1) (hbx : b < x) (hbg : 8 ≤ b) :
    Tryz.Li d b t o w x k q2 (had ++ [v]) (.slice (some ⟨g, 0, none⟩) (xs.length + 1) cap) (xs ++ [y]) (w5.setCell ⟨x, 5, none⟩ (.slice (some ⟨g, 0, none⟩) (xs.length + 1) cap)) := by
  have hx3 := hvb.lt
  have h34 := hk4.size
  have hlt := fun k hk => Jv.row_lt hrow k hk
  have hb3 : b < w3.heap.size := by omega
  -- what is kept from w4 on
  have k5 : ∀ m, m < w4.heap.size → sv.ownBlock ≠ some m → w5.heap[m]? = w4.heap[m]? := fun m hm hne =>
    (hgrow.block m (by simp; omega) (Ne.symm hne)).trans (Below.heap_alloc w4 _ m hm)
  have k6 : ∀ m u, m ≠ x → (w5.setCell ⟨x, 5, none⟩ u).heap[m]? = w5.heap[m]? := fun m u hm => Below.heap_setCell w5 ⟨x, 5, none⟩ u m hm
  have hs5 : w4.heap.size ≤ w5.heap.size := by have := hgrow.size; simp at this; omega
  have hnx : sv.ownBlock ≠ some x := fun e => by have := (hlt x e).1; omega
  have hnb : sv.ownBlock ≠ some b := fun e => by have := (hlt b e).1; omega
  have hl := hL.hk
  have h64 := hL.h64
  refine ⟨by rw [List.length_append]; simp; omega, by rw [List.length_append]; simp; omega, ?_, ?_, ?_, ?_, ?_, ?_, hL.hx⟩
  · have e : w5.heap[x]? = w3.heap[x]? := (k5 x (by omega) hnx).trans (hk4.block x hx3 (by omega))
    exact (hvb.keep e (by omega)).set5 _
  · have e1 : (xs ++ [y]).length = xs.length + 1 := by simp
    have e2 : Jv.ptrs (xs ++ [y]) = Jv.ptrs xs ++ [.pointer (some ⟨y, 0, none⟩)] := by simp [Jv.ptrs]
    rw [e1, e2]
    exact Jv.row_kept hown5 fun m h1 _ => k6 m _ (by omega)
  · have hold : Tryz.Trs (w5.setCell ⟨x, 5, none⟩ (.slice (some ⟨g, 0, none⟩) (xs.length + 1) cap)) (fun m => x + 1 ≤ m ∧ Value.ownBlock (.slice (some ⟨g, 0, none⟩) (xs.length + 1) cap) ≠ some m) had xs := by
      have h1 : Tryz.Trs w3 (fun m => (x + 1 ≤ m ∧ sv.ownBlock ≠ some m) ∧ m < w3.heap.size) had xs := Tryz.Trs_mono (fun m hm hlt => ⟨hm, hlt⟩) had xs htrs
      have h2 : Tryz.Trs (w5.setCell ⟨x, 5, none⟩ (.slice (some ⟨g, 0, none⟩) (xs.length + 1) cap)) (fun m => (x + 1 ≤ m ∧ sv.ownBlock ≠ some m) ∧ m < w3.heap.size) had xs := Tryz.Trs_keep (fun m hm _ => by
        obtain ⟨⟨ha, hb⟩, hc⟩ := hm
        exact ((k6 m _ (by omega)).trans (k5 m (by omega) hb)).trans (hk4.block m hc (by omega))) (by simp; omega) had xs h1
      refine Tryz.Trs_mono (fun m hm _ => ?_) had xs h2
      obtain ⟨⟨ha, hb⟩, hc⟩ := hm
      refine ⟨ha, fun e => ?_⟩
      simp [Value.ownBlock] at e
      subst e
      rcases hat with h | h
      · exact hb h
      · omega
    refine Tryz.Trs_snoc ?_ had xs hold
    have h1 : Tryz.Tr w4 (fun m => w3.heap.size ≤ m ∧ m < w4.heap.size) v y := Tryz.Tr_mono (fun m hm hlt => ⟨hm, hlt⟩) v y htr
    have h2 : Tryz.Tr (w5.setCell ⟨x, 5, none⟩ (.slice (some ⟨g, 0, none⟩) (xs.length + 1) cap)) (fun m => w3.heap.size ≤ m ∧ m < w4.heap.size) v y := Tryz.Tr_keep (fun m hm _ =>
      (k6 m _ (by have := hm.1; omega)).trans (k5 m hm.2 (fun e => by have := (hlt m e).2; have := hm.1; omega))) (by simp; omega) v y h1
    refine Tryz.Tr_mono (fun m hm _ => ?_) v y h2
    refine ⟨by have := hm.1; omega, fun e => ?_⟩
    simp [Value.ownBlock] at e
    subst e
    rcases hat with h | h
    · have := (hlt _ h).2; have := hm.1; omega
    · have := hm.2; omega
  · have e : w5.heap[b]? = w4.heap[b]? := k5 b (by omega) hnb
    exact Jv.rd_keep (Jv.rd_keep hR4 e hs5) (k6 b _ (by omega)) (by simp)
  · refine ⟨?_, ?_, ?_, ?_, fun m hm hb => ?_⟩
    · exact (hgrow.os.trans hk4.os).trans hwk.os
    · exact (hgrow.tape.trans hk4.tape).trans hwk.tape
    · exact (hgrow.output.trans hk4.output).trans hwk.output
    · have := hwk.size; simp; omega
    · have h1 := hwk.size
      have h2 := hL.hx
      exact (((k6 m _ (by omega)).trans (k5 m (by omega) (fun e => by have := (hlt m e).1; omega))).trans (hk4.block m (by omega) hb)).trans (hwk.block m hm hb)
  · have h8 := htb.size
    exact ⟨by simp; omega, fun w' hw' => htb.all w' fun m hm => (((hw' m hm).trans (k6 m _ (by omega))).trans (k5 m (by omega) (fun e => by have := (hlt m e).1; omega))).trans (hk4.block m (by omega) (by omega))⟩
set_option maxHeartbeats 4000000 in
set_option maxRecDepth 10000 in
theorem Tryz.list_any {d : Nat} (hv : Tryz.ValOk d) {w : World} {b : Nat} {t : ByteArray} {p o : Nat} (h : Rd w b t p o) (hT : Tryz.Tb w) (hbg : 8 ≤ b) (hod : o + (d + 1) = 10) (hlt : p < t.size) :
    Calls Tryz.prog 108 #[.pointer (some ⟨b, 0, none⟩)] w fun en w' =>
      (∃ v q, listFrom t (value t d) 66 (p + 1) [] = .ok (v, q) ∧ Tryz.Vok b t o w v q en w') ∨ (∃ p' e, listFrom t (value t d) 66 (p + 1) [] = .bad p' e ∧ Bad 88 p' e en w' ∧ Wk b w w') := by
  have hbeg := Tryz.begin_ok h hlt (by omega)
  have hb0 := h.hb
  clear h
  obtain ⟨i0, hi0, hz0, hz1, hz2⟩ := info_parts Tryz.info_ptr
  go_enter Tryz.func108, Tryz.ntmps108
  go_wp2_with (first | (go_at_call 127; refine hbeg.mono ?_; rintro e1 w1 ⟨rfl, hR1, hW1⟩) | fail)
  go_loopg [] 66 (fun k wr => ∃ q had sv xs, listFrom t (value t d) k q had = listFrom t (value t d) 66 (p + 1) [] ∧ Tryz.Li d b t o w w1.heap.size k q had sv xs wr)
  case atStart =>
    refine ⟨p + 1, [], Jv.nilS, [], rfl, rfl, by simp, Jv.Vb.new w1 4 false 0 emp Jv.nilS Jv.nilS _, ⟨rfl, .inl ⟨rfl, rfl⟩⟩, rfl, hR1.below ((Below.refl _ _).alloc (Nat.le_refl _) _), hW1.below ((Below.refl w1.heap.size _).alloc (Nat.le_refl _) _) hW1.size, ?_, hW1.size⟩
    exact (hT.wk hW1 hbg).below ((Below.refl w1.heap.size _).alloc (Nat.le_refl _) _) (hT.wk hW1 hbg).size
  case round =>
    obtain ⟨q, had, sv, xs, he, hL⟩ := hrel
    obtain ⟨ag, cg, hsv⟩ := Jv.row_form hL.row
    have hxl : xs.length = had.length := Tryz.Trs_len had xs hL.trs
    have hlen : ∀ w', Jv.Vb w' w1.heap.size 4 false 0 emp Jv.nilS sv → Calls Tryz.prog 38 #[.pointer (some ⟨w1.heap.size, 0, none⟩)] w' fun e w'' => e = .returned (.int .i64 had.length) ∧ w'' = w' := by
      intro w' hvb
      rw [hsv, hxl] at hvb
      exact Tryz.len_any hvb
    have HE : Hid (listFrom t (value t d) gk q had = listFrom t (value t d) 66 (p + 1) []) := he
    have HL : Hid (Tryz.Li d b t o w w1.heap.size gk q had sv xs wr) := hL
    have hle := hlen wr hL.vb
    have h64 := hL.h64
    obtain ⟨k, hk⟩ : ∃ k, gk = k + 1 := ⟨gk - 1, by have := hL.hk; omega⟩
    have HS : Hid (∃ a c, sv = .slice a xs.length c) := ⟨ag, cg, hsv⟩
    clear he hlen hsv hxl hbeg hR1
    have hstep : listFrom t (value t d) gk q had = (more t q 93 had.length).bind fun m => if m.1 = false then .ok (.list had, m.2) else (value t d m.2).bind fun x => listFrom t (value t d) k x.2 (had ++ [x.1]) := by rw [hk]; rfl
    have HK : Hid (gk = k + 1) := hk
    clear hk
    cases hm : more t q 93 had.length with
    | bad p1 e1 =>
      have HX : Hid (listFrom t (value t d) 66 (p + 1) [] = .bad p1 e1) := HE.out.symm.trans (by rw [hstep, hm]; rfl)
      have hmo : Calls Tryz.prog 128 #[.pointer (some ⟨b, 0, none⟩), .int .u8 93, .int .i64 had.length] wr fun en w' => Bad 88 p1 e1 en w' ∧ Wk b wr w' := Tryz.more_no (x := 93) hm hL.rd (by omega) (by omega)
      clear hm hstep hL
      go_wp2_with (first | (go_at_call 38; refine hle.mono ?_; rintro e2 w2 ⟨rfl, rfl⟩) | (go_at_call 128; refine hmo.mono ?_; rintro e3 w3 ⟨⟨y, hy, rfl, hy0, hy1⟩, hk3⟩) | fail)
      exact ⟨rfl, Or.inr ⟨_, _, HX.out, ⟨y, hy, rfl, hy0, hy1⟩, HL.out.wk.trans hk3⟩⟩
    | ok m =>
      obtain ⟨mb, q1⟩ := m
      cases mb with
      | false =>
        have HX : Hid (listFrom t (value t d) 66 (p + 1) [] = .ok (.list had, q1)) := HE.out.symm.trans (by rw [hstep, hm]; rfl)
        have hmo : Calls Tryz.prog 128 #[.pointer (some ⟨b, 0, none⟩), .int .u8 93, .int .i64 had.length] wr fun en w' => en = .returned (.bool false) ∧ Rd w' b t q1 (o + 1 - 1) ∧ Wk b wr w' := Tryz.more_end (x := 93) hm hL.rd (by omega) (by omega)
        clear hm hstep hL
        go_wp2_with (first | (go_at_call 38; refine hle.mono ?_; rintro e2 w2 ⟨rfl, rfl⟩) | (go_at_call 128; refine hmo.mono ?_; rintro e3 w3 ⟨rfl, hR3, hW3⟩) | fail)
        go_ret
        have hL := HL.out
        have hbx : b < w1.heap.size := Nat.lt_of_lt_of_le hb0 hL.hx
        refine Or.inl ⟨.list had, q1, HX.out, w1.heap.size, rfl, ⟨hL.hx, sv, xs, Jv.vb_wk hL.vb hW3 (by omega), ?_, ?_⟩, hR3, hL.wk.trans hW3⟩
        · have hr := Jv.row_wk hL.row hW3 (by omega)
          refine ⟨?_, fun k hk => ?_⟩
          · have hl : (Jv.ptrs xs).length = xs.length := by simp [Jv.ptrs]
            rw [hl]
            exact Jv.row_move hr fun g _ => ⟨Nat.zero_le _, rfl⟩
          · have h1 := (Jv.row_lt hr k hk).1
            have h2 := hL.hx
            show w.heap.size ≤ k
            omega
        · refine Tryz.Trs_mono (fun g hg _ => ?_) had xs (Tryz.trs_wk hL.trs hW3 (fun h => by have := h.1; omega))
          have h1 := hg.1
          have h2 := hL.hx
          show w.heap.size ≤ g
          omega
      | true =>
        have hmo : Calls Tryz.prog 128 #[.pointer (some ⟨b, 0, none⟩), .int .u8 93, .int .i64 had.length] wr fun en w' => en = .returned (.bool true) ∧ q1 < t.size ∧ Rd w' b t q1 (o + 1) ∧ Wk b wr w' := Tryz.more_yes (x := 93) hm hL.rd (by omega) (by omega)
        have hn64 := Jv.more_had hm
        have HST : Hid (listFrom t (value t d) 66 (p + 1) [] = (value t d q1).bind fun x => listFrom t (value t d) k x.2 (had ++ [x.1])) := HE.out.symm.trans (by rw [hstep, hm]; rfl)
        clear hm hstep hL
        go_wp2_with (first | (go_at_call 38; refine hle.mono ?_; rintro e2 w2 ⟨rfl, rfl⟩) | (go_at_call 128; refine hmo.mono ?_; rintro e3 w3 ⟨rfl, hq1, hR3, hW3⟩) | fail)
        have hL := HL.out
        have hbx : b < w1.heap.size := Nat.lt_of_lt_of_le hb0 hL.hx
        have hvb := Jv.vb_wk hL.vb hW3 (by omega)
        have hrow := Jv.row_wk hL.row hW3 (by omega : b < w1.heap.size + 1)
        have htrs := Tryz.trs_wk hL.trs hW3 (fun h => by have := h.1; omega)
        have htb := hL.tb.wk hW3 hbg
        have hwk := hL.wk.trans hW3
        have HR3 : Hid (Rd w3 b t q1 (o + 1)) := hR3
        have HVB : Hid (Jv.Vb w3 w1.heap.size 4 false 0 emp Jv.nilS sv) := hvb
        have HROW : Hid (w3.ownsRow (w1.heap.size + 1) 24 1 sv xs.length (Jv.ptrs xs)) := hrow
        have HTRS : Hid (Tryz.Trs w3 (fun g => w1.heap.size + 1 ≤ g ∧ sv.ownBlock ≠ some g) had xs) := htrs
        have hc5 := hvb.c5
        have hf5 := hvb.f5
        have hx3 := hvb.lt
        have hhx := hL.hx
        have hxl : xs.length = had.length := Tryz.Trs_len had xs htrs
        have HXL : Hid (xs.length = had.length) := hxl
        clear hL hvb hrow htrs hR3 hle hmo hxl
        cases hva : value t d q1 with
        | bad p1 e1 =>
          have HX : Hid (listFrom t (value t d) 66 (p + 1) [] = .bad p1 e1) := HST.out.trans (by rw [hva]; rfl)
          have hcal : ∀ W : World, W.heap = w3.heap → W.os = w3.os → W.tape = w3.tape → W.output = w3.output → Calls Tryz.prog 77 #[.pointer (some ⟨b, 0, none⟩)] W fun en w' => Bad 88 p1 e1 en w' ∧ Wk b w3 w' := fun W h1 h2 h3 h4 =>
            (Tryz.val_no hv (Jv.Rd_heap HR3.out h1) (Tryz.Tb_heap htb h1) hbg (by omega) hva).mono fun _ _ hq => ⟨hq.1, Jv.wk_from hq.2 h1 h2 h3 h4⟩
          clear hva
          go_region_dies
          all_goals (refine (hcal _ (by rfl) (by rfl) (by rfl) (by rfl)).mono ?_; rintro e4 w4 ⟨⟨y, hy, rfl, hy0, hy1⟩, hk3⟩; exact ⟨rfl, Or.inr ⟨_, _, HX.out, ⟨y, hy, rfl, hy0, hy1⟩, hwk.trans hk3⟩⟩)
        | ok vq =>
          obtain ⟨v, q2⟩ := vq
          have HX : Hid (listFrom t (value t d) k q2 (had ++ [v]) = listFrom t (value t d) 66 (p + 1) []) := (HST.out.trans (by rw [hva]; rfl)).symm
          have hcal : ∀ W : World, W.heap = w3.heap → W.os = w3.os → W.tape = w3.tape → W.output = w3.output → Calls Tryz.prog 77 #[.pointer (some ⟨b, 0, none⟩)] W fun en w' => ∃ y, en = .returned (.pointer (some ⟨y, 0, none⟩)) ∧ Tryz.Tr w' (fun g => w3.heap.size ≤ g) v y ∧ Rd w' b t q2 (o + 1) ∧ Wk b w3 w' := fun W h1 h2 h3 h4 =>
            (Tryz.val_yes hv (Jv.Rd_heap HR3.out h1) (Tryz.Tb_heap htb h1) hbg (by omega) hva).mono fun _ _ ⟨y, hq1, hq2, hq3, hq4⟩ => ⟨y, hq1, by rw [← h1]; exact hq2, hq3, Jv.wk_from hq4 h1 h2 h3 h4⟩
          clear hva
          have hx64 : xs.length ≤ 64 := by have := HXL.out; omega
          have hne : sv.ownBlock ≠ some w1.heap.size := fun e => by have := Jv.row_block HROW.out _ e; omega
          go_region_law (first
              | (go_simp; refine (hcal _ (by rfl) (by rfl) (by rfl) (by rfl)).mono ?_; rintro e4 w4 ⟨y, rfl, htr, hR4, hk4⟩; have hx4 := Nat.lt_of_lt_of_le hx3 hk4.size; have hc4 := (hk4.cell (p := ⟨w1.heap.size, 5, none⟩) hx3 (by show w1.heap.size ≠ b; omega)).trans hc5)
              | (refine step_append_lies _ (by rfl) _ _ _ (by rfl) (w1.heap.size + 1) 24 i0 _ 1 8 Tryz.underlying43 hi0 hz0 hz1 hz2 rfl (by omega) sv xs.length (Jv.ptrs xs) (by rfl) ((Jv.row_wk HROW.out hk4 (by omega)).alloc _)
                  ⟨w4.heap.size, 0, none⟩ 1 1 [.pointer (some ⟨y, 0, none⟩)] (by rfl) (by rfl) (World.news_of_block (cs := #[.pointer (some ⟨y, 0, none⟩)]) (t := 24) (fr := (0, 0)) (heap_alloc_new w4 _)) (by simp [Value.oneCell'])
                  (by omega) (by unfold maxLen; omega) (by omega) (by simp; omega) (w4.heap.size + 1) (by simp) ?_; intro g cap w5 hown5 hgrow hat hlt5; have hfz : w5.frozen? ⟨w1.heap.size, 5, none⟩ = false := (hgrow.frozen_far _ (by simp; omega) (Ne.symm hne)).trans ((((Below.refl w4.heap.size w4).alloc (Nat.le_refl _) _).frozen (p := ⟨w1.heap.size, 5, none⟩) hx4).trans ((hk4.frozen (p := ⟨w1.heap.size, 5, none⟩) hx3 (by show w1.heap.size ≠ b; omega)).trans hf5)); have hc55 : w5.cell? ⟨w1.heap.size, 5, none⟩ = some sv := (hgrow.cell_far _ (by simp; omega) (Ne.symm hne)).trans ((((Below.refl w4.heap.size w4).alloc (Nat.le_refl _) _).cell (p := ⟨w1.heap.size, 5, none⟩) hx4).trans hc4))
              | fail)
          all_goals
            go_wp2
            go_roundg k
            case measure => have := HK.out; omega
            case rel => exact ⟨q2, had ++ [v], _, xs ++ [y], HX.out, Tryz.Li_next HL.out HK.out hn64 HVB.out HROW.out HTRS.out hwk htb htr hR4 hk4 hown5 hgrow hat hbx hbg⟩
end Go.Proofs
namespace Go.Proofs
open Go.RowKit Go.Jv
theorem Jv.bsGo_congr {f g : Nat → Bool} (h : ∀ t, f t = g t) (n lo hi : Nat) : Lib.bsGo f n lo hi = Lib.bsGo g n lo hi := by
  have : f = g := funext h
  rw [this]
theorem Jv.bsGo_le (f : Nat → Bool) : ∀ (n lo hi : Nat), lo ≤ hi → Lib.bsGo f n lo hi ≤ hi
  | 0, lo, hi, h => h
  | n + 1, lo, hi, h => by
    rw [Lib.bsGo]
    split
    · split
      · exact Jv.bsGo_le f n _ _ (by omega)
      · have := Jv.bsGo_le f n lo ((lo + hi) / 2) (by omega); omega
    · exact h
theorem Jv.place_le (ks : List ByteArray) (k : ByteArray) : place ks k ≤ ks.length := Jv.bsGo_le _ _ _ _ (Nat.zero_le _)
theorem Tryz.search_any {w : World} {lo : Nat} {kv : Value} {ks : List ByteArray} (h : w.ownsRow lo 9 1 kv ks.length (ks.map Value.string)) (hk : ks.length ≤ 64) (x : ByteArray) :
    Calls Tryz.prog 68 #[kv, .string x] w fun e w' => e = .returned (.tuple #[.int .i64 (place ks x : Nat), .bool (decide (ks[place ks x]? = some x))]) ∧ ∃ q, w' = w.drewN q := by
  rcases h.2 with ⟨rfl, h0⟩ | ⟨g, cap, cur, rfl, hBg, hg, hnc, hcm, hcz, htk⟩
  · have e : ks = [] := List.eq_nil_of_length_eq_zero h0
    subst e
    refine (Any2.slices_BinarySearch_string_empty Tryz.laysB26 none 0 x w).mono ?_
    rintro e w' ⟨rfl, hw⟩
    refine ⟨?_, ?_⟩
    · rfl
    · first | exact hw | exact ⟨0, hw⟩
  · simp only [Nat.mul_one] at htk
    have hc : ∀ j, j < ks.length → w.cell? ⟨g, 0 + j, none⟩ = some (.string ((fun t => ks.getD t emp) j)) := fun j hj => by
      rw [Nat.zero_add, cell_of_row _ _ j _ _ _ hg, ← Array.getElem?_toList]
      have h1 : (ks.map Value.string)[j]? = some (.string (ks.getD j emp)) := by
        rw [List.getElem?_map, List.getElem?_eq_getElem hj]
        simp [List.getD_eq_getElem?_getD, hj]
      rw [← htk, List.getElem?_take, if_pos (by simpa using hj)] at h1
      exact h1
    have hp : Lib.bsGo (fun t => Op.bytesLess ((fun t => ks.getD t emp) t).toList x.toList) ks.length 0 ks.length = place ks x := by
      unfold place
      exact Jv.bsGo_congr (fun t => by rw [ByteArray.toList_eq, ByteArray.toList_eq]) _ _ _
    refine (Any2.slices_BinarySearch_string Tryz.laysB26 g 0 ks.length cap (fun t => ks.getD t emp) x w (by omega) hc).mono ?_
    rintro e w' ⟨rfl, hw⟩
    refine ⟨?_, hw⟩
    rw [hp]
    congr 6
    rw [decide_eq_decide]
    constructor
    · rintro ⟨h1, h2⟩
      rw [List.getElem?_eq_getElem h1]
      simp [List.getD_eq_getElem?_getD, h1] at h2
      rw [h2]
    · intro h1
      have h2 := (List.getElem?_eq_some_iff.1 h1).1
      refine ⟨h2, ?_⟩
      show ks.getD _ _ = x
      rw [List.getD_eq_getElem?_getD, h1]; rfl
set_option maxHeartbeats 4000000 in
theorem Tryz.key_any {w : World} {b : Nat} {t : ByteArray} {p o lo : Nat} {kv : Value} {ks : List ByteArray} (h : Rd w b t p o) (hT : Tryz.Tb w) (hbg : 8 ≤ b) (hrow : w.ownsRow lo 9 1 kv ks.length (ks.map Value.string)) (hlo : b < lo) (hks : ks.length ≤ 64) :
    Calls Tryz.prog 129 #[.pointer (some ⟨b, 0, none⟩), kv] w fun en w' =>
      (∃ k q, key t p ks = .ok (k, q) ∧ en = .returned (.tuple #[.string k, .int .i64 (place ks k : Nat)]) ∧ Rd w' b t q o ∧ Wk b w w') ∨ (∃ p' e, key t p ks = .bad p' e ∧ Bad 88 p' e en w' ∧ Wk b w w') := by
  have hp := h.hp
  have ht := h.ht
  have HROW : Hid (w.ownsRow lo 9 1 kv ks.length (ks.map Value.string)) := hrow
  clear hrow
  by_cases hlt : p < t.size
  · have hnn := Jv.next_at hlt
    have hnx := Tryz.next_ok h hlt
    have HR : Hid (Rd w b t p o) := h
    obtain ⟨c0, c1, c2, f0, f1, f2, hb, -, -, -⟩ := h
    by_cases hc : t.get! p = 34
    · rw [hc] at hnn hnx
      have hnx' : Calls Tryz.prog 102 #[.pointer (some ⟨b, 0, none⟩)] w fun en w' => en = .returned (.int .u8 34) ∧ ∃ n, w' = w.drewN n := hnx
      have hK : key t p ks = (Go.Jv.quoted t p).bind fun x => if ks[place ks x.1]? = some x.1 then .bad p eTwice else (Go.Jv.take t (blanks t x.2) 58).bind fun q => .ok (x.1, blanks t q) := by
        unfold key; rw [hnn]; simp [R.bind]
      have HK : Hid (key t p ks = _) := hK
      have hqu := fun n => Tryz.quoted_any (HR.out.drewN n) (hT.drewN n) hbg
      clear hK hnn hnx hc
      go_enter Tryz.func129, Tryz.ntmps129
      go_wp2_with (first | (go_at_call 102; refine hnx'.mono ?_; rintro e1 w1 ⟨rfl, n, rfl⟩) | fail)
      refine (hqu _).mono ?_
      rintro e3 w3 (⟨s, q, hq, rfl, hR3, hW3⟩ | ⟨p1, e1, hq, ⟨y, hy, rfl, hy0, hy1⟩, hk3⟩)
      · have hW3' : Wk b w w3 := Jv.wk_from hW3 rfl rfl rfl rfl
        have hrow3 := Jv.row_wk HROW.out hW3' hlo
        have hse := Tryz.search_any hrow3 hks s
        have HK2 : Hid (key t p ks = if ks[place ks s]? = some s then .bad p eTwice else (Go.Jv.take t (blanks t q) 58).bind fun r => .ok (s, blanks t r)) := HK.out.trans (by rw [hq]; rfl)
        have HR3 : Hid (Rd w3 b t q o) := hR3
        have hb3 := hR3.hb
        clear HK hq hR3
        by_cases htw : ks[place ks s]? = some s
        · have HX : Hid (key t p ks = .bad p eTwice) := HK2.out.trans (if_pos htw)
          rw [decide_eq_true htw] at hse
          clear htw HK2
          go_wp2_with (first | (go_at_call 68; refine hse.mono ?_; rintro e4 w4 ⟨rfl, m, rfl⟩) | (go_at_call 53; refine (Tryz.fault_any _ _ _).mono ?_; rintro e9 w9 ⟨rfl, rfl⟩) | fail)
          have hq := Jv.bad_new (T := 88) (U := 100) (n := m) (p := p) (e := 24) hb3
          exact ⟨rfl, Or.inr ⟨_, _, HX.out, hq.1, hW3'.trans hq.2⟩⟩
        · have HX : Hid (key t p ks = (Go.Jv.take t (blanks t q) 58).bind fun r => .ok (s, blanks t r)) := HK2.out.trans (if_neg htw)
          rw [decide_eq_false htw] at hse
          clear htw HK2
          go_wp2_with (first | (go_at_call 68; refine hse.mono ?_; rintro e4 w4 ⟨rfl, m, rfl⟩) | fail)
          refine (Tryz.blanks_any (HR3.out.drewN m)).mono ?_
          rintro e5 w5 ⟨rfl, hR5, hW5⟩
          have hW5' : Wk b w w5 := hW3'.trans (Jv.wk_from hW5 rfl rfl rfl rfl)
          have hle := Jv.blanks_le t q HR3.out.hp
          by_cases hcol : blanks t q < t.size ∧ t.get! (blanks t q) = 58
          · have htk : Calls Tryz.prog 123 #[.pointer (some ⟨b, 0, none⟩), .int .u8 58] w5 fun en w' => en = .returned (.tuple #[]) ∧ Rd w' b t (blanks t q + 1) o ∧ Wk b w5 w' := Tryz.take_ok (c := 58) hR5 hcol.1 hcol.2
            have HY : Hid (key t p ks = .ok (s, blanks t (blanks t q + 1))) := HX.out.trans (by rw [Jv.take_at hcol.1 hcol.2]; rfl)
            clear HX hcol hle hR5
            go_wp2_with (first | (go_at_call 123; refine htk.mono ?_; rintro e6 w6 ⟨rfl, hR6, hW6⟩) | fail)
            refine (Tryz.blanks_any hR6).mono ?_
            rintro e7 w7 ⟨rfl, hR7, hW7⟩
            go_wp2
            go_ret2
            exact Or.inl ⟨s, _, HY.out, rfl, hR7, (hW5'.trans hW6).trans hW7⟩
          · have HY : Hid (key t p ks = .bad (blanks t q) eSyntax) := HX.out.trans (by rw [Jv.take_not hcol]; rfl)
            have htk : Calls Tryz.prog 123 #[.pointer (some ⟨b, 0, none⟩), .int .u8 58] w5 fun en w' => Bad 88 (blanks t q) eSyntax en w' ∧ Wk b w5 w' := by
              by_cases hl : blanks t q < t.size
              · exact Tryz.take_other (c := 58) hR5 hl (fun h => hcol ⟨hl, h⟩)
              · have hs : blanks t q = t.size := by omega
                rw [hs] at hR5 ⊢
                exact Tryz.take_end (c := 58) hR5
            clear HX hcol hle hR5
            go_wp2_with (first | (go_at_call 123; refine htk.mono ?_; rintro e6 w6 ⟨⟨y, hy, rfl, hy0, hy1⟩, hk3⟩) | fail)
            exact ⟨rfl, Or.inr ⟨_, _, HY.out, ⟨y, hy, rfl, hy0, hy1⟩, hW5'.trans hk3⟩⟩
      · exact ⟨rfl, Or.inr ⟨_, _, HK.out.trans (by rw [hq]; rfl), ⟨y, hy, rfl, hy0, hy1⟩, Jv.wk_from hk3 rfl rfl rfl rfl⟩⟩
    · have hcn : ¬ ((t.get! p).toNat : Int) = 34 := Jv.u8_ne hc
      have hK : key t p ks = .bad p eSyntax := by unfold key; rw [hnn]; simp only [R.bind]; rw [if_pos hc]
      have HX : Hid (key t p ks = .bad p eSyntax) := hK
      generalize t.get! p = c at *
      clear hK hnn hc
      go_enter Tryz.func129, Tryz.ntmps129
      go_wp2_with (first | (go_at_call 102; refine hnx.mono ?_; rintro e1 w1 ⟨rfl, n, rfl⟩) | (go_at_call 53; refine (Tryz.fault_any _ _ _).mono ?_; rintro e9 w9 ⟨rfl, rfl⟩) | fail)
      have hq := Jv.bad_new (T := 88) (U := 100) (n := n) (p := p) (e := 20) hb
      exact ⟨rfl, Or.inr ⟨_, _, HX.out, hq.1, hq.2⟩⟩
  · obtain rfl : p = t.size := by omega
    have hK : key t t.size ks = .bad t.size eSyntax := by unfold key; rw [Jv.next_end hlt]; rfl
    have HX : Hid (key t t.size ks = .bad t.size eSyntax) := hK
    have hnx := Tryz.next_bad h
    obtain ⟨c0, c1, c2, f0, f1, f2, hb, -, -, -⟩ := h
    clear hK
    go_enter Tryz.func129, Tryz.ntmps129
    go_wp2_with (first | (go_at_call 102; refine hnx.mono ?_; rintro e1 w1 ⟨⟨y, hy, rfl, hy0, hy1⟩, hk3⟩) | fail)
    exact ⟨rfl, Or.inr ⟨_, _, HX.out, ⟨y, hy, rfl, hy0, hy1⟩, hk3⟩⟩
end Go.Proofs
namespace Go.Jv
open Go.RowKit
theorem heap_set {w : World} {b o : Nat} {v : Value} {cur : Array Value} {e : TypeId} {fz : Nat × Nat} (h : w.heap[b]? = some (.cells cur e fz)) : (w.setCell ⟨b, o, none⟩ v).heap[b]? = some (.cells (cur.setIfInBounds o v) e fz) := by
  unfold World.setCell
  simp [Array.getElem?_modify, h]
def over (cur : Array Value) (o : Nat) : List Value → Array Value
  | [] => cur
  | v :: r => over (cur.setIfInBounds o v) (o + 1) r
theorem heap_sets {b : Nat} {e : TypeId} {fz : Nat × Nat} : ∀ (vs : List Value) (o : Nat) (w : World) (cur : Array Value), w.heap[b]? = some (.cells cur e fz) → (w.setCells b o vs).heap[b]? = some (.cells (over cur o vs) e fz)
  | [], _, _, _, h => h
  | v :: r, o, w, cur, h => by
    rw [World.setCells, over]
    exact heap_sets r (o + 1) _ _ (heap_set h)
theorem over_size : ∀ (vs : List Value) (o : Nat) (cur : Array Value), (over cur o vs).size = cur.size
  | [], _, _ => rfl
  | v :: r, o, cur => by rw [over, over_size r]; simp
theorem over_get : ∀ (vs : List Value) (o : Nat) (cur : Array Value) (j : Nat), o + vs.length ≤ cur.size → (over cur o vs)[j]? = if o ≤ j ∧ j < o + vs.length then vs[j - o]? else cur[j]?
  | [], o, cur, j, _ => by rw [over, if_neg (by simp)]
  | v :: r, o, cur, j, h => by
    simp only [List.length_cons] at h
    rw [over, over_get r (o + 1) _ j (by simp; omega)]
    by_cases h1 : o + 1 ≤ j ∧ j < o + 1 + r.length
    · rw [if_pos h1, if_pos (by simp only [List.length_cons]; omega), show j - o = (j - (o + 1)) + 1 by omega]
      rfl
    · rw [if_neg h1]
      by_cases h2 : j = o
      · subst h2
        rw [if_pos (by simp only [List.length_cons]; omega)]
        simp [Array.getElem?_setIfInBounds]
        omega
      · rw [if_neg (by simp only [List.length_cons]; omega), Array.getElem?_setIfInBounds]
        rw [if_neg (by omega)]
theorem heap_sets_other {b k : Nat} (hk : k ≠ b) : ∀ (vs : List Value) (o : Nat) (w : World), (w.setCells b o vs).heap[k]? = w.heap[k]?
  | [], _, _ => rfl
  | v :: r, o, w => by
    rw [World.setCells, heap_sets_other hk r]
    exact Below.heap_setCell w ⟨b, o, none⟩ v k hk
theorem sets_size (b : Nat) : ∀ (vs : List Value) (o : Nat) (w : World), (w.setCells b o vs).heap.size = w.heap.size
  | [], _, _ => rfl
  | v :: r, o, w => by rw [World.setCells, sets_size b r]; simp
theorem sets_rest (b : Nat) : ∀ (vs : List Value) (o : Nat) (w : World), (w.setCells b o vs).os = w.os ∧ (w.setCells b o vs).tape = w.tape ∧ (w.setCells b o vs).output = w.output
  | [], _, _ => ⟨rfl, rfl, rfl⟩
  | v :: r, o, w => by rw [World.setCells]; exact sets_rest b r (o + 1) _
theorem insertAt_len {α : Type} (l : List α) (i : Nat) (x : α) : (insertAt l i x).length = l.length + 1 := by
  unfold insertAt
  simp [List.length_take, List.length_drop]
  omega
theorem insertAt_get {α : Type} (l : List α) (i : Nat) (x : α) (hi : i ≤ l.length) (j : Nat) : (insertAt l i x)[j]? = if j < i then l[j]? else if j = i then some x else l[j - 1]? := by
  unfold insertAt
  by_cases h1 : j < i
  · rw [if_pos h1, List.getElem?_append_left (by rw [List.length_take]; omega), List.getElem?_take, if_pos h1]
  · rw [if_neg h1, List.getElem?_append_right (by rw [List.length_take]; omega), List.length_take, Nat.min_eq_left hi]
    by_cases h2 : j = i
    · subst h2; simp
    · rw [if_neg h2, show j - i = (j - i - 1) + 1 by omega, List.getElem?_cons_succ, List.getElem?_drop]
      congr 1; omega
/-- The row behind both writings. -/
theorem ins_take {cur : Array Value} {xs : List Value} {i : Nat} {x : Value} (hi : i ≤ xs.length) (hs : xs.length + 1 ≤ cur.size) (hc : ∀ j, j < i → cur[j]? = xs[j]?) :
    (over (over cur (i + 1) (xs.drop i)) i [x]).toList.take (xs.length + 1) = insertAt xs i x := by
  apply List.ext_getElem?
  intro j
  rw [List.getElem?_take, insertAt_get xs i x hi]
  have hd : (xs.drop i).length = xs.length - i := List.length_drop
  by_cases hj : j < xs.length + 1
  · rw [if_pos hj, Array.getElem?_toList, over_get [x] i _ j (by rw [over_size]; simp; omega), over_get (xs.drop i) (i + 1) cur j (by omega)]
    simp only [List.length_cons, List.length_nil]
    by_cases h1 : j < i
    · rw [if_neg (by omega), if_neg (by omega), if_pos h1]; exact hc j h1
    · rw [if_neg h1]
      by_cases h2 : j = i
      · subst h2; rw [if_pos (by omega), if_pos rfl]; simp
      · rw [if_neg (by omega), if_pos (by omega), if_neg h2, List.getElem?_drop]
        congr 1; omega
  · rw [if_neg hj, if_neg (by omega), if_neg (by omega), List.getElem?_eq_none (by omega)]
theorem ins_take2 {cur : Array Value} {xs : List Value} {i : Nat} {x : Value} (hi : i ≤ xs.length) (hs : xs.length + 1 ≤ cur.size) (hc : ∀ j, j < i → cur[j]? = xs[j]?) :
    (over (over cur i [x]) (i + 1) (xs.drop i)).toList.take (xs.length + 1) = insertAt xs i x := by
  apply List.ext_getElem?
  intro j
  rw [List.getElem?_take, insertAt_get xs i x hi]
  have hd : (xs.drop i).length = xs.length - i := List.length_drop
  by_cases hj : j < xs.length + 1
  · rw [if_pos hj, Array.getElem?_toList, over_get (xs.drop i) (i + 1) _ j (by rw [over_size]; omega), over_get [x] i cur j (by simp; omega)]
    simp only [List.length_cons, List.length_nil]
    by_cases h1 : j < i
    · rw [if_neg (by omega), if_neg (by omega), if_pos h1]; exact hc j h1
    · rw [if_neg h1]
      by_cases h2 : j = i
      · subst h2; rw [if_neg (by omega), if_pos (by omega), if_pos rfl]; simp
      · rw [if_pos (by omega), if_neg h2, List.getElem?_drop]
        congr 1; omega
  · rw [if_neg hj, if_neg (by omega), if_neg (by omega), List.getElem?_eq_none (by omega)]
end Go.Jv
namespace Go.Proofs
open Go.RowKit Go.Jv
theorem Jv.cell_heap {w : World} {g : Nat} {cur : Array Value} {e : TypeId} (h : w.heap[g]? = some (.cells cur e (0, 0))) (j : Nat) : w.cell? ⟨g, j, none⟩ = cur[j]? := by
  exact cell_of_row _ _ j _ _ _ h
theorem Jv.frozen_heap {w : World} {g : Nat} {cur : Array Value} {e : TypeId} (h : w.heap[g]? = some (.cells cur e (0, 0))) (j : Nat) : w.frozen? ⟨g, j, none⟩ = false := by
  simp [World.frozen?, h]
theorem Tryz.size_ptr : ∀ w, (Go.sizeOf 24).run Tryz.prog w = .ok 1 w := fun w => by kernel_rfl
set_option maxHeartbeats 4000000 in
set_option maxRecDepth 100000 in
/-- At the end. -/
theorem Tryz.ins_end_ptr (B : Nat) (sv : Value) (xs : List Value) (w : World) (hrow : w.ownsRow B 24 1 sv xs.length xs) (hB : B ≤ w.heap.size) (hn : xs.length ≤ 64) (x : Value) (hx : x.oneCell' = true) (vb : Nat) (hvb : w.heap[vb]? = some (.cells #[x] 24 (0, 0))) :
    Calls Tryz.prog 131 #[sv, .int .i64 xs.length, .slice (some ⟨vb, 0, none⟩) 1 1] w fun e w' => ∃ g cap, e = .returned (.slice (some ⟨g, 0, none⟩) (xs.length + 1) cap) ∧ w'.ownsRow B 24 1 (.slice (some ⟨g, 0, none⟩) (xs.length + 1) cap) (xs.length + 1) (xs ++ [x]) ∧ w.grownBy w' sv.ownBlock ∧ (sv.ownBlock = some g ∨ g = w.heap.size) := by
  obtain ⟨i0, hi0, hz0, hz1, hz2⟩ := info_parts Tryz.info_ptr
  obtain ⟨a, c, hsv⟩ := Jv.row_form hrow
  have hnews : ∀ j u, [x][j]? = some u → w.cell? ((⟨vb, 0, none⟩ : Addr).add j) = some u := World.news_of_block (cs := #[x]) (t := 24) (fr := (0, 0)) hvb
  have hcap : a = none → c = 0 ∧ xs.length = 0 := by
    rintro rfl
    rcases hrow.2 with ⟨h1, h2⟩ | ⟨g, cap, cur, h1, _⟩
    · rw [hsv] at h1; injection h1 with _ _ h3; exact ⟨h3, h2⟩
    · rw [hsv] at h1; injection h1 with h1; cases h1
  have hle : xs.length ≤ c := by
    rcases hrow.2 with ⟨h1, h2⟩ | ⟨g, cap, cur, h1, _, _, h4, _⟩
    · omega
    · rw [hsv] at h1; injection h1 with _ _ h3; omega
  have hmx : c ≤ 9223372036854775807 := by
    rcases hrow.2 with ⟨h1, h2⟩ | ⟨g, cap, cur, h1, _, _, _, h5, _⟩
    · rw [hsv] at h1; injection h1 with _ _ h3; omega
    · rw [hsv] at h1; injection h1 with _ _ h3; unfold maxLen at h5; omega
  subst hsv
  generalize hnn : xs.length = n at *
  by_cases hcn : c = n
  · subst hcn
    go_enter Tryz.func131, Tryz.ntmps131
    go_wp2_with (first | (at_builtin; refine wpList_append_lies _ rfl _ _ _ rfl B 24 i0 _ 1 8 Tryz.underlying43 hi0 hz0 hz1 hz2 rfl (by omega) (.slice a c c) c xs rfl hrow ⟨vb, 0, none⟩ 1 1 [x] rfl rfl hnews (by simpa using hx) (by omega) (by unfold maxLen; omega) (by omega) hB w.heap.size rfl ?_; intro g cap w1 hown hgrow hat hlt) | fail)
    all_goals (go_ret; exact ⟨g, cap, rfl, hown, hgrow, hat⟩)
  · skip
    go_enter Tryz.func131, Tryz.ntmps131
    go_wp2_with (first | (at_builtin; refine wpList_append_lies _ rfl _ _ _ rfl B 24 i0 _ 1 8 Tryz.underlying43 hi0 hz0 hz1 hz2 rfl (by omega) (.slice a n c) n xs rfl hrow ⟨vb, 0, none⟩ 1 1 [x] rfl rfl hnews (by simpa using hx) (by omega) (by unfold maxLen; omega) (by omega) hB w.heap.size rfl ?_; intro g cap w1 hown hgrow hat hlt) | fail)
    all_goals (go_ret; exact ⟨g, cap, rfl, hown, hgrow, hat⟩)
set_option maxHeartbeats 4000000 in
set_option maxRecDepth 100000 in
/-- In the midst, no room. -/
theorem Tryz.ins_grow_ptr (g n i vb : Nat) (xs : List Value) (x : Value) (w : World) (hi : i < n) (hn : n ≤ 64) (hxl : xs.length = n) (hcs : ∀ j v, xs[j]? = some v → w.cell? ⟨g, j, none⟩ = some v) (hvs : w.cell? ⟨vb, 0, none⟩ = some x)
    (h1c : ∀ v ∈ xs, v.oneCell' = true) (hx : x.oneCell' = true) :
    Calls Tryz.prog 131 #[.slice (some ⟨g, 0, none⟩) n n, .int .i64 i, .slice (some ⟨vb, 0, none⟩) 1 1] w fun e w' => ∃ G, n + 1 ≤ G ∧ G ≤ maxLen ∧ e = .returned (.slice (some ⟨w.heap.size, 0, none⟩) (n + 1) G) ∧
      w' = (((w.alloc (.cells ((xs.take i).toArray ++ Builtin.zeroCells (.pointer none : Value).cells (n + 1 - i) ++ Builtin.zeroCells (.pointer none : Value).cells (G - (n + 1))) 24)).drew.setCells w.heap.size i [x]).drew).setCells w.heap.size (i + 1) (xs.drop i) := by
  obtain ⟨i0, hi0, hz0, hzs, hzb⟩ := info_parts Tryz.info_ptr
  have hsz : (Tryz.prog.info? 24).map (·.size) = some 1 := by rw [hi0]; simp [hzs]
  have hgw : g < w.heap.size := block_lt_of_cell (hcs 0 _ (List.getElem?_eq_getElem (by omega)))
  have hvw : vb < w.heap.size := block_lt_of_cell hvs
  have hkk : (n : Int) + 1 - (i : Int) = ((n + 1 - i : Nat) : Int) := by omega
  have hik : i + (n + 1 - i) = n + 1 := by omega
  have hold : (Builtin.firstCells i0.size i (.slice (some ⟨g, 0, none⟩) i n)).run Tryz.prog w.drew = .ok (xs.take i).toArray w.drew := by
    rw [hzs]
    exact run_firstCells_some w.drew 1 i ⟨g, 0, none⟩ i n (xs.take i) (by rw [List.length_take]; omega) (fun j v hj => by
      rw [Addr.add_lit, Nat.zero_add]
      rw [List.getElem?_take] at hj
      split at hj
      · exact hcs j v hj
      · cases hj)
  have hrz : ∀ ty, (Builtin.append_ #[43, 3] ty #[.slice (some ⟨g, 0, none⟩) i n, .int .i64 ((n : Int) + 1 - (i : Int))]).run Tryz.prog w =
      .ok (.slice (some ⟨w.heap.size, 0, none⟩) (n + 1) (grownCap w (n + 1) n 24)) (w.drew.alloc (.cells ((xs.take i).toArray ++ Builtin.zeroCells (.pointer none : Value).cells (n + 1 - i) ++ Builtin.zeroCells (.pointer none : Value).cells (grownCap w (n + 1) n 24 - (n + 1))) 24)) := fun ty => by
    have h := Lib.run_append_grow_zeros w 43 3 ty 24 i0 _ .i64 .i64 Tryz.underlying43 Tryz.underlying3 hi0 hz0 (some ⟨g, 0, none⟩) i n (xs.take i) hold (n + 1 - i) (by omega) (by omega) (by omega) (by omega) (by rw [hzb]; omega) (by rw [hzb, hik]; exact growslice_fits (by omega) (by omega))
    rw [hik] at h
    rw [hkk]
    exact h
  have hGn : n + 1 ≤ grownCap w (n + 1) n 24 := grownCap_ge w _ _ _
  have hGm : grownCap w (n + 1) n 24 ≤ maxLen := grownCap_le_maxLen w (n + 1) n 24 (by unfold maxLen; omega)
  generalize grownCap w (n + 1) n 24 = G at *
  have hG63 : G ≤ 9223372036854775807 := by unfold maxLen at hGm; omega
  obtain ⟨ROW, hROW⟩ : ∃ ROW : Array Value, ROW = (xs.take i).toArray ++ Builtin.zeroCells (.pointer none : Value).cells (n + 1 - i) ++ Builtin.zeroCells (.pointer none : Value).cells (G - (n + 1)) := ⟨_, rfl⟩
  rw [← hROW] at hrz
  have HROW : Hid (ROW = (xs.take i).toArray ++ Builtin.zeroCells (.pointer none : Value).cells (n + 1 - i) ++ Builtin.zeroCells (.pointer none : Value).cells (G - (n + 1))) := hROW
  have hRl : n + 1 ≤ ROW.size := by
    rw [hROW]
    simp [Builtin.zeroCells, Value.cells]
    omega
  obtain ⟨W1, hW1⟩ : ∃ W1, W1 = w.drew.alloc (.cells ROW 24) := ⟨_, rfl⟩
  rw [← hW1] at hrz
  have hN : ∀ j, j < n + 1 → (W1.cell? ⟨w.heap.size, j, none⟩).isSome = true := fun j hj => by
    rw [hW1, World.cell?_alloc_at (w := w.drew) ROW _ w.heap.size j rfl, Array.getElem?_eq_getElem (by omega)]; rfl
  have hNf : ∀ j, W1.frozen? ⟨w.heap.size, j, none⟩ = false := fun j => by rw [hW1]; exact World.frozen?_alloc_at (w := w.drew) ROW _ w.heap.size j rfl
  have hOb : ∀ j v, w.cell? ⟨g, j, none⟩ = some v → W1.cell? ⟨g, j, none⟩ = some v := fun j v h => by rw [hW1, World.cell?_alloc_past (w := w.drew) _ g j hgw]; exact h
  have hOv : W1.cell? ⟨vb, 0, none⟩ = some x := by rw [hW1, World.cell?_alloc_past (w := w.drew) _ vb 0 hvw]; exact hvs
  have hcpA : ∀ (W : World), (∀ y, W.cell? y = W1.cell? y) → (∀ y, W.frozen? y = W1.frozen? y) → ∀ ty dc, (Builtin.copy_ #[43, 43] ty #[.slice (some ⟨w.heap.size, i, none⟩) (n + 1 - i) dc, .slice (some ⟨vb, 0, none⟩) 1 1]).run Tryz.prog W = .ok (goInt [x].length) (W.setCells w.heap.size i [x]) := fun W hWc hWf ty dc =>
    run_copy_cells W _ _ ty 24 w.heap.size i (n + 1 - i) dc ⟨vb, 0, none⟩ 1 1 [x] Tryz.underlying43 hsz (by simp only [List.length_cons, List.length_nil, Nat.min_def]; split <;> omega)
      (fun j v hj => by
        rw [Addr.add_lit, Nat.zero_add, hWc]
        match j, hj with
        | 0, hj => obtain rfl : x = v := by simpa using hj
                   exact hOv
        | j + 1, hj => simp at hj)
      (fun j hj => by rw [hWc]; exact hN _ (by simp at hj; omega)) (fun j hj => by rw [hWf]; exact hNf _) (by simpa using hx)
  have hGi : ¬ (G = i) := by omega
  have hGim : ¬ (G = i + 1) := by omega
  have hci : ¬ (n = i) := by omega
  have hbN : g ≠ w.heap.size := by omega
  have hdl : (xs.drop i).length = n - i := by rw [List.length_drop, hxl]
  have hcpB : ∀ (W : World), (∀ y, W.cell? y = (W1.setCells w.heap.size i [x]).cell? y) → (∀ y, W.frozen? y = (W1.setCells w.heap.size i [x]).frozen? y) → ∀ ty dc sc, (Builtin.copy_ #[43, 43] ty #[.slice (some ⟨w.heap.size, i + 1, none⟩) (n + 1 - (i + 1)) dc, .slice (some ⟨g, i, none⟩) (n - i) sc]).run Tryz.prog W = .ok (goInt (xs.drop i).length) (W.setCells w.heap.size (i + 1) (xs.drop i)) := fun W hWc hWf ty dc sc =>
    run_copy_cells W _ _ ty 24 w.heap.size (i + 1) (n + 1 - (i + 1)) dc ⟨g, i, none⟩ (n - i) sc (xs.drop i) Tryz.underlying43 hsz (by rw [hdl]; simp only [Nat.min_def]; split <;> omega)
      (fun j v hj => by
        rw [Addr.add_lit, hWc, World.cell?_setCells_out _ _ _ _ _ (fun h _ => absurd h hbN)]
        exact hOb _ v (hcs (i + j) v (by rwa [List.getElem?_drop] at hj)))
      (fun j hj => by rw [hWc]; exact isSome_setCells _ _ _ _ (fun t ht => hN _ (by simp at ht; omega)) _ (hN _ (by omega)))
      (fun j hj => by rw [hWf, World.frozen?_setCells]; exact hNf _) (fun v hv => h1c v (List.mem_of_mem_drop hv))
  subst hW1
  have hE1 : ∀ y, ((w.alloc (.cells ROW 24)).drew).cell? y = (w.drew.alloc (.cells ROW 24)).cell? y := fun y => rfl
  have hE2 : ∀ y, ((w.alloc (.cells ROW 24)).drew).frozen? y = (w.drew.alloc (.cells ROW 24)).frozen? y := fun y => rfl
  have hF1 : ∀ y, (((w.alloc (.cells ROW 24)).drew.setCells w.heap.size i [x]).drew).cell? y = ((w.drew.alloc (.cells ROW 24)).setCells w.heap.size i [x]).cell? y := fun y => rfl
  have hF2 : ∀ y, (((w.alloc (.cells ROW 24)).drew.setCells w.heap.size i [x]).drew).frozen? y = ((w.drew.alloc (.cells ROW 24)).setCells w.heap.size i [x]).frozen? y := fun y => rfl
  have hz2 : ¬ ((i : Int) = (n : Int)) := by omega
  have hin : i ≤ n := by omega
  have hb3 : (i : Int) ≤ (n : Int) := by omega
  have hw1 : IntKind.i64.wrap ((i : Int) + 1) = (i : Int) + 1 := by rw [IntKind.wrap_i64]; omega
  have hb1 : (0 : Int) ≤ (i : Int) + 1 := by omega
  have htn : ((i : Int) + 1).toNat = i + 1 := by omega
  clear hkk hik hold hROW hRl
  go_enter Tryz.func131, Tryz.ntmps131
  go_wp2_with (first
    | (at_builtin; refine Lib.wpList_append_run _ rfl _ _ _ _ rfl _ _ rfl rfl _ _ (hrz _) ?_)
    | (at_builtin; refine wpList_copy_runI _ rfl _ _ 43 43 rfl _ _ rfl rfl (hcpA _ hE1 hE2 _ _) ?_)
    | fail)
  go_region_law (refine step_copy_runI rfl _ _ 43 43 rfl (.slice (some ⟨w.heap.size, i + 1, none⟩) (n + 1 - (i + 1)) (G - (i + 1))) (.slice (some ⟨g, i, none⟩) (n - i) (n - i)) (by simp [Act.eval, Act.put]) (by simp [Act.eval, Act.put]) (hcpB _ hF1 hF2 _ (G - (i + 1)) (n - i)) ?_)
  go_wp2
  go_ret
  exact ⟨G, hGn, hGm, rfl, by rw [← HROW.out]⟩
set_option maxHeartbeats 4000000 in
set_option maxRecDepth 100000 in
/-- In the midst, there is room. -/
theorem Tryz.ins_shift_ptr (g n c i vb : Nat) (cur : Array Value) (xs : List Value) (x : Value) (w : World) (hi : i < n) (hn : n ≤ 64) (hxl : xs.length = n) (hroom : n + 1 ≤ c) (hc63 : c ≤ 9223372036854775807)
    (hg : w.heap[g]? = some (.cells cur 24 (0, 0))) (hcz : cur.size = c) (hcs : ∀ j v, xs[j]? = some v → w.cell? ⟨g, j, none⟩ = some v) (hvb : w.heap[vb]? = some (.cells #[x] 24 (0, 0))) (hne : vb ≠ g)
    (h1c : ∀ v ∈ xs, v.oneCell' = true) (hx : x.oneCell' = true) :
    Calls Tryz.prog 131 #[.slice (some ⟨g, 0, none⟩) n c, .int .i64 i, .slice (some ⟨vb, 0, none⟩) 1 1] w fun e w' => e = .returned (.slice (some ⟨g, 0, none⟩) (n + 1) c) ∧ ∃ k, w' = ((w.drewN k).setCells g (i + 1) (xs.drop i)).setCells g i [x] := by
  obtain ⟨i0, hi0, hz0, hzs, hzb⟩ := info_parts Tryz.info_ptr
  have hsz : (Tryz.prog.info? 24).map (·.size) = some 1 := by rw [hi0]; simp [hzs]
  have hsp : ∀ j, j < n + 1 → (w.cell? ⟨g, j, none⟩).isSome = true := fun j hj => by rw [Jv.cell_heap hg, Array.getElem?_eq_getElem (by omega)]; rfl
  have hfz : ∀ j, w.frozen? ⟨g, j, none⟩ = false := fun j => Jv.frozen_heap hg j
  have hvs : w.cell? ⟨vb, 0, none⟩ = some x := by rw [Jv.cell_heap hvb]; rfl
  have hov : ∀ lb cb, (callFunc 161 #[.slice (some ⟨vb, 0, none⟩) 1 1, .slice (some ⟨g, i + 1, none⟩) lb cb]).run Tryz.prog w = .ok (.value (.bool false)) w := fun lb cb => by
    rw [run_callFunc_extern Tryz.func161 (by kernel_rfl) (by kernel_rfl) (by kernel_rfl) (e := Extern.SlicesOverlaps.overlaps #[43, 43] #[4]) (by kernel_rfl),
      Lib.run_overlaps_apart w 43 4 24 Tryz.underlying43 1 Tryz.size_ptr ⟨vb, 0, none⟩ ⟨g, i + 1, none⟩ 1 1 lb cb hne 24 24 1 c (by simp [World.shape?, hvb]) (by simp [World.shape?, hg, hcz]) (by omega) (Jv.frozen_heap hvb 0) (Jv.frozen_heap hvb 1)]
    rfl
  have hdl : (xs.drop i).length = n - i := by rw [List.length_drop, hxl]
  have hw1 : IntKind.i64.wrap ((i : Int) + 1) = (i : Int) + 1 := by rw [IntKind.wrap_i64]; omega
  have hb1 : (0 : Int) ≤ (i : Int) + 1 := by omega
  have hin : i ≤ n := by omega
  have htn : ((i : Int) + 1).toNat = i + 1 := by omega
  have hb2 : ¬ (c = i + 1) := by omega
  have hb3 : (i : Int) ≤ (n : Int) + 1 := by omega
  have hb4 : ¬ (c = i) := by omega
  have hz2 : ¬ ((i : Int) = (n : Int)) := by omega
  have hcp1 : ∀ ty dc sc, (Builtin.copy_ #[43, 43] ty #[.slice (some ⟨g, i + 1, none⟩) (n - i) dc, .slice (some ⟨g, i, none⟩) (n + 1 - i) sc]).run Tryz.prog w.drew = .ok (goInt (xs.drop i).length) (w.drew.setCells g (i + 1) (xs.drop i)) := fun ty dc sc =>
    run_copy_cells w.drew _ _ ty 24 g (i + 1) (n - i) dc ⟨g, i, none⟩ (n + 1 - i) sc (xs.drop i) Tryz.underlying43 hsz (by rw [hdl]; simp only [Nat.min_def]; split <;> omega)
      (fun j v hj => by rw [Addr.add_lit]; exact hcs (i + j) v (by rwa [List.getElem?_drop] at hj))
      (fun j hj => hsp _ (by omega)) (fun j hj => hfz _) (fun v hv => h1c v (List.mem_of_mem_drop hv))
  obtain ⟨W1, hW1⟩ : ∃ W1, W1 = w.drew.setCells g (i + 1) (xs.drop i) := ⟨_, rfl⟩
  have hsp1 : ∀ k, k < n + 1 → (W1.cell? ⟨g, k, none⟩).isSome = true := fun k hk => by
    rw [hW1]
    exact isSome_setCells g (xs.drop i) (i + 1) w.drew (fun j hj => hsp _ (by rw [hdl] at hj; omega)) k (hsp k hk)
  have hcp2 : ∀ (W : World), (∀ y, W.cell? y = W1.cell? y) → (∀ y, W.frozen? y = W1.frozen? y) → ∀ ty dc, (Builtin.copy_ #[43, 43] ty #[.slice (some ⟨g, i, none⟩) (n + 1 - i) dc, .slice (some ⟨vb, 0, none⟩) 1 1]).run Tryz.prog W = .ok (goInt [x].length) (W.setCells g i [x]) := fun W hWc hWf ty dc =>
    run_copy_cells W _ _ ty 24 g i (n + 1 - i) dc ⟨vb, 0, none⟩ 1 1 [x] Tryz.underlying43 hsz (by simp only [List.length_cons, List.length_nil, Nat.min_def]; split <;> omega)
      (fun j v hj => by
        rw [Addr.add_lit, Nat.zero_add, hWc, hW1, World.cell?_setCells_out g _ _ _ _ (fun h _ => absurd h hne)]
        match j, hj with
        | 0, hj => obtain rfl : x = v := by simpa using hj
                   exact hvs
        | j + 1, hj => simp at hj)
      (fun j hj => by rw [hWc]; exact hsp1 _ (by simp at hj; omega)) (fun j hj => by rw [hWf, hW1, World.frozen?_setCells]; exact hfz _) (by simpa using hx)
  rw [← hW1] at hcp1
  clear hg hvb hcz
  go_enter Tryz.func131, Tryz.ntmps131
  go_wp2_with (simp only [hov])
  go_region_law (refine step_copy_runI rfl _ _ 43 43 rfl _ _ (by simp [Act.eval, Act.put]) (by simp [Act.eval, Act.put]) (hcp1 _ _ _) ?_)
  go_wp2_with (at_builtin; refine wpList_copy_runI _ rfl _ _ 43 43 rfl _ _ rfl rfl (hcp2 _ (fun _ => rfl) (fun _ => rfl) _ _) ?_)
  go_ret
  exact ⟨rfl, 1, rfl⟩
set_option maxHeartbeats 2000000 in
/-- One item, wherever. -/
theorem Tryz.ins_any_ptr (B : Nat) (sv : Value) (xs : List Value) (w : World) (hrow : w.ownsRow B 24 1 sv xs.length xs) (hB : B ≤ w.heap.size) (i : Nat) (hi : i ≤ xs.length) (hn : xs.length ≤ 64) (x : Value) (hx : x.oneCell' = true) (h1c : ∀ v ∈ xs, v.oneCell' = true)
    (vb : Nat) (hvb : w.heap[vb]? = some (.cells #[x] 24 (0, 0))) (hne : sv.ownBlock ≠ some vb) :
    Calls Tryz.prog 131 #[sv, .int .i64 i, .slice (some ⟨vb, 0, none⟩) 1 1] w fun e w' => ∃ g cap, e = .returned (.slice (some ⟨g, 0, none⟩) (xs.length + 1) cap) ∧ w'.ownsRow B 24 1 (.slice (some ⟨g, 0, none⟩) (xs.length + 1) cap) (xs.length + 1) (insertAt xs i x) ∧ w.grownBy w' sv.ownBlock ∧ (sv.ownBlock = some g ∨ g = w.heap.size) := by
  by_cases hie : i = xs.length
  · subst hie
    have e : insertAt xs xs.length x = xs ++ [x] := by unfold insertAt; rw [List.take_of_length_le (Nat.le_refl _), List.drop_of_length_le (Nat.le_refl _)]
    rw [e]
    exact Tryz.ins_end_ptr B sv xs w hrow hB hn x hx vb hvb
  · have hlt : i < xs.length := by omega
    rcases hrow.2 with ⟨_, h0⟩ | ⟨g, cap, cur, rfl, hBg, hg, hnc, hcm, hcz, htk⟩
    · omega
    · simp only [Nat.mul_one] at hcz htk
      have hcs : ∀ j v, xs[j]? = some v → w.cell? ⟨g, j, none⟩ = some v := fun j v hj => by
        rw [Jv.cell_heap hg, ← Array.getElem?_toList]
        have hjl : j < xs.length := (List.getElem?_eq_some_iff.1 hj).1
        rw [← htk, List.getElem?_take, if_pos hjl] at hj
        exact hj
      have hcur : ∀ j, j < i → cur[j]? = xs[j]? := fun j hj => by
        have h1 := hcs j (xs[j]'(by omega)) (List.getElem?_eq_getElem (by omega))
        rw [Jv.cell_heap hg] at h1
        rw [h1, List.getElem?_eq_getElem (by omega)]
      have hgw : g < w.heap.size := (Array.getElem?_eq_some_iff.1 hg).1
      by_cases hr : xs.length + 1 ≤ cap
      · refine (Tryz.ins_shift_ptr g xs.length cap i vb cur xs x w hlt hn rfl hr (by unfold maxLen at hcm; omega) hg hcz hcs hvb (fun h => hne (by rw [h]; rfl)) h1c hx).mono ?_
        rintro e w' ⟨rfl, k, rfl⟩
        have hh : (((w.drewN k).setCells g (i + 1) (xs.drop i)).setCells g i [x]).heap[g]? = some (.cells (over (over cur (i + 1) (xs.drop i)) i [x]) 24 (0, 0)) := heap_sets _ _ _ _ (heap_sets _ _ (w.drewN k) _ hg)
        refine ⟨g, cap, rfl, ⟨by rw [insertAt_len]; omega, .inr ⟨g, cap, _, rfl, hBg, hh, hr, hcm, by rw [over_size, over_size]; omega, ?_⟩⟩, ⟨?_, ?_, ?_, ?_, ?_⟩, .inl rfl⟩
        · rw [Nat.mul_one]; exact ins_take (by omega) (by omega) hcur
        · rw [(sets_rest g [x] i _).1, (sets_rest g (xs.drop i) (i + 1) _).1]; rfl
        · rw [(sets_rest g [x] i _).2.1, (sets_rest g (xs.drop i) (i + 1) _).2.1]; rfl
        · rw [(sets_rest g [x] i _).2.2, (sets_rest g (xs.drop i) (i + 1) _).2.2]; rfl
        · rw [sets_size, sets_size]; exact Nat.le_refl _
        · intro m hm hmg
          have hne2 : m ≠ g := fun h => hmg (by rw [h]; rfl)
          rw [heap_sets_other hne2, heap_sets_other hne2]; rfl
      · obtain rfl : cap = xs.length := by omega
        refine (Tryz.ins_grow_ptr g xs.length i vb xs x w hlt hn rfl hcs (by rw [Jv.cell_heap hvb]; rfl) h1c hx).mono ?_
        rintro e w' ⟨G, hG1, hG2, rfl, rfl⟩
        generalize hR : ((xs.take i).toArray ++ Builtin.zeroCells (.pointer none : Value).cells (xs.length + 1 - i) ++ Builtin.zeroCells (.pointer none : Value).cells (G - (xs.length + 1))) = ROW
        have hRs : ROW.size = G := by
          rw [← hR]
          simp [Builtin.zeroCells, Value.cells]
          omega
        have hRc : ∀ j, j < i → ROW[j]? = xs[j]? := fun j hj => by
          rw [← hR, Array.append_assoc, Array.getElem?_append_left (by simp; omega)]
          simp [hj]
        have hh : ((((w.alloc (.cells ROW 24)).drew.setCells w.heap.size i [x]).drew).setCells w.heap.size (i + 1) (xs.drop i)).heap[w.heap.size]? = some (.cells (over (over ROW i [x]) (i + 1) (xs.drop i)) 24 (0, 0)) :=
          heap_sets _ _ _ _ (heap_sets [x] i ((w.alloc (.cells ROW 24)).drew) ROW (heap_alloc_new w _))
        refine ⟨w.heap.size, G, rfl, ⟨by rw [insertAt_len]; omega, .inr ⟨w.heap.size, G, _, rfl, hB, hh, hG1, hG2, by rw [over_size, over_size]; omega, ?_⟩⟩, ⟨?_, ?_, ?_, ?_, ?_⟩, .inr rfl⟩
        · rw [Nat.mul_one]; exact ins_take2 (by omega) (by omega) hRc
        · exact (sets_rest w.heap.size (xs.drop i) (i + 1) _).1.trans (sets_rest w.heap.size [x] i ((w.alloc (.cells ROW 24)).drew)).1
        · exact (sets_rest w.heap.size (xs.drop i) (i + 1) _).2.1.trans (sets_rest w.heap.size [x] i ((w.alloc (.cells ROW 24)).drew)).2.1
        · exact (sets_rest w.heap.size (xs.drop i) (i + 1) _).2.2.trans (sets_rest w.heap.size [x] i ((w.alloc (.cells ROW 24)).drew)).2.2
        · rw [sets_size]; show w.heap.size ≤ ((w.alloc (.cells ROW 24)).drew.setCells w.heap.size i [x]).heap.size; rw [sets_size]; simp
        · intro m hm _
          have hne2 : m ≠ w.heap.size := by omega
          rw [heap_sets_other hne2]
          show ((w.alloc (.cells ROW 24)).drew.setCells w.heap.size i [x]).heap[m]? = _
          rw [heap_sets_other hne2]
          exact Below.heap_alloc w _ m hm
theorem Tryz.info_str : (Tryz.prog.info? 9).map (fun i => (i.zero, i.size, i.bytes)) = some (some (.string ⟨#[]⟩), 1, 16) := by kernel_rfl
theorem Tryz.size_str : ∀ w, (Go.sizeOf 9).run Tryz.prog w = .ok 1 w := fun w => by kernel_rfl
set_option maxHeartbeats 4000000 in
set_option maxRecDepth 100000 in
/-- At the end. -/
theorem Tryz.ins_end_str (B : Nat) (sv : Value) (xs : List Value) (w : World) (hrow : w.ownsRow B 9 1 sv xs.length xs) (hB : B ≤ w.heap.size) (hn : xs.length ≤ 64) (x : Value) (hx : x.oneCell' = true) (vb : Nat) (hvb : w.heap[vb]? = some (.cells #[x] 9 (0, 0))) :
    Calls Tryz.prog 130 #[sv, .int .i64 xs.length, .slice (some ⟨vb, 0, none⟩) 1 1] w fun e w' => ∃ g cap, e = .returned (.slice (some ⟨g, 0, none⟩) (xs.length + 1) cap) ∧ w'.ownsRow B 9 1 (.slice (some ⟨g, 0, none⟩) (xs.length + 1) cap) (xs.length + 1) (xs ++ [x]) ∧ w.grownBy w' sv.ownBlock ∧ (sv.ownBlock = some g ∨ g = w.heap.size) := by
  obtain ⟨i0, hi0, hz0, hz1, hz2⟩ := info_parts Tryz.info_str
  obtain ⟨a, c, hsv⟩ := Jv.row_form hrow
  have hnews : ∀ j u, [x][j]? = some u → w.cell? ((⟨vb, 0, none⟩ : Addr).add j) = some u := World.news_of_block (cs := #[x]) (t := 9) (fr := (0, 0)) hvb
  have hcap : a = none → c = 0 ∧ xs.length = 0 := by
    rintro rfl
    rcases hrow.2 with ⟨h1, h2⟩ | ⟨g, cap, cur, h1, _⟩
    · rw [hsv] at h1; injection h1 with _ _ h3; exact ⟨h3, h2⟩
    · rw [hsv] at h1; injection h1 with h1; cases h1
  have hle : xs.length ≤ c := by
    rcases hrow.2 with ⟨h1, h2⟩ | ⟨g, cap, cur, h1, _, _, h4, _⟩
    · omega
    · rw [hsv] at h1; injection h1 with _ _ h3; omega
  have hmx : c ≤ 9223372036854775807 := by
    rcases hrow.2 with ⟨h1, h2⟩ | ⟨g, cap, cur, h1, _, _, _, h5, _⟩
    · rw [hsv] at h1; injection h1 with _ _ h3; omega
    · rw [hsv] at h1; injection h1 with _ _ h3; unfold maxLen at h5; omega
  subst hsv
  generalize hnn : xs.length = n at *
  by_cases hcn : c = n
  · subst hcn
    go_enter Tryz.func130, Tryz.ntmps130
    go_wp2_with (first | (at_builtin; refine wpList_append_lies _ rfl _ _ _ rfl B 9 i0 _ 1 16 Tryz.underlying34 hi0 hz0 hz1 hz2 rfl (by omega) (.slice a c c) c xs rfl hrow ⟨vb, 0, none⟩ 1 1 [x] rfl rfl hnews (by simpa using hx) (by omega) (by unfold maxLen; omega) (by omega) hB w.heap.size rfl ?_; intro g cap w1 hown hgrow hat hlt) | fail)
    all_goals (go_ret; exact ⟨g, cap, rfl, hown, hgrow, hat⟩)
  · skip
    go_enter Tryz.func130, Tryz.ntmps130
    go_wp2_with (first | (at_builtin; refine wpList_append_lies _ rfl _ _ _ rfl B 9 i0 _ 1 16 Tryz.underlying34 hi0 hz0 hz1 hz2 rfl (by omega) (.slice a n c) n xs rfl hrow ⟨vb, 0, none⟩ 1 1 [x] rfl rfl hnews (by simpa using hx) (by omega) (by unfold maxLen; omega) (by omega) hB w.heap.size rfl ?_; intro g cap w1 hown hgrow hat hlt) | fail)
    all_goals (go_ret; exact ⟨g, cap, rfl, hown, hgrow, hat⟩)
set_option maxHeartbeats 4000000 in
set_option maxRecDepth 100000 in
/-- In the midst, no room. -/
theorem Tryz.ins_grow_str (g n i vb : Nat) (xs : List Value) (x : Value) (w : World) (hi : i < n) (hn : n ≤ 64) (hxl : xs.length = n) (hcs : ∀ j v, xs[j]? = some v → w.cell? ⟨g, j, none⟩ = some v) (hvs : w.cell? ⟨vb, 0, none⟩ = some x)
    (h1c : ∀ v ∈ xs, v.oneCell' = true) (hx : x.oneCell' = true) :
    Calls Tryz.prog 130 #[.slice (some ⟨g, 0, none⟩) n n, .int .i64 i, .slice (some ⟨vb, 0, none⟩) 1 1] w fun e w' => ∃ G, n + 1 ≤ G ∧ G ≤ maxLen ∧ e = .returned (.slice (some ⟨w.heap.size, 0, none⟩) (n + 1) G) ∧
      w' = (((w.alloc (.cells ((xs.take i).toArray ++ Builtin.zeroCells (.string ⟨#[]⟩ : Value).cells (n + 1 - i) ++ Builtin.zeroCells (.string ⟨#[]⟩ : Value).cells (G - (n + 1))) 9)).drew.setCells w.heap.size i [x]).drew).setCells w.heap.size (i + 1) (xs.drop i) := by
  obtain ⟨i0, hi0, hz0, hzs, hzb⟩ := info_parts Tryz.info_str
  have hsz : (Tryz.prog.info? 9).map (·.size) = some 1 := by rw [hi0]; simp [hzs]
  have hgw : g < w.heap.size := block_lt_of_cell (hcs 0 _ (List.getElem?_eq_getElem (by omega)))
  have hvw : vb < w.heap.size := block_lt_of_cell hvs
  have hkk : (n : Int) + 1 - (i : Int) = ((n + 1 - i : Nat) : Int) := by omega
  have hik : i + (n + 1 - i) = n + 1 := by omega
  have hold : (Builtin.firstCells i0.size i (.slice (some ⟨g, 0, none⟩) i n)).run Tryz.prog w.drew = .ok (xs.take i).toArray w.drew := by
    rw [hzs]
    exact run_firstCells_some w.drew 1 i ⟨g, 0, none⟩ i n (xs.take i) (by rw [List.length_take]; omega) (fun j v hj => by
      rw [Addr.add_lit, Nat.zero_add]
      rw [List.getElem?_take] at hj
      split at hj
      · exact hcs j v hj
      · cases hj)
  have hrz : ∀ ty, (Builtin.append_ #[34, 3] ty #[.slice (some ⟨g, 0, none⟩) i n, .int .i64 ((n : Int) + 1 - (i : Int))]).run Tryz.prog w =
      .ok (.slice (some ⟨w.heap.size, 0, none⟩) (n + 1) (grownCap w (n + 1) n 9)) (w.drew.alloc (.cells ((xs.take i).toArray ++ Builtin.zeroCells (.string ⟨#[]⟩ : Value).cells (n + 1 - i) ++ Builtin.zeroCells (.string ⟨#[]⟩ : Value).cells (grownCap w (n + 1) n 9 - (n + 1))) 9)) := fun ty => by
    have h := Lib.run_append_grow_zeros w 34 3 ty 9 i0 _ .i64 .i64 Tryz.underlying34 Tryz.underlying3 hi0 hz0 (some ⟨g, 0, none⟩) i n (xs.take i) hold (n + 1 - i) (by omega) (by omega) (by omega) (by omega) (by rw [hzb]; omega) (by rw [hzb, hik]; exact growslice_fits (by omega) (by omega))
    rw [hik] at h
    rw [hkk]
    exact h
  have hGn : n + 1 ≤ grownCap w (n + 1) n 9 := grownCap_ge w _ _ _
  have hGm : grownCap w (n + 1) n 9 ≤ maxLen := grownCap_le_maxLen w (n + 1) n 9 (by unfold maxLen; omega)
  generalize grownCap w (n + 1) n 9 = G at *
  have hG63 : G ≤ 9223372036854775807 := by unfold maxLen at hGm; omega
  obtain ⟨ROW, hROW⟩ : ∃ ROW : Array Value, ROW = (xs.take i).toArray ++ Builtin.zeroCells (.string ⟨#[]⟩ : Value).cells (n + 1 - i) ++ Builtin.zeroCells (.string ⟨#[]⟩ : Value).cells (G - (n + 1)) := ⟨_, rfl⟩
  rw [← hROW] at hrz
  have HROW : Hid (ROW = (xs.take i).toArray ++ Builtin.zeroCells (.string ⟨#[]⟩ : Value).cells (n + 1 - i) ++ Builtin.zeroCells (.string ⟨#[]⟩ : Value).cells (G - (n + 1))) := hROW
  have hRl : n + 1 ≤ ROW.size := by
    rw [hROW]
    simp [Builtin.zeroCells, Value.cells]
    omega
  obtain ⟨W1, hW1⟩ : ∃ W1, W1 = w.drew.alloc (.cells ROW 9) := ⟨_, rfl⟩
  rw [← hW1] at hrz
  have hN : ∀ j, j < n + 1 → (W1.cell? ⟨w.heap.size, j, none⟩).isSome = true := fun j hj => by
    rw [hW1, World.cell?_alloc_at (w := w.drew) ROW _ w.heap.size j rfl, Array.getElem?_eq_getElem (by omega)]; rfl
  have hNf : ∀ j, W1.frozen? ⟨w.heap.size, j, none⟩ = false := fun j => by rw [hW1]; exact World.frozen?_alloc_at (w := w.drew) ROW _ w.heap.size j rfl
  have hOb : ∀ j v, w.cell? ⟨g, j, none⟩ = some v → W1.cell? ⟨g, j, none⟩ = some v := fun j v h => by rw [hW1, World.cell?_alloc_past (w := w.drew) _ g j hgw]; exact h
  have hOv : W1.cell? ⟨vb, 0, none⟩ = some x := by rw [hW1, World.cell?_alloc_past (w := w.drew) _ vb 0 hvw]; exact hvs
  have hcpA : ∀ (W : World), (∀ y, W.cell? y = W1.cell? y) → (∀ y, W.frozen? y = W1.frozen? y) → ∀ ty dc, (Builtin.copy_ #[34, 34] ty #[.slice (some ⟨w.heap.size, i, none⟩) (n + 1 - i) dc, .slice (some ⟨vb, 0, none⟩) 1 1]).run Tryz.prog W = .ok (goInt [x].length) (W.setCells w.heap.size i [x]) := fun W hWc hWf ty dc =>
    run_copy_cells W _ _ ty 9 w.heap.size i (n + 1 - i) dc ⟨vb, 0, none⟩ 1 1 [x] Tryz.underlying34 hsz (by simp only [List.length_cons, List.length_nil, Nat.min_def]; split <;> omega)
      (fun j v hj => by
        rw [Addr.add_lit, Nat.zero_add, hWc]
        match j, hj with
        | 0, hj => obtain rfl : x = v := by simpa using hj
                   exact hOv
        | j + 1, hj => simp at hj)
      (fun j hj => by rw [hWc]; exact hN _ (by simp at hj; omega)) (fun j hj => by rw [hWf]; exact hNf _) (by simpa using hx)
  have hGi : ¬ (G = i) := by omega
  have hGim : ¬ (G = i + 1) := by omega
  have hci : ¬ (n = i) := by omega
  have hbN : g ≠ w.heap.size := by omega
  have hdl : (xs.drop i).length = n - i := by rw [List.length_drop, hxl]
  have hcpB : ∀ (W : World), (∀ y, W.cell? y = (W1.setCells w.heap.size i [x]).cell? y) → (∀ y, W.frozen? y = (W1.setCells w.heap.size i [x]).frozen? y) → ∀ ty dc sc, (Builtin.copy_ #[34, 34] ty #[.slice (some ⟨w.heap.size, i + 1, none⟩) (n + 1 - (i + 1)) dc, .slice (some ⟨g, i, none⟩) (n - i) sc]).run Tryz.prog W = .ok (goInt (xs.drop i).length) (W.setCells w.heap.size (i + 1) (xs.drop i)) := fun W hWc hWf ty dc sc =>
    run_copy_cells W _ _ ty 9 w.heap.size (i + 1) (n + 1 - (i + 1)) dc ⟨g, i, none⟩ (n - i) sc (xs.drop i) Tryz.underlying34 hsz (by rw [hdl]; simp only [Nat.min_def]; split <;> omega)
      (fun j v hj => by
        rw [Addr.add_lit, hWc, World.cell?_setCells_out _ _ _ _ _ (fun h _ => absurd h hbN)]
        exact hOb _ v (hcs (i + j) v (by rwa [List.getElem?_drop] at hj)))
      (fun j hj => by rw [hWc]; exact isSome_setCells _ _ _ _ (fun t ht => hN _ (by simp at ht; omega)) _ (hN _ (by omega)))
      (fun j hj => by rw [hWf, World.frozen?_setCells]; exact hNf _) (fun v hv => h1c v (List.mem_of_mem_drop hv))
  subst hW1
  have hE1 : ∀ y, ((w.alloc (.cells ROW 9)).drew).cell? y = (w.drew.alloc (.cells ROW 9)).cell? y := fun y => rfl
  have hE2 : ∀ y, ((w.alloc (.cells ROW 9)).drew).frozen? y = (w.drew.alloc (.cells ROW 9)).frozen? y := fun y => rfl
  have hF1 : ∀ y, (((w.alloc (.cells ROW 9)).drew.setCells w.heap.size i [x]).drew).cell? y = ((w.drew.alloc (.cells ROW 9)).setCells w.heap.size i [x]).cell? y := fun y => rfl
  have hF2 : ∀ y, (((w.alloc (.cells ROW 9)).drew.setCells w.heap.size i [x]).drew).frozen? y = ((w.drew.alloc (.cells ROW 9)).setCells w.heap.size i [x]).frozen? y := fun y => rfl
  have hz2 : ¬ ((i : Int) = (n : Int)) := by omega
  have hin : i ≤ n := by omega
  have hb3 : (i : Int) ≤ (n : Int) := by omega
  have hw1 : IntKind.i64.wrap ((i : Int) + 1) = (i : Int) + 1 := by rw [IntKind.wrap_i64]; omega
  have hb1 : (0 : Int) ≤ (i : Int) + 1 := by omega
  have htn : ((i : Int) + 1).toNat = i + 1 := by omega
  clear hkk hik hold hROW hRl
  go_enter Tryz.func130, Tryz.ntmps130
  go_wp2_with (first
    | (at_builtin; refine Lib.wpList_append_run _ rfl _ _ _ _ rfl _ _ rfl rfl _ _ (hrz _) ?_)
    | (at_builtin; refine wpList_copy_runI _ rfl _ _ 34 34 rfl _ _ rfl rfl (hcpA _ hE1 hE2 _ _) ?_)
    | fail)
  go_region_law (refine step_copy_runI rfl _ _ 34 34 rfl (.slice (some ⟨w.heap.size, i + 1, none⟩) (n + 1 - (i + 1)) (G - (i + 1))) (.slice (some ⟨g, i, none⟩) (n - i) (n - i)) (by simp [Act.eval, Act.put]) (by simp [Act.eval, Act.put]) (hcpB _ hF1 hF2 _ (G - (i + 1)) (n - i)) ?_)
  go_wp2
  go_ret
  exact ⟨G, hGn, hGm, rfl, by rw [← HROW.out]⟩
set_option maxHeartbeats 4000000 in
set_option maxRecDepth 100000 in
/-- In the midst, there is room. -/
theorem Tryz.ins_shift_str (g n c i vb : Nat) (cur : Array Value) (xs : List Value) (x : Value) (w : World) (hi : i < n) (hn : n ≤ 64) (hxl : xs.length = n) (hroom : n + 1 ≤ c) (hc63 : c ≤ 9223372036854775807)
    (hg : w.heap[g]? = some (.cells cur 9 (0, 0))) (hcz : cur.size = c) (hcs : ∀ j v, xs[j]? = some v → w.cell? ⟨g, j, none⟩ = some v) (hvb : w.heap[vb]? = some (.cells #[x] 9 (0, 0))) (hne : vb ≠ g)
    (h1c : ∀ v ∈ xs, v.oneCell' = true) (hx : x.oneCell' = true) :
    Calls Tryz.prog 130 #[.slice (some ⟨g, 0, none⟩) n c, .int .i64 i, .slice (some ⟨vb, 0, none⟩) 1 1] w fun e w' => e = .returned (.slice (some ⟨g, 0, none⟩) (n + 1) c) ∧ ∃ k, w' = ((w.drewN k).setCells g (i + 1) (xs.drop i)).setCells g i [x] := by
  obtain ⟨i0, hi0, hz0, hzs, hzb⟩ := info_parts Tryz.info_str
  have hsz : (Tryz.prog.info? 9).map (·.size) = some 1 := by rw [hi0]; simp [hzs]
  have hsp : ∀ j, j < n + 1 → (w.cell? ⟨g, j, none⟩).isSome = true := fun j hj => by rw [Jv.cell_heap hg, Array.getElem?_eq_getElem (by omega)]; rfl
  have hfz : ∀ j, w.frozen? ⟨g, j, none⟩ = false := fun j => Jv.frozen_heap hg j
  have hvs : w.cell? ⟨vb, 0, none⟩ = some x := by rw [Jv.cell_heap hvb]; rfl
  have hov : ∀ lb cb, (callFunc 159 #[.slice (some ⟨vb, 0, none⟩) 1 1, .slice (some ⟨g, i + 1, none⟩) lb cb]).run Tryz.prog w = .ok (.value (.bool false)) w := fun lb cb => by
    rw [run_callFunc_extern Tryz.func159 (by kernel_rfl) (by kernel_rfl) (by kernel_rfl) (e := Extern.SlicesOverlaps.overlaps #[34, 34] #[4]) (by kernel_rfl),
      Lib.run_overlaps_apart w 34 4 9 Tryz.underlying34 1 Tryz.size_str ⟨vb, 0, none⟩ ⟨g, i + 1, none⟩ 1 1 lb cb hne 9 9 1 c (by simp [World.shape?, hvb]) (by simp [World.shape?, hg, hcz]) (by omega) (Jv.frozen_heap hvb 0) (Jv.frozen_heap hvb 1)]
    rfl
  have hdl : (xs.drop i).length = n - i := by rw [List.length_drop, hxl]
  have hw1 : IntKind.i64.wrap ((i : Int) + 1) = (i : Int) + 1 := by rw [IntKind.wrap_i64]; omega
  have hb1 : (0 : Int) ≤ (i : Int) + 1 := by omega
  have hin : i ≤ n := by omega
  have htn : ((i : Int) + 1).toNat = i + 1 := by omega
  have hb2 : ¬ (c = i + 1) := by omega
  have hb3 : (i : Int) ≤ (n : Int) + 1 := by omega
  have hb4 : ¬ (c = i) := by omega
  have hz2 : ¬ ((i : Int) = (n : Int)) := by omega
  have hcp1 : ∀ ty dc sc, (Builtin.copy_ #[34, 34] ty #[.slice (some ⟨g, i + 1, none⟩) (n - i) dc, .slice (some ⟨g, i, none⟩) (n + 1 - i) sc]).run Tryz.prog w.drew = .ok (goInt (xs.drop i).length) (w.drew.setCells g (i + 1) (xs.drop i)) := fun ty dc sc =>
    run_copy_cells w.drew _ _ ty 9 g (i + 1) (n - i) dc ⟨g, i, none⟩ (n + 1 - i) sc (xs.drop i) Tryz.underlying34 hsz (by rw [hdl]; simp only [Nat.min_def]; split <;> omega)
      (fun j v hj => by rw [Addr.add_lit]; exact hcs (i + j) v (by rwa [List.getElem?_drop] at hj))
      (fun j hj => hsp _ (by omega)) (fun j hj => hfz _) (fun v hv => h1c v (List.mem_of_mem_drop hv))
  obtain ⟨W1, hW1⟩ : ∃ W1, W1 = w.drew.setCells g (i + 1) (xs.drop i) := ⟨_, rfl⟩
  have hsp1 : ∀ k, k < n + 1 → (W1.cell? ⟨g, k, none⟩).isSome = true := fun k hk => by
    rw [hW1]
    exact isSome_setCells g (xs.drop i) (i + 1) w.drew (fun j hj => hsp _ (by rw [hdl] at hj; omega)) k (hsp k hk)
  have hcp2 : ∀ (W : World), (∀ y, W.cell? y = W1.cell? y) → (∀ y, W.frozen? y = W1.frozen? y) → ∀ ty dc, (Builtin.copy_ #[34, 34] ty #[.slice (some ⟨g, i, none⟩) (n + 1 - i) dc, .slice (some ⟨vb, 0, none⟩) 1 1]).run Tryz.prog W = .ok (goInt [x].length) (W.setCells g i [x]) := fun W hWc hWf ty dc =>
    run_copy_cells W _ _ ty 9 g i (n + 1 - i) dc ⟨vb, 0, none⟩ 1 1 [x] Tryz.underlying34 hsz (by simp only [List.length_cons, List.length_nil, Nat.min_def]; split <;> omega)
      (fun j v hj => by
        rw [Addr.add_lit, Nat.zero_add, hWc, hW1, World.cell?_setCells_out g _ _ _ _ (fun h _ => absurd h hne)]
        match j, hj with
        | 0, hj => obtain rfl : x = v := by simpa using hj
                   exact hvs
        | j + 1, hj => simp at hj)
      (fun j hj => by rw [hWc]; exact hsp1 _ (by simp at hj; omega)) (fun j hj => by rw [hWf, hW1, World.frozen?_setCells]; exact hfz _) (by simpa using hx)
  rw [← hW1] at hcp1
  clear hg hvb hcz
  go_enter Tryz.func130, Tryz.ntmps130
  go_wp2_with (simp only [hov])
  go_region_law (refine step_copy_runI rfl _ _ 34 34 rfl _ _ (by simp [Act.eval, Act.put]) (by simp [Act.eval, Act.put]) (hcp1 _ _ _) ?_)
  go_wp2_with (at_builtin; refine wpList_copy_runI _ rfl _ _ 34 34 rfl _ _ rfl rfl (hcp2 _ (fun _ => rfl) (fun _ => rfl) _ _) ?_)
  go_ret
  exact ⟨rfl, 1, rfl⟩
set_option maxHeartbeats 2000000 in
/-- One item, wherever. -/
theorem Tryz.ins_any_str (B : Nat) (sv : Value) (xs : List Value) (w : World) (hrow : w.ownsRow B 9 1 sv xs.length xs) (hB : B ≤ w.heap.size) (i : Nat) (hi : i ≤ xs.length) (hn : xs.length ≤ 64) (x : Value) (hx : x.oneCell' = true) (h1c : ∀ v ∈ xs, v.oneCell' = true)
    (vb : Nat) (hvb : w.heap[vb]? = some (.cells #[x] 9 (0, 0))) (hne : sv.ownBlock ≠ some vb) :
    Calls Tryz.prog 130 #[sv, .int .i64 i, .slice (some ⟨vb, 0, none⟩) 1 1] w fun e w' => ∃ g cap, e = .returned (.slice (some ⟨g, 0, none⟩) (xs.length + 1) cap) ∧ w'.ownsRow B 9 1 (.slice (some ⟨g, 0, none⟩) (xs.length + 1) cap) (xs.length + 1) (insertAt xs i x) ∧ w.grownBy w' sv.ownBlock ∧ (sv.ownBlock = some g ∨ g = w.heap.size) := by
  by_cases hie : i = xs.length
  · subst hie
    have e : insertAt xs xs.length x = xs ++ [x] := by unfold insertAt; rw [List.take_of_length_le (Nat.le_refl _), List.drop_of_length_le (Nat.le_refl _)]
    rw [e]
    exact Tryz.ins_end_str B sv xs w hrow hB hn x hx vb hvb
  · have hlt : i < xs.length := by omega
    rcases hrow.2 with ⟨_, h0⟩ | ⟨g, cap, cur, rfl, hBg, hg, hnc, hcm, hcz, htk⟩
    · omega
    · simp only [Nat.mul_one] at hcz htk
      have hcs : ∀ j v, xs[j]? = some v → w.cell? ⟨g, j, none⟩ = some v := fun j v hj => by
        rw [Jv.cell_heap hg, ← Array.getElem?_toList]
        have hjl : j < xs.length := (List.getElem?_eq_some_iff.1 hj).1
        rw [← htk, List.getElem?_take, if_pos hjl] at hj
        exact hj
      have hcur : ∀ j, j < i → cur[j]? = xs[j]? := fun j hj => by
        have h1 := hcs j (xs[j]'(by omega)) (List.getElem?_eq_getElem (by omega))
        rw [Jv.cell_heap hg] at h1
        rw [h1, List.getElem?_eq_getElem (by omega)]
      have hgw : g < w.heap.size := (Array.getElem?_eq_some_iff.1 hg).1
      by_cases hr : xs.length + 1 ≤ cap
      · refine (Tryz.ins_shift_str g xs.length cap i vb cur xs x w hlt hn rfl hr (by unfold maxLen at hcm; omega) hg hcz hcs hvb (fun h => hne (by rw [h]; rfl)) h1c hx).mono ?_
        rintro e w' ⟨rfl, k, rfl⟩
        have hh : (((w.drewN k).setCells g (i + 1) (xs.drop i)).setCells g i [x]).heap[g]? = some (.cells (over (over cur (i + 1) (xs.drop i)) i [x]) 9 (0, 0)) := heap_sets _ _ _ _ (heap_sets _ _ (w.drewN k) _ hg)
        refine ⟨g, cap, rfl, ⟨by rw [insertAt_len]; omega, .inr ⟨g, cap, _, rfl, hBg, hh, hr, hcm, by rw [over_size, over_size]; omega, ?_⟩⟩, ⟨?_, ?_, ?_, ?_, ?_⟩, .inl rfl⟩
        · rw [Nat.mul_one]; exact ins_take (by omega) (by omega) hcur
        · rw [(sets_rest g [x] i _).1, (sets_rest g (xs.drop i) (i + 1) _).1]; rfl
        · rw [(sets_rest g [x] i _).2.1, (sets_rest g (xs.drop i) (i + 1) _).2.1]; rfl
        · rw [(sets_rest g [x] i _).2.2, (sets_rest g (xs.drop i) (i + 1) _).2.2]; rfl
        · rw [sets_size, sets_size]; exact Nat.le_refl _
        · intro m hm hmg
          have hne2 : m ≠ g := fun h => hmg (by rw [h]; rfl)
          rw [heap_sets_other hne2, heap_sets_other hne2]; rfl
      · obtain rfl : cap = xs.length := by omega
        refine (Tryz.ins_grow_str g xs.length i vb xs x w hlt hn rfl hcs (by rw [Jv.cell_heap hvb]; rfl) h1c hx).mono ?_
        rintro e w' ⟨G, hG1, hG2, rfl, rfl⟩
        generalize hR : ((xs.take i).toArray ++ Builtin.zeroCells (.string ⟨#[]⟩ : Value).cells (xs.length + 1 - i) ++ Builtin.zeroCells (.string ⟨#[]⟩ : Value).cells (G - (xs.length + 1))) = ROW
        have hRs : ROW.size = G := by
          rw [← hR]
          simp [Builtin.zeroCells, Value.cells]
          omega
        have hRc : ∀ j, j < i → ROW[j]? = xs[j]? := fun j hj => by
          rw [← hR, Array.append_assoc, Array.getElem?_append_left (by simp; omega)]
          simp [hj]
        have hh : ((((w.alloc (.cells ROW 9)).drew.setCells w.heap.size i [x]).drew).setCells w.heap.size (i + 1) (xs.drop i)).heap[w.heap.size]? = some (.cells (over (over ROW i [x]) (i + 1) (xs.drop i)) 9 (0, 0)) :=
          heap_sets _ _ _ _ (heap_sets [x] i ((w.alloc (.cells ROW 9)).drew) ROW (heap_alloc_new w _))
        refine ⟨w.heap.size, G, rfl, ⟨by rw [insertAt_len]; omega, .inr ⟨w.heap.size, G, _, rfl, hB, hh, hG1, hG2, by rw [over_size, over_size]; omega, ?_⟩⟩, ⟨?_, ?_, ?_, ?_, ?_⟩, .inr rfl⟩
        · rw [Nat.mul_one]; exact ins_take2 (by omega) (by omega) hRc
        · exact (sets_rest w.heap.size (xs.drop i) (i + 1) _).1.trans (sets_rest w.heap.size [x] i ((w.alloc (.cells ROW 9)).drew)).1
        · exact (sets_rest w.heap.size (xs.drop i) (i + 1) _).2.1.trans (sets_rest w.heap.size [x] i ((w.alloc (.cells ROW 9)).drew)).2.1
        · exact (sets_rest w.heap.size (xs.drop i) (i + 1) _).2.2.trans (sets_rest w.heap.size [x] i ((w.alloc (.cells ROW 9)).drew)).2.2
        · rw [sets_size]; show w.heap.size ≤ ((w.alloc (.cells ROW 9)).drew.setCells w.heap.size i [x]).heap.size; rw [sets_size]; simp
        · intro m hm _
          have hne2 : m ≠ w.heap.size := by omega
          rw [heap_sets_other hne2]
          show ((w.alloc (.cells ROW 9)).drew.setCells w.heap.size i [x]).heap[m]? = _
          rw [heap_sets_other hne2]
          exact Below.heap_alloc w _ m hm
end Go.Proofs
namespace Go.Proofs
open Go.RowKit Go.Jv
/-- Blocks that hold neither of the two rows. -/
def Jv.okp (x : Nat) (kv sv : Value) (g : Nat) : Prop := x + 1 ≤ g ∧ kv.ownBlock ≠ some g ∧ sv.ownBlock ≠ some g
/-- An object in the making: keys, values; one value more (v at y) that stands ready, or none (y none). -/
structure Tryz.Oc (b : Nat) (t : ByteArray) (q o : Nat) (w : World) (x : Nat) (ks : List ByteArray) (vs : List V) (kv sv : Value) (xs : List Nat) (ready : Option (V × Nat)) (wr : World) : Prop where
  vb : Jv.Vb wr x 5 false 0 emp kv sv
  krow : wr.ownsRow (x + 1) 9 1 kv ks.length (ks.map Value.string)
  row : wr.ownsRow (x + 1) 24 1 sv xs.length (Jv.ptrs xs)
  apart : ∀ m, kv.ownBlock = some m → sv.ownBlock ≠ some m
  trs : Tryz.Trs wr (Jv.okp x kv sv) vs xs
  rdy : ∀ v y, ready = some (v, y) → Tryz.Tr wr (Jv.okp x kv sv) v y
  rd : Rd wr b t q o
  wk : Wk b w wr
  tb : Tryz.Tb wr
  hx : w.heap.size ≤ x
  hb : b < w.heap.size
  hbg : 8 ≤ b
theorem Tryz.Oc.wk_on {b : Nat} {t : ByteArray} {q q2 o o2 : Nat} {w : World} {x : Nat} {ks : List ByteArray} {vs : List V} {kv sv : Value} {xs : List Nat} {wr w2 : World}
    (h : Tryz.Oc b t q o w x ks vs kv sv xs none wr) (g : Wk b wr w2) (hR : Rd w2 b t q2 o2) : Tryz.Oc b t q2 o2 w x ks vs kv sv xs none w2 := by
  have hbx : b < x := Nat.lt_of_lt_of_le h.hb h.hx
  exact ⟨Jv.vb_wk h.vb g (by omega), Jv.row_wk h.krow g (by omega), Jv.row_wk h.row g (by omega), h.apart, Tryz.trs_wk h.trs g (fun hh => by have := hh.1; omega), (fun v y e => by cases e), hR, h.wk.trans g, h.tb.wk g h.hbg, h.hx, h.hb, h.hbg⟩
/-- A value has been made. -/
theorem Tryz.Oc.ready {b : Nat} {t : ByteArray} {q q2 o : Nat} {w : World} {x : Nat} {ks : List ByteArray} {vs : List V} {kv sv : Value} {xs : List Nat} {wr w2 : World} {v : V} {y : Nat}
    (h : Tryz.Oc b t q o w x ks vs kv sv xs none wr) (g : Wk b wr w2) (hR : Rd w2 b t q2 o) (hv : Tryz.Tr w2 (fun m => wr.heap.size ≤ m) v y) : Tryz.Oc b t q2 o w x ks vs kv sv xs (some (v, y)) w2 := by
  have h2 := h.wk_on g hR
  refine ⟨h2.vb, h2.krow, h2.row, h2.apart, h2.trs, ?_, h2.rd, h2.wk, h2.tb, h2.hx, h2.hb, h2.hbg⟩
  intro v' y' e
  injection e with e; injection e with e1 e2; subst e1; subst e2
  refine Tryz.Tr_mono (fun m hm _ => ?_) v y hv
  have hm' : wr.heap.size ≤ m := hm
  have hxl := h.vb.lt
  refine ⟨by omega, fun e => ?_, fun e => ?_⟩
  · have := (Jv.row_lt h.krow m e).2; omega
  · have := (Jv.row_lt h.row m e).2; omega
theorem Jv.Vb.set4 {w : World} {x : Nat} {k : Int} {tr : Bool} {n : Int} {s : ByteArray} {ks is : Value} (h : Jv.Vb w x k tr n s ks is) (u : Value) : Jv.Vb (w.setCell ⟨x, 4, none⟩ u) x k tr n s u is := by
  have hs : ∀ y, (w.setCell ⟨x, 4, none⟩ u).frozen? y = w.frozen? y := fun y => by simp
  refine ⟨?_, ?_, ?_, ?_, World.cell?_setCell_same' _ _ _ (by rw [h.c4]; rfl), ?_, (hs _).trans h.f4, (hs _).trans h.f5, by simpa using h.lt, by obtain ⟨cs, T, h1⟩ := h.un; exact ⟨_, T, heap_setCell_same w x 4 cs T u h1⟩⟩
  · rw [World.cell?_setCell_other _ _ _ _ (by simp)]; exact h.c0
  · rw [World.cell?_setCell_other _ _ _ _ (by simp)]; exact h.c1
  · rw [World.cell?_setCell_other _ _ _ _ (by simp)]; exact h.c2
  · rw [World.cell?_setCell_other _ _ _ _ (by simp)]; exact h.c3
  · rw [World.cell?_setCell_other _ _ _ _ (by simp)]; exact h.c5
/-- What a growing of one row, and a store into the value's block, leave. -/
theorem Tryz.Oc.rest {b : Nat} {t : ByteArray} {q o : Nat} {w : World} {x : Nat} {ks : List ByteArray} {vs : List V} {kv sv : Value} {xs : List Nat} {rd : Option (V × Nat)} {wr w2 : World} {ob : Obj} {own : Option Nat} {f : Nat} {u : Value}
    (h : Tryz.Oc b t q o w x ks vs kv sv xs rd wr) (hg : (wr.alloc ob).grownBy w2 own) (hown : ∀ k, own = some k → x + 1 ≤ k ∧ k < wr.heap.size) :
    (∀ m, m < wr.heap.size → m ≠ x → own ≠ some m → (w2.setCell ⟨x, f, none⟩ u).heap[m]? = wr.heap[m]?) ∧ wr.heap.size ≤ (w2.setCell ⟨x, f, none⟩ u).heap.size ∧
    Rd (w2.setCell ⟨x, f, none⟩ u) b t q o ∧ Wk b w (w2.setCell ⟨x, f, none⟩ u) ∧ Tryz.Tb (w2.setCell ⟨x, f, none⟩ u) ∧ w2.heap[x]? = wr.heap[x]? := by
  have hbx : b < x := Nat.lt_of_lt_of_le h.hb h.hx
  have hxl := h.vb.lt
  have k1 : ∀ m, m < wr.heap.size → own ≠ some m → w2.heap[m]? = wr.heap[m]? := fun m hm hne => (hg.block m (by simp; omega) (Ne.symm hne)).trans (Below.heap_alloc wr _ m hm)
  have k2 : ∀ m, m < wr.heap.size → m ≠ x → own ≠ some m → (w2.setCell ⟨x, f, none⟩ u).heap[m]? = wr.heap[m]? := fun m hm hx hne => (Below.heap_setCell w2 ⟨x, f, none⟩ u m hx).trans (k1 m hm hne)
  have hs : wr.heap.size ≤ (w2.setCell ⟨x, f, none⟩ u).heap.size := by have := hg.size; simp at this ⊢; omega
  have nb : own ≠ some b := fun e => by have := (hown b e).1; omega
  have nx : own ≠ some x := fun e => by have := (hown x e).1; omega
  refine ⟨k2, hs, Jv.rd_keep h.rd (k2 b (by omega) (by omega) nb) hs, ⟨?_, ?_, ?_, Nat.le_trans h.wk.size hs, fun m hm hb => ?_⟩, ⟨Nat.le_trans h.tb.size hs, fun w' hw' => h.tb.all w' fun m hm => ?_⟩, k1 x hxl nx⟩
  · exact hg.os.trans h.wk.os
  · exact hg.tape.trans h.wk.tape
  · exact hg.output.trans h.wk.output
  · have h1 := h.wk.size
    have h2 := h.hx
    exact (k2 m (by omega) (by omega) (fun e => by have := (hown m e).1; omega)).trans (h.wk.block m hm hb)
  · have h1 := h.tb.size
    have h2 := h.hbg
    exact (hw' m hm).trans (k2 m (by omega) (by omega) (fun e => by have := (hown m e).1; omega))
/-- A key has been put in. -/
theorem Tryz.Oc.key {b : Nat} {t : ByteArray} {q o : Nat} {w : World} {x : Nat} {ks : List ByteArray} {vs : List V} {kv sv : Value} {xs : List Nat} {rd : Option (V × Nat)} {wr w2 : World} {ob : Obj} {g cap i : Nat} {k : ByteArray}
    (h : Tryz.Oc b t q o w x ks vs kv sv xs rd wr) (hg : (wr.alloc ob).grownBy w2 kv.ownBlock)
    (hrow : w2.ownsRow (x + 1) 9 1 (.slice (some ⟨g, 0, none⟩) (ks.length + 1) cap) (ks.length + 1) (insertAt (ks.map Value.string) i (.string k))) (hat : kv.ownBlock = some g ∨ g = wr.heap.size + 1) :
    Tryz.Oc b t q o w x (insertAt ks i k) vs (.slice (some ⟨g, 0, none⟩) (ks.length + 1) cap) sv xs rd (w2.setCell ⟨x, 4, none⟩ (.slice (some ⟨g, 0, none⟩) (ks.length + 1) cap)) := by
  obtain ⟨k2, hs, hR, hW, hT, hxx⟩ := h.rest (f := 4) (u := .slice (some ⟨g, 0, none⟩) (ks.length + 1) cap) hg (fun m e => Jv.row_lt h.krow m e)
  have hmap : (insertAt ks i k).map Value.string = insertAt (ks.map Value.string) i (.string k) := by unfold insertAt; simp [List.map_take, List.map_drop]
  have hs2 : wr.heap.size ≤ w2.heap.size := by simpa using hs
  have hnew : ∀ m, Jv.okp x kv sv m → m < wr.heap.size → Jv.okp x (.slice (some ⟨g, 0, none⟩) (ks.length + 1) cap) sv m := fun m hm hlt => by
    refine ⟨hm.1, fun e => ?_, hm.2.2⟩
    simp [Value.ownBlock] at e
    subst e
    rcases hat with h1 | h1
    · exact hm.2.1 h1
    · omega
  have hkeep : ∀ m, Jv.okp x kv sv m → m < wr.heap.size → (w2.setCell ⟨x, 4, none⟩ (.slice (some ⟨g, 0, none⟩) (ks.length + 1) cap)).heap[m]? = wr.heap[m]? := fun m hm hlt => k2 m hlt (by have := hm.1; omega) hm.2.1
  refine ⟨(h.vb.keep hxx hs2).set4 _, ?_, ?_, ?_, ?_, ?_, hR, hW, hT, h.hx, h.hb, h.hbg⟩
  · rw [hmap, insertAt_len]
    exact Jv.row_kept hrow fun m hm _ => Below.heap_setCell w2 ⟨x, 4, none⟩ _ m (by show m ≠ x; omega)
  · refine Jv.row_move h.row fun m hm => ?_
    have h1 := Jv.row_lt h.row m hm
    exact ⟨h1.1, k2 m h1.2 (by omega) (fun e => h.apart m e hm)⟩
  · intro m hm hsv
    simp [Value.ownBlock] at hm
    subst hm
    rcases hat with h1 | h1
    · exact h.apart _ h1 hsv
    · have := (Jv.row_lt h.row _ hsv).2; omega
  · have h1 := Tryz.Trs_mono (ok' := fun m => Jv.okp x kv sv m ∧ m < wr.heap.size) (fun m hm hlt => ⟨hm, hlt⟩) vs xs h.trs
    exact Tryz.Trs_mono (fun m hm _ => hnew m hm.1 hm.2) vs xs (Tryz.Trs_keep (fun m hm hlt => hkeep m hm.1 hlt) hs vs xs h1)
  · intro v y e
    have h1 := Tryz.Tr_mono (ok' := fun m => Jv.okp x kv sv m ∧ m < wr.heap.size) (fun m hm hlt => ⟨hm, hlt⟩) v y (h.rdy v y e)
    exact Tryz.Tr_mono (fun m hm _ => hnew m hm.1 hm.2) v y (Tryz.Tr_keep (fun m hm hlt => hkeep m hm.1 hlt) hs v y h1)
theorem Tryz.Trs_insert {w : World} {ok : Nat → Prop} {v : V} {y : Nat} (hv : Tryz.Tr w ok v y) : ∀ (i : Nat) (l : List V) (xs : List Nat), i ≤ l.length → Tryz.Trs w ok l xs → Tryz.Trs w ok (insertAt l i v) (insertAt xs i y)
  | 0, l, xs, _, h => by
    show Tryz.Trs w ok (v :: l) (y :: xs)
    unfold Tryz.Trs
    exact ⟨y, xs, rfl, hv, h⟩
  | i + 1, [], xs, hi, h => by simp at hi
  | i + 1, u :: l, xs, hi, h => by
    unfold Tryz.Trs at h
    obtain ⟨z, r, rfl, h2, h3⟩ := h
    show Tryz.Trs w ok (u :: insertAt l i v) (z :: insertAt r i y)
    unfold Tryz.Trs
    exact ⟨z, _, rfl, h2, Tryz.Trs_insert hv i l r (by simpa using hi) h3⟩
/-- The value has been put in. -/
theorem Tryz.Oc.item {b : Nat} {t : ByteArray} {q o : Nat} {w : World} {x : Nat} {ks : List ByteArray} {vs : List V} {kv sv : Value} {xs : List Nat} {v : V} {y : Nat} {wr w2 : World} {ob : Obj} {g cap i : Nat}
    (h : Tryz.Oc b t q o w x ks vs kv sv xs (some (v, y)) wr) (hi : i ≤ vs.length) (hg : (wr.alloc ob).grownBy w2 sv.ownBlock)
    (hrow : w2.ownsRow (x + 1) 24 1 (.slice (some ⟨g, 0, none⟩) (xs.length + 1) cap) (xs.length + 1) (insertAt (Jv.ptrs xs) i (.pointer (some ⟨y, 0, none⟩)))) (hat : sv.ownBlock = some g ∨ g = wr.heap.size + 1) :
    Tryz.Oc b t q o w x ks (insertAt vs i v) kv (.slice (some ⟨g, 0, none⟩) (xs.length + 1) cap) (insertAt xs i y) none (w2.setCell ⟨x, 5, none⟩ (.slice (some ⟨g, 0, none⟩) (xs.length + 1) cap)) := by
  obtain ⟨k2, hs, hR, hW, hT, hxx⟩ := h.rest (f := 5) (u := .slice (some ⟨g, 0, none⟩) (xs.length + 1) cap) hg (fun m e => Jv.row_lt h.row m e)
  have hmap : Jv.ptrs (insertAt xs i y) = insertAt (Jv.ptrs xs) i (.pointer (some ⟨y, 0, none⟩)) := by unfold insertAt Jv.ptrs; simp [List.map_take, List.map_drop]
  have hs2 : wr.heap.size ≤ w2.heap.size := by simpa using hs
  have hnew : ∀ m, Jv.okp x kv sv m → m < wr.heap.size → Jv.okp x kv (.slice (some ⟨g, 0, none⟩) (xs.length + 1) cap) m := fun m hm hlt => by
    refine ⟨hm.1, hm.2.1, fun e => ?_⟩
    simp [Value.ownBlock] at e
    subst e
    rcases hat with h1 | h1
    · exact hm.2.2 h1
    · omega
  have hkeep : ∀ m, Jv.okp x kv sv m → m < wr.heap.size → (w2.setCell ⟨x, 5, none⟩ (.slice (some ⟨g, 0, none⟩) (xs.length + 1) cap)).heap[m]? = wr.heap[m]? := fun m hm hlt => k2 m hlt (by have := hm.1; omega) hm.2.2
  refine ⟨(h.vb.keep hxx hs2).set5 _, ?_, ?_, ?_, ?_, (fun v y e => by cases e), hR, hW, hT, h.hx, h.hb, h.hbg⟩
  · refine Jv.row_move h.krow fun m hm => ?_
    have h1 := Jv.row_lt h.krow m hm
    exact ⟨h1.1, k2 m h1.2 (by omega) (fun e => h.apart m hm e)⟩
  · rw [hmap, insertAt_len]
    exact Jv.row_kept hrow fun m hm _ => Below.heap_setCell w2 ⟨x, 5, none⟩ _ m (by show m ≠ x; omega)
  · intro m hm hsv
    simp [Value.ownBlock] at hsv
    subst hsv
    rcases hat with h1 | h1
    · exact h.apart _ hm h1
    · have := (Jv.row_lt h.krow _ hm).2; omega
  · have h1 := Tryz.Trs_mono (ok' := fun m => Jv.okp x kv sv m ∧ m < wr.heap.size) (fun m hm hlt => ⟨hm, hlt⟩) vs xs h.trs
    have h2 := Tryz.Trs_mono (fun m hm _ => hnew m hm.1 hm.2) vs xs (Tryz.Trs_keep (fun m hm hlt => hkeep m hm.1 hlt) hs vs xs h1)
    have h3 := Tryz.Tr_mono (ok' := fun m => Jv.okp x kv sv m ∧ m < wr.heap.size) (fun m hm hlt => ⟨hm, hlt⟩) v y (h.rdy v y rfl)
    have h4 := Tryz.Tr_mono (fun m hm _ => hnew m hm.1 hm.2) v y (Tryz.Tr_keep (fun m hm hlt => hkeep m hm.1 hlt) hs v y h3)
    exact Tryz.Trs_insert h4 i vs xs hi h2
end Go.Proofs
