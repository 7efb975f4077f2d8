/-
  awake, for seats without formatted. (Written by genawake.py out of Kc, Kf, Ki.)
-/
import Derived.Test.YtbnokhaimcpggaaKa
import Derived.Test.YtbnokhaimcpggaaEc
import Derived.Lib.SlBytesConst
namespace Go.Proofs
open Go.RowKit Go.Dk
theorem Dk.row_form {w : World} {B : Nat} {e : TypeId} {v : Value} {n : Nat} {xs : List Value} (h : w.ownsRow B e 1 v n xs) : ∃ ad cap, v = .slice ad n cap ∧ n ≤ cap ∧ cap ≤ maxLen ∧ (ad = none → cap = 0) ∧ ∀ (i : Nat) (u : Value), xs[i]? = some u → ∃ g, ad = some ⟨g, 0, none⟩ ∧ B ≤ g ∧ g < w.heap.size ∧ w.cell? ⟨g, i, none⟩ = some u := by
  obtain ⟨hl, h | ⟨g, cap, cur, rfl, hg, hb, h1, h2, h3, h4⟩⟩ := h
  · obtain ⟨rfl, rfl⟩ := h
    have : xs = [] := List.eq_nil_of_length_eq_zero (by omega)
    subst this
    exact ⟨none, 0, rfl, Nat.le_refl _, Nat.zero_le _, fun _ => rfl, fun i u hu => by simp at hu⟩
  · refine ⟨some ⟨g, 0, none⟩, cap, rfl, h1, h2, (fun e => by cases e), fun i u hu => ⟨g, rfl, hg, Dk.block_lt hb, ?_⟩⟩
    rw [cell_of_row _ _ _ _ _ _ hb]
    rw [← h4, List.getElem?_take] at hu
    split at hu
    · simpa using hu
    · cases hu
theorem Try.conv_src {W : World} {g o n c : Nat} {b : List UInt8} (h : Dk.Src W (.slice (some ⟨g, o, none⟩) n c) b) : (convert 22 9 (.slice (some ⟨g, o, none⟩) n c)).run Try.prog W = .ok (.string ⟨b.toArray⟩) W := by
  obtain ⟨hn, hc⟩ := h.cell
  subst hn
  refine run_convert_bytes_back (P := Try.prog) W 22 9 5 ⟨g, o, none⟩ c b Try.underlying22 Try.underlying5 Try.underlying9 (fun j hj => ?_)
  rcases hc with rfl | ⟨sb, so, e, -, hc⟩
  · simp at hj
  · cases e
    rw [Addr.add_mid]
    exact hc j _ (Dk.byteCell hj)
/-- Where a record lies that was cut out of a row. -/
theorem Dk.cut_at {R : List UInt8} (g : Nat) : ∀ (recs : List (List UInt8)) (p e : Nat), Go.Dk.cut R p = (recs, e) → ∀ (i : Nat) (d : List UInt8), recs[i]? = some d → ∃ o, (Dk.recCs g p recs)[i]? = some (.slice (some ⟨g, o, none⟩) d.length d.length) ∧ (R.drop o).take d.length = d ∧ o + d.length ≤ R.length
  | [], _, _, _, i, d, hi => by simp at hi
  | d0 :: r, p, e, h, i, d, hi => by
    cases hra : recAt R p with
    | none => rw [cut_none hra] at h; cases h
    | some d' =>
      rw [cut_some hra] at h
      injection h with h1 h2
      injection h1 with h3 h4
      subst h3
      obtain ⟨k1, k2, k3, k4⟩ := recAt_some hra
      cases i with
      | zero =>
        simp at hi
        subst hi
        exact ⟨p + 7, rfl, k4.symm, k1⟩
      | succ i =>
        simp at hi
        obtain ⟨o, h5, h6⟩ := Dk.cut_at g r (p + 7 + d'.length) e (by rw [← h4, ← h2]) i d hi
        exact ⟨o, by simpa [Dk.recCs] using h5, h6⟩
end Go.Proofs
namespace Go.Dk
theorem new_view (n : Nat) : (Go.Proofs.Dk.new n).view = List.replicate (64 * n) 0 := rfl
theorem new_can (n : Nat) : (Go.Proofs.Dk.new n).Can 1000000 := ⟨rfl, by simp [Go.Proofs.Dk.new], by simp [Go.Proofs.Dk.new], by simp [Go.Proofs.Dk.new], by simp [Go.Proofs.Dk.new], by simp [Go.Proofs.Dk.new], by simp [Go.Proofs.Dk.new]⟩
theorem blk_take {L : List UInt8} (i : Nat) : L.take (64 * i) ++ blk L i = L.take (64 * (i + 1)) := by
  rw [show 64 * (i + 1) = 64 * i + 64 by omega, List.take_add]; rfl
/-- So much of a disk has another one's bytes. -/
structure Copied (c : DS) (v : List UInt8) (n i : Nat) : Prop where
  cn : c.n = n
  fs : c.fset = false
  len : c.view.length = 64 * n
  pre : c.view.take (64 * i) = v.take (64 * i)
theorem Copied.step {c : DS} {v : List UInt8} {n i : Nat} (h : Copied c v n i) (hv : v.length = 64 * n) (hi : i < n) : (c.op (.wr i (blk v i))).2 = true ∧ Copied (c.op (.wr i (blk v i))).1 v n (i + 1) := by
  have hb := blk_length hv hi
  refine ⟨(op_free c _ h.fs).1, (DS.op_n _ _).trans h.cn, (op_free c _ h.fs).2, ?_, ?_⟩
  · rw [op_wr_view h.fs, length_put (by rw [pad_length (by omega), h.len]; omega), h.len]
  · rw [op_wr_view h.fs, pad64 hb]
    unfold put
    rw [h.pre, List.append_assoc, ← List.append_assoc, blk_take, List.take_append_of_le_length (by rw [List.length_take, hv]; omega), List.take_take, Nat.min_self]
theorem Copied.all {c : DS} {v : List UInt8} {n : Nat} (h : Copied c v n n) (hv : v.length = 64 * n) : c.view = v := by
  have := h.pre
  rwa [List.take_of_length_le (by rw [h.len]; omega), List.take_of_length_le (by omega)] at this
/-- What a disk holds hangs on its bytes alone. -/
theorem Holds.of {s c : DS} {g a : Nat} {snap : List UInt8} {recs : List (List UInt8)} (h : Holds s g a snap recs) (hv : c.view = s.view) (hn : c.n = s.n) (fs : c.fset = false) (sy : c.W = []) : Holds c g a snap recs :=
  ⟨fs, sy, by rw [hv, hn]; exact h.len, by rw [hn]; exact h.n8, by rw [hn]; exact h.n4, h.a1, h.g1, h.g2, by rw [hv]; exact h.head, by rw [hv, hn]; exact h.other, by rw [hn]; exact h.small, h.rl, by rw [hv, hn]; exact h.bytes, by rw [hv, hn]; exact h.zero⟩
end Go.Dk
namespace Go.Proofs
open Go.RowKit Go.Dk
theorem Try.new_dsk (w : World) (n : Nat) (h0 : 8 ≤ n) (hn : n ≤ 4096) :
    Calls Try.prog 14 #[.int .i64 n] w fun e w' => ∃ x own, e = .returned (.tuple #[.pointer (some ⟨x, 0, none⟩), .int .i64 0]) ∧ Try.Dsk w' own x (Dk.new n) ∧ (∀ k, own k → w.heap.size ≤ k) ∧ Below w.heap.size w w' := by
  refine (Try.new_ok w n h0 hn).mono ?_
  rintro e w' ⟨x, l, t, rfl, hm, hb, h1, h2, h3⟩
  refine ⟨x, Dk.foot x l t (.slice none 0 0), rfl, ⟨⟨l, t, _, hm, fun k e => e⟩, hm.foot_lt⟩, ?_, hb⟩
  rintro k (rfl | rfl | rfl | e)
  · exact h1
  · exact h2
  · exact h3
  · cases e
theorem Try.Dsk.blocks {w : World} {own : Nat → Prop} {x : Nat} {s : DS} (h : Try.Dsk w own x s) :
    Calls Try.prog 94 #[.pointer (some ⟨x, 0, none⟩)] w fun e w' => e = .returned (.int .i64 s.n) ∧ w' = w := by
  obtain ⟨l, t, V, hm, -⟩ := h.ex
  exact Try.blocks_any hm
theorem Try.Dsk.read {w : World} {own : Nat → Prop} {x : Nat} {s : DS} (h : Try.Dsk w own x s) (hd : s.dead = false) (i : Nat) (hi : i < s.n) :
    Calls Try.prog 32 #[.pointer (some ⟨x, 0, none⟩), .int .i64 i] w fun e w' => ∃ g, e = .returned (.tuple #[.slice (some ⟨g, 0, none⟩) 64 64, .int .i64 0]) ∧ Dk.Src w' (.slice (some ⟨g, 0, none⟩) 64 64) (blk s.view i) ∧ Below w.heap.size w w' := by
  obtain ⟨l, t, V, hm, -⟩ := h.ex
  refine (Try.read_ok hm rfl hd i hi).mono ?_
  rintro e w' ⟨rfl, h1, h2⟩
  have hbl := blk_length h.len.1 hi
  refine ⟨_, rfl, ⟨_, 64, by rw [hbl], .inr ⟨_, 0, rfl, Dk.block_lt h1, fun j u hu => ?_⟩⟩, h2⟩
  rw [Nat.zero_add, cell_of_row _ _ _ _ _ _ h1]
  simpa using hu
end Go.Proofs
namespace Go.Dk
theorem recs_le : ∀ recs : List (List UInt8), recs.length ≤ (recs.flatMap recB).length
  | [] => Nat.le_refl _
  | d :: r => by
    have := recs_le r
    have h1 := recB_len d
    simp only [List.flatMap_cons, List.length_append, List.length_cons]
    omega
theorem Holds.few {s : DS} {g a : Nat} {snap : List UInt8} {recs : List (List UInt8)} (h : Holds s g a snap recs) : recs.length < 1000000 := by
  have h1 := recs_le recs
  have h2 := h.small
  have h3 := h.n4
  simp only [body, List.length_append] at h2
  unfold half at h2
  omega
end Go.Dk
namespace Go.Proofs
open Go.RowKit Go.Dk
theorem Dk.Wo.bel {own : Nat → Prop} {w w' : World} {B : Nat} (h : Dk.Wo own w w') (hf : ∀ k, own k → B ≤ k) (hB : B ≤ w.heap.size) : Below B w w' :=
  ⟨h.os, h.tape, h.output, h.size, fun k hk => h.block k (by omega) (fun e => by have := hf k e; omega)⟩
theorem Dk.ab_src (w : World) (fr : Nat × Nat) : Dk.Src (w.alloc (.cells #[.int .u8 97, .int .u8 98] 5 fr)) (.slice (some ⟨w.heap.size, 0, none⟩) 2 2) [97, 98] :=
  ⟨_, 2, rfl, .inr ⟨w.heap.size, 0, rfl, by simp, fun j u hj => by rw [Nat.zero_add, cell_of_row _ _ _ _ _ _ (heap_alloc_new w _)]; simpa [Lib.byteCells] using hj⟩⟩
set_option maxHeartbeats 2000000 in
set_option maxRecDepth 20000 in
theorem Try.awake_any (w : World) : Calls Try.prog 5 #[] w fun r w' => r = .returned (.bool true) ∧ Below w.heap.size w w' := by
  have hne := Try.new_dsk w 8 (by omega) (by omega)
  have hcv := fun (w : World) (C : Array Value) (n c : Nat) => Lib.run_convert_bytes_const (P := Try.prog) w 22 5 C n c Try.underlying22 Try.underlying5
  go_enter Try.func5, Try.ntmps5
  go_wp2_with (first
    | (go_at_call 14; refine hne.mono ?_; clear hne; rintro e w1 ⟨x, own, rfl, hD, hlo, hb1⟩; have hfo := Try.format_at (q := 900000) hD ((new_can 8).mono (by omega)) rfl (new_view 8) (by decide) (by decide))
    | (go_at_call 15; refine hfo.mono ?_; clear hfo; rintro e w2 ⟨rfl, hch, hho, hca, hn⟩; obtain ⟨own2, hD2, hlo2⟩ := hch.ex; have hop := Try.open_at hD2 hho hca)
    | (go_at_call 16; refine hop.mono ?_; clear hop; rintro e w3 ⟨y, sn, rv, rfl, hG⟩; obtain ⟨b, R, -, -, -, -, -, -, hsn, hrv⟩ := hG.ex; subst hsn; obtain ⟨ad, cap, hrv1, -⟩ := Dk.row_form hrv; subst hrv1; clear hrv; have hn' : (Dk.formatN (Dk.new 8)).n = 8 := hn; have hs3 := hG.bel.size)
    | (go_at_call 17; refine ((hG.jd.below ((Below.refl w3.heap.size w3).alloc (Nat.le_refl _) _)).append (q := 897000) _ [97, 98] (Dk.ab_src w3 _) (by rw [hn']; decide)).mono ?_; rintro e w4 ⟨rfl, hJs⟩; obtain ⟨own4, s4, hJ4, hn4, -, hlo4⟩ := hJs.ex; have hop := Try.open_at hJ4.dsk hJ4.ho hJ4.can; rw [hn'] at hn4; have HWO : Hid _ := hJs.wo; have HB3 : Hid _ := hG.bel; have hy0 := hG.y0; clear hJs hG hn hn')
    | (go_at_call 16; refine hop.mono ?_; clear hop; rintro e w5 ⟨y5, sn5, rv5, rfl, hG5⟩; obtain ⟨b5, R5, -, -, hR5, -, -, hcut5, hsn5, hrv5⟩ := hG5.ex; subst hsn5; obtain ⟨ad5, cap5, hrv51, -, -, -, hcs5⟩ := Dk.row_form hrv5; subst hrv51; obtain ⟨o, ho1, ho2, ho3⟩ := Dk.cut_at b5 [[97, 98]] _ _ hcut5 0 [97, 98] rfl; obtain ⟨g5, hg5, -, hgl, hgc⟩ := hcs5 0 _ ho1; subst hg5; have hcv5 := Try.conv_src (hR5.sub o 2 2 ho3); rw [show (R5.drop o).take 2 = [97, 98] from ho2] at hcv5; have hgc5 : w5.cell? ⟨g5, 0, none⟩ = some (.slice (some ⟨b5, o, none⟩) 2 2) := hgc; clear hgc; have hrm := hG5.jd.room; rw [hn4, show Dk.roomZ 8 (body [] ([] ++ [[97, 98]])).length = 176 by decide] at hrm; have HB5 : Hid _ := hG5.bel; have HB1 : Hid _ := hb1; have HCH : Hid _ := hch.wo; have HLO : Hid _ := hlo; have HLO2 : Hid _ := hlo2; clear hG5 hJ4 hcut5 hrv5 hcs5 hR5 ho1 ho2 ho3 hch hho hca hD2 hD hb1 hlo hlo2)
    | (go_at_call 18; refine hrm.mono ?_; clear hrm; rintro e w6 ⟨rfl, hb6⟩)
    | fail)
  go_ret
  refine ⟨by simp, ?_⟩
  have hz1 := HB1.out.size
  have hz2 := HCH.out.size
  have hz3 := HB3.out.size
  have hz4 := HWO.out.size
  have hz5 := HB5.out.size
  simp only [World.size_alloc] at hz4
  have hl2 : ∀ k, own2 k → w.heap.size ≤ k := fun k e => by rcases HLO2.out k e with e1 | e1; exact HLO.out k e1; omega
  refine HB1.out.trans ((HCH.out.bel HLO.out hz1).trans ((HB3.out.mono (by omega)).trans (((Below.refl w.heap.size w3).alloc (by omega) _).trans ((HWO.out.bel (fun k e => ?_) (by simp; omega)).trans ((HB5.out.mono (by omega)).trans (hb6.mono (by omega)))))))
  rcases e with e1 | e1
  · exact hl2 k e1
  · omega
end Go.Proofs
