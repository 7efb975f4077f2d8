/-
  FEED: FeedKnown.
-/
import Derived.Test.YtfbjhjmhcbiomaaDoorFgJ
namespace Go.Proofs
open Go.RowKit Go.Wi Go.Fd Go.Sort
theorem Fd.cs_two {w : World} {g : Nat} {x y : Cn} {T : TypeId} (h : w.heap[g]? = some (.cells #[.string x.room, .int .i64 x.un, .int .i64 x.hi, .string y.room, .int .i64 y.un, .int .i64 y.hi] T (0, 0))) : Cs w (.slice (some ⟨g, 0, none⟩) 2 2) [x, y] :=
  ⟨some ⟨g, 0, none⟩, 2, rfl, Nat.le_refl _, (fun e => by cases e), .inr ⟨g, 0, rfl, block_lt h, fun j u hu => by
    rw [cell_of_row _ _ _ _ _ _ h, Nat.zero_add]
    simpa [cnCells, cnE] using hu⟩⟩
theorem Fd.own_new {w : World} {o : Obj} {m c : Nat} : ∀ k, (Value.slice (some ⟨w.heap.size, 0, none⟩) m c).ownBlock = some k → k < (w.alloc o).heap.size := by
  intro k e
  cases e
  simp
theorem Tryd.same_b {w : World} {V U : Value} {a b : List Cn} (h : Cs w V a) (g : Cs w U b) (ha : a.length ≤ 4398046511104) :
    Calls Tryd.prog 12 #[V, U] w fun e w' => e = .returned (.bool (decide (a = b))) ∧ Below w.heap.size w w' := by
  refine (Tryd.same_any h g ha).mono ?_
  rintro e w' ⟨rfl, q, rfl⟩
  exact ⟨rfl, belowN (Below.refl _ w) q⟩
theorem Fd.ts_one {w : World} {g : Nat} {x : ByteArray} {T : TypeId} (h : w.heap[g]? = some (.cells #[.string x] T (0, 0))) : Ts w (.slice (some ⟨g, 0, none⟩) 1 1) [x] :=
  ⟨some ⟨g, 0, none⟩, 1, rfl, Nat.le_refl _, (fun e => by cases e), .inr ⟨g, 0, rfl, block_lt h, fun j u hu => by
    obtain ⟨hj, e⟩ := List.getElem?_eq_some_iff.1 hu
    obtain rfl : j = 0 := by simpa using hj
    rw [cell_of_row _ _ _ _ _ _ h]
    simpa using e⟩⟩
theorem Tryd.known_fold1 (w : World) : Calls Tryd.prog 13 #[.slice (some ⟨w.heap.size, 0, none⟩) 2 2, .slice (some ⟨w.heap.size + 1, 0, none⟩) 2 2, .slice (some ⟨w.heap.size + 2, 0, none⟩) 1 1, .bool false]
    (((w.alloc (.cells #[.string ⟨#[33, 114]⟩, .int .i64 1, .int .i64 0, .string ⟨#[33, 115]⟩, .int .i64 2, .int .i64 2] 28)).alloc (.cells #[.string ⟨#[33, 115]⟩, .int .i64 3, .int .i64 3, .string ⟨#[33, 113]⟩, .int .i64 1, .int .i64 1] 28)).alloc (.cells #[.string ⟨#[33, 114]⟩] 9))
    fun e w' => ∃ V', e = .returned V' ∧ Cs w' V' [knQ, knT] ∧ Below w.heap.size w w' := by
  generalize hA : (.cells #[.string ⟨#[33, 114]⟩, .int .i64 1, .int .i64 0, .string ⟨#[33, 115]⟩, .int .i64 2, .int .i64 2] 28 : Obj) = oA
  generalize hB : (.cells #[.string ⟨#[33, 115]⟩, .int .i64 3, .int .i64 3, .string ⟨#[33, 113]⟩, .int .i64 1, .int .i64 1] 28 : Obj) = oB
  generalize hG : (.cells #[.string ⟨#[33, 114]⟩] 9 : Obj) = oG
  have s1 : (w.alloc oA).heap.size = w.heap.size + 1 := by simp
  have s2 : ((w.alloc oA).alloc oB).heap.size = w.heap.size + 2 := by simp
  have s3 : (((w.alloc oA).alloc oB).alloc oG).heap.size = w.heap.size + 3 := by simp
  have e1 : (((w.alloc oA).alloc oB).alloc oG).heap[w.heap.size]? = some oA := (heap_alloc_old _ _ (by omega)).trans ((heap_alloc_old _ _ (by omega)).trans (heap_alloc_new _ _))
  have e2 : (((w.alloc oA).alloc oB).alloc oG).heap[w.heap.size + 1]? = some oB := by
    have h := heap_alloc_new (w.alloc oA) oB
    rw [s1] at h
    exact (heap_alloc_old _ _ (by omega)).trans h
  have e3 : (((w.alloc oA).alloc oB).alloc oG).heap[w.heap.size + 2]? = some oG := by
    have h := heap_alloc_new ((w.alloc oA).alloc oB) oG
    rw [s2] at h
    exact h
  have hb : Below w.heap.size w (((w.alloc oA).alloc oB).alloc oG) := (((Below.refl _ w).alloc (Nat.le_refl _) _).alloc (by omega) _).alloc (by omega) _
  generalize ((w.alloc oA).alloc oB).alloc oG = W at *
  subst hA hB hG
  have key := Tryd.fold_part (w := W) (Fd.cs_two (x := knP) (y := knU) e1) (fun k e => by cases e; exact block_lt e1) (Fd.cs_two (x := knT) (y := knQ) e2) (fun k e => by cases e; exact block_lt e2) (Fd.ts_one e3) (fun k e => by cases e; exact block_lt e3) (by simp) (by simp)
  rw [k_fold1] at key
  refine key.mono ?_
  rintro e w' ⟨V, rfl, hr, hb'⟩
  exact ⟨V, rfl, Cs.ofRow hr, Fd.bel_on hb hb.size hb'⟩
theorem Tryd.known_fold2 (w : World) : Calls Tryd.prog 13 #[.slice (some ⟨w.heap.size, 0, none⟩) 2 2, .slice none 0 0, .slice none 0 0, .bool false]
    (w.alloc (.cells #[.string ⟨#[33, 114]⟩, .int .i64 1, .int .i64 0, .string ⟨#[33, 114]⟩, .int .i64 2, .int .i64 1] 28))
    fun e w' => ∃ V', e = .returned V' ∧ Cs w' V' [knR] ∧ Below w.heap.size w w' := by
  generalize hA : (.cells #[.string ⟨#[33, 114]⟩, .int .i64 1, .int .i64 0, .string ⟨#[33, 114]⟩, .int .i64 2, .int .i64 1] 28 : Obj) = oA
  have e1 : (w.alloc oA).heap[w.heap.size]? = some oA := heap_alloc_new _ _
  have hb : Below w.heap.size w (w.alloc oA) := (Below.refl _ w).alloc (Nat.le_refl _) _
  generalize w.alloc oA = W at *
  subst hA
  have key := Tryd.fold_part (w := W) (Fd.cs_two (x := knP) (y := knR) e1) (fun k e => by cases e; exact block_lt e1) (Cs.nil _) (fun k e => by cases e) (Ts.nil _) (fun k e => by cases e) (by simp) (by simp)
  rw [k_fold2] at key
  refine key.mono ?_
  rintro e w' ⟨V, rfl, hr, hb'⟩
  exact ⟨V, rfl, Cs.ofRow hr, Fd.bel_on hb hb.size hb'⟩
theorem Tryd.known_ask {B hb n br bs : Nat} {w : World} (h : Tryd.Hz B w hb n Fd.kF2 br bs) (hT : Tryd.Tb w) (hu : (⟨#[64, 97]⟩ : ByteArray).size ≤ maxLen) {s : ByteArray} {l : List Cn} {m : Nat} {b : Bool}
    (hs : (s = ⟨#[]⟩ ∧ l = [knR, knS] ∧ m = 2 ∧ b = true) ∨ (s = ⟨#[49]⟩ ∧ l = [knR, knS] ∧ m = 2 ∧ b = false) ∨ (s = ⟨#[48]⟩ ∧ l = [knR, knS] ∧ m = 2 ∧ b = false) ∨ (s = ⟨#[50]⟩ ∧ l = [] ∧ m = 0 ∧ b = false)) :
    Calls Tryd.prog 10 #[.pointer (some ⟨hb, 0, none⟩), .string ⟨#[64, 97]⟩, .string s] w fun e w' => ∃ ad cap ag cg, e = .returned (.tuple #[.slice ad m cap, .slice ag 0 cg, .bool b, .string ⟨#[50]⟩, .int .i64 0]) ∧ Cs w' (.slice ad m cap) l ∧ Below w.heap.size w w' := by
  have hf : Fd.fmt 2 = ⟨#[50]⟩ := Fd.fmt_few 2 (by omega)
  have part : ∀ (s : ByteArray) (k : Nat) (t l : List Cn) (m : Nat), Fd.At s k → k ≤ 2 → ([[], [knP], [knR, knS]] : List (List Cn))[k]? = some t → changed [knR, knS] t = l → l.length = m → goneL [knR, knS] t = [] →
      Calls Tryd.prog 10 #[.pointer (some ⟨hb, 0, none⟩), .string ⟨#[64, 97]⟩, .string s] w fun e w' => ∃ ad cap ag cg, e = .returned (.tuple #[.slice ad m cap, .slice ag 0 cg, .bool false, .string ⟨#[50]⟩, .int .i64 0]) ∧ Cs w' (.slice ad m cap) l ∧ Below w.heap.size w w' := by
    intro s k t l m hk hk2 ht hc hm hg
    refine (h.part hT hu Fd.k_two (l := [knR, knS]) rfl hk (by omega) hk2 (t := t) (by simpa using ht)).mono ?_
    rintro e w' ⟨V, G, rfl, hr, hr2, hb'⟩
    rw [hc, hm] at hr
    rw [hg] at hr2
    obtain ⟨ad, cap, rfl⟩ := Fd.row_is hr
    obtain ⟨ag, cg, rfl⟩ := Fd.row_is hr2
    exact ⟨ad, cap, ag, cg, by rw [hf]; rfl, Cs.ofRow hr, hb'⟩
  rcases hs with ⟨rfl, rfl, rfl, rfl⟩ | ⟨rfl, rfl, rfl, rfl⟩ | ⟨rfl, rfl, rfl, rfl⟩ | ⟨rfl, rfl, rfl, rfl⟩
  · refine (h.whole hT hu Fd.k_two (l := [knR, knS]) rfl).mono ?_
    rintro e w' ⟨V, rfl, hr, hb'⟩
    obtain ⟨ad, cap, rfl⟩ := Fd.row_is hr
    exact ⟨ad, cap, none, 0, by rw [hf]; rfl, Cs.ofRow hr, hb'⟩
  · exact part _ 1 [knP] _ _ (Fd.at_dig 1 (by omega)) (by omega) rfl k_ch1 rfl k_go1
  · exact part _ 0 [] _ _ (Fd.at_dig 0 (by omega)) (by omega) rfl k_ch0 rfl k_go0
  · exact part _ 2 [knR, knS] _ _ (Fd.at_dig 2 (by omega)) (by omega) rfl k_ch2 rfl k_go2
theorem Tryd.known_wrong {B hb n br bs : Nat} {w : World} (h : Tryd.Hz B w hb n Fd.kF2 br bs) (hT : Tryd.Tb w) (hu : (⟨#[64, 97]⟩ : ByteArray).size ≤ maxLen) {s : ByteArray}
    (hs : s = ⟨#[51]⟩ ∨ s = ⟨#[48, 49]⟩ ∨ s = ⟨#[45, 49]⟩ ∨ s = ⟨#[120]⟩) :
    Calls Tryd.prog 10 #[.pointer (some ⟨hb, 0, none⟩), .string ⟨#[64, 97]⟩, .string s] w fun e w' => e = .returned (.tuple #[.slice none 0 0, .slice none 0 0, .bool false, .string ⟨#[]⟩, .int .i64 200]) ∧ Below w.heap.size w w' := by
  rcases hs with rfl | rfl | rfl | rfl
  · exact h.wrong hT hu Fd.k_two (by decide) (by intro e; injection e with e; injection e with e; cases e) (fun k hk => by rw [Fd.at_one hk (Fd.at_dig 3 (by omega))]; omega)
  · exact h.wrong hT hu Fd.k_two (by decide) (by intro e; injection e with e; injection e with e; cases e) (fun k hk => absurd hk (Fd.no_01 k))
  · exact h.wrong hT hu Fd.k_two (by decide) (by intro e; injection e with e; injection e with e; cases e) (fun k hk => absurd hk (Fd.no_neg k))
  · exact h.wrong hT hu Fd.k_two (by decide) (by intro e; injection e with e; injection e with e; cases e) (fun k hk => absurd hk (Fd.no_x k))
set_option maxRecDepth 20000 in
set_option maxHeartbeats 2000000 in
theorem Tryd.feedKnownWalk (c : Int) (h1 : -9223372036854775808 ≤ c) (h2 : c ≤ 9223372036854775807) (w : World) (hT : Tryd.Tb w) :
    Calls Tryd.prog 5 #[.int .i64 c] w fun e w' => e = .returned (.bool true) ∧ Below w.heap.size w w' := by
  have haw := Tryd.awake_any w hT
  have HT : Hid (Tryd.Tb w) := hT
  have HC : Hid (-9223372036854775808 ≤ c ∧ c ≤ 9223372036854775807) := ⟨h1, h2⟩
  have U1 : Hid ((⟨#[64, 97]⟩ : ByteArray).size ≤ maxLen) := by show _ ≤ _; unfold maxLen; decide
  have U2 : Hid ((⟨#[64, 98]⟩ : ByteArray).size ≤ maxLen) := by show _ ≤ _; unfold maxLen; decide
  clear hT h1 h2
  go_enter Tryd.func5, Tryd.ntmps5
  go_upto_region 5 with (first
    | (go_at_call 6; refine haw.mono ?_; clear haw; rintro e w1 ⟨rfl, hb1⟩)
    | (go_at_call 7; refine (Tryd.new_any _).mono ?_; rintro e w2 ⟨hb, mb, rfl, hH, hb2, hf1, hf2⟩)
    | fail)
  go_upto_region 7 with (fail)
  obtain ⟨w4, hw4⟩ : ∃ W, W = (w2.alloc (.cells #[.string ⟨#[33, 114]⟩, .int .i64 2, .int .i64 1] 28)).alloc (.cells #[.string ⟨#[33, 115]⟩, .int .i64 0, .int .i64 0] 28) := ⟨_, rfl⟩
  have hb4 : Below w2.heap.size w2 w4 := by rw [hw4]; exact ((Below.refl _ w2).alloc (Nat.le_refl _) _).alloc (by simp) _
  have hZ : Tryd.Hz w.heap.size w4 hb 0 (fun _ => none) w2.heap.size (w2.heap.size + 1) := by
    have k1 := hb1.size
    have k2 := hb2.size
    have k3 := hH.lt hb (.inl rfl)
    have k4 := hH.lt mb (.inr (.inl rfl))
    refine ⟨⟨_, _, mb, hH.below hb4 (Nat.le_refl _), fun k e => ?_⟩, Nat.le_trans (Nat.le_trans k1 k2) hb4.size, ?_, ?_⟩
    · rcases e with rfl | rfl | ⟨_, e⟩
      · omega
      · omega
      · exact e.elim
    · rw [hw4]; exact (heap_alloc_old _ _ (by simp)).trans (heap_alloc_new _ _)
    · rw [hw4]
      have h := heap_alloc_new (w2.alloc (.cells #[.string ⟨#[33, 114]⟩, .int .i64 2, .int .i64 1] 28)) (.cells #[.string ⟨#[33, 115]⟩, .int .i64 0, .int .i64 0] 28)
      rw [World.size_alloc] at h
      exact h
  have hb04 : Below w.heap.size w w4 := Fd.bel_on (Fd.bel_on hb1 hb1.size hb2) (Nat.le_trans hb1.size hb2.size) hb4
  rw [← hw4]
  clear hw4 hb4 hH hb1 hb2 hf1 hf2
  have hbrs : w2.heap.size < w4.heap.size ∧ w2.heap.size + 1 < w4.heap.size := ⟨block_lt hZ.hr, block_lt hZ.hs⟩
  generalize w2.heap.size + 1 = bs at *
  generalize w2.heap.size = br at *
  have hp1 := (hZ.past ((Below.refl _ w4).alloc (Nat.le_refl _) (.cells #[.string knP.room, .int .i64 knP.un, .int .i64 knP.hi] 28))).put ⟨#[64, 97]⟩ U1.out (by omega) (Fd.cs_one (x := knP) (heap_alloc_new _ _)) Fd.own_new (by simp)
  go_upto_region 8 with (first
    | (go_at_call 9; refine hp1.mono ?_; clear hp1; rintro e w5 ⟨rfl, hZ5, hb5⟩)
    | fail)
  have hb05 : Below w.heap.size w w5 := (hb04.alloc hb04.size _).trans hb5
  clear hZ hb04 hb5 hbrs
  have c0 : w5.cell? ⟨br, 0, none⟩ = some (.string ⟨#[33, 114]⟩) := cell_of_row _ _ 0 _ _ _ hZ5.hr
  have c1 : w5.cell? ⟨br, 1, none⟩ = some (.int .i64 2) := cell_of_row _ _ 1 _ _ _ hZ5.hr
  have c2 : w5.cell? ⟨br, 2, none⟩ = some (.int .i64 1) := cell_of_row _ _ 2 _ _ _ hZ5.hr
  have d0 : w5.cell? ⟨bs, 0, none⟩ = some (.string ⟨#[33, 115]⟩) := cell_of_row _ _ 0 _ _ _ hZ5.hs
  have d1 : w5.cell? ⟨bs, 1, none⟩ = some (.int .i64 0) := cell_of_row _ _ 1 _ _ _ hZ5.hs
  have d2 : w5.cell? ⟨bs, 2, none⟩ = some (.int .i64 0) := cell_of_row _ _ 2 _ _ _ hZ5.hs
  have hp2 := (hZ5.past ((Below.refl _ w5).alloc (Nat.le_refl _) (.cells #[.string knR.room, .int .i64 knR.un, .int .i64 knR.hi, .string knS.room, .int .i64 knS.un, .int .i64 knS.hi] 28))).put ⟨#[64, 97]⟩ U1.out (by omega) (Fd.cs_two (x := knR) (y := knS) (heap_alloc_new _ _)) Fd.own_new (by simp)
  go_upto_region 9 with (first
    | (go_at_call 9; refine hp2.mono ?_; clear hp2; rintro e w6 ⟨rfl, hZ6, hb6⟩)
    | fail)
  have hb06 : Below w.heap.size w w6 := (hb05.alloc hb05.size _).trans hb6
  have HZ : Hid (Tryd.Hz w.heap.size w6 hb 2 Fd.kF2 br bs) := hZ6
  have HB : Hid (Below w.heap.size w w6) := hb06
  clear hZ5 hb05 hb6 c0 c1 c2 d0 d1 d2 hZ6 hb06
  go_wp2
  go_loopw [7] (fun iv wr => ∃ i : Nat, iv = .int .i64 (i : Int) ∧ i ≤ 4 ∧ Below w6.heap.size w6 wr) (fun iv _ => 4 - (intOf iv).toNat)
  case atStart => exact ⟨0, rfl, by omega, Below.refl _ _⟩
  case round =>
    obtain ⟨i, rfl, hi, hbw⟩ := hrel
    by_cases hi4 : i = 4
    · subst hi4
      have HBw : Hid (Below w6.heap.size w6 wr) := hbw
      clear hbw hi
      have H6 : Hid (∀ W, Below w6.heap.size w6 W → Tryd.Hz w.heap.size W hb 2 Fd.kF2 br bs ∧ Tryd.Tb W) := fun W hW => ⟨HZ.out.past hW, (HT.out.below HB.out HT.out.size).past hW⟩
      have ho1 := (H6.out wr HBw.out).1.part (H6.out wr HBw.out).2 U2.out Fd.k_other (l := []) rfl (Fd.at_dig 0 (by omega)) (by omega) (by omega) (t := []) rfl
      go_upto_region 20 with (first
        | (go_at_call 10; refine ho1.mono ?_; clear ho1; rintro e w7 ⟨V7, G7, rfl, hr7, hs7, hb7⟩; obtain ⟨va7, vc7, rfl⟩ := Fd.row_is hr7; obtain ⟨ga7, gc7, rfl⟩ := Fd.row_is hs7; rw [show (changed ([] : List Cn) []).length = 0 from rfl, show (goneL ([] : List Cn) []).length = 0 from rfl, show Fd.fmt 0 = ⟨#[48]⟩ from Fd.fmt_few 0 (by omega)])
        | fail)
      have hb67 : Below w6.heap.size w6 w7 := Fd.bel_on HBw.out HBw.out.size hb7
      clear hr7 hs7 hb7
      have ho2 := (H6.out w7 hb67).1.wrong (H6.out w7 hb67).2 U2.out Fd.k_other (s := ⟨#[49]⟩) (by decide) (by intro e; injection e with e; injection e with e; cases e) (fun k hk => by rw [Fd.at_one hk (Fd.at_dig 1 (by omega))]; omega)
      go_upto_region 21 with (first
        | (go_at_call 10; refine ho2.mono ?_; clear ho2; rintro e w8 ⟨rfl, hb8⟩)
        | fail)
      have hb68 : Below w6.heap.size w6 w8 := Fd.bel_on hb67 hb67.size hb8
      have hZ8 := (H6.out w8 hb68).1
      have d0 : w8.cell? ⟨bs, 0, none⟩ = some (.string ⟨#[33, 115]⟩) := cell_of_row _ _ 0 _ _ _ hZ8.hs
      have d1 : w8.cell? ⟨bs, 1, none⟩ = some (.int .i64 0) := cell_of_row _ _ 1 _ _ _ hZ8.hs
      have d2 : w8.cell? ⟨bs, 2, none⟩ = some (.int .i64 0) := cell_of_row _ _ 2 _ _ _ hZ8.hs
      have hp3 := (hZ8.past ((Below.refl _ w8).alloc (Nat.le_refl _) (.cells #[.string knS.room, .int .i64 knS.un, .int .i64 knS.hi] 28))).put ⟨#[64, 97]⟩ U1.out (by omega) (Fd.cs_one (x := knS) (heap_alloc_new _ _)) Fd.own_new (by simp)
      have HB8 : Hid (Below w.heap.size w w8) := Fd.bel_on HB.out HB.out.size hb68
      clear hb67 hb8 hb68 hZ8
      go_upto_region 22 with (first
        | (go_at_call 9; refine hp3.mono ?_; clear hp3; rintro e w9 ⟨rfl, hZ9, hb9⟩)
        | fail)
      have HB9 : Hid (Below w.heap.size w w9) := (HB8.out.alloc HB8.out.size _).trans hb9
      have HZ9 : Hid (Tryd.Hz w.heap.size w9 hb 3 Fd.kF3 br bs) := hZ9
      clear hZ9 hb9 d0 d1 d2
      have ho3 := HZ9.out.part (HT.out.below HB9.out HT.out.size) U1.out Fd.k_three (l := [knS]) rfl (Fd.at_dig 2 (by omega)) (by omega) (by omega) (t := [knR, knS]) rfl
      rw [k_ch3, k_go3] at ho3
      go_upto_region 23 with (first
        | (go_at_call 10; refine ho3.mono ?_; clear ho3; rintro e w10 ⟨V10, G10, rfl, hr10, hs10, hb10⟩; obtain ⟨va10, vc10, rfl⟩ := Fd.row_is hr10; obtain ⟨ga10, gc10, rfl⟩ := Fd.row_is hs10; rw [show ([] : List Cn).length = 0 from rfl, show ([⟨#[33, 114]⟩] : List ByteArray).length = 1 from rfl, show Fd.fmt 3 = ⟨#[51]⟩ from Fd.fmt_few 3 (by omega)])
        | fail)
      obtain ⟨gg, go, rfl, hgc⟩ := (Ts.ofRow (l := [⟨#[33, 114]⟩]) hs10).at (i := 0) (by simp)
      rw [show ([⟨#[33, 114]⟩] : List ByteArray)[0] = ⟨#[33, 114]⟩ from rfl, Nat.add_zero] at hgc
      have HB10 : Hid (Below w.heap.size w w10) := Fd.bel_on HB9.out HB9.out.size hb10
      have HZ10 : Hid (Tryd.Hz w.heap.size w10 hb 3 Fd.kF3 br bs) := HZ9.out.past hb10
      clear hr10 hs10 hb10
      go_upto_region 27 with (fail)
      obtain ⟨w12, hw12⟩ : ∃ W, W = (w10.alloc (.cells #[.string ⟨#[33, 113]⟩, .int .i64 1, .int .i64 1] 28)).alloc (.cells #[.string ⟨#[33, 115]⟩, .int .i64 3, .int .i64 3] 28) := ⟨_, rfl⟩
      have hb12 : Below w10.heap.size w10 w12 := by rw [hw12]; exact ((Below.refl _ w10).alloc (Nat.le_refl _) _).alloc (by simp) _
      have q12 : w12.heap[w10.heap.size]? = some (.cells #[.string ⟨#[33, 113]⟩, .int .i64 1, .int .i64 1] 28 (0, 0)) := by rw [hw12]; exact (heap_alloc_old _ _ (by simp)).trans (heap_alloc_new _ _)
      have t12 : w12.heap[w10.heap.size + 1]? = some (.cells #[.string ⟨#[33, 115]⟩, .int .i64 3, .int .i64 3] 28 (0, 0)) := by
        rw [hw12]
        have h := heap_alloc_new (w10.alloc (.cells #[.string ⟨#[33, 113]⟩, .int .i64 1, .int .i64 1] 28)) (.cells #[.string ⟨#[33, 115]⟩, .int .i64 3, .int .i64 3] 28)
        rw [World.size_alloc] at h
        exact h
      rw [← hw12]
      clear hw12 hgc
      have HB12 : Hid (Below w.heap.size w w12) := Fd.bel_on HB10.out HB10.out.size hb12
      have HZ12 : Hid (Tryd.Hz w.heap.size w12 hb 3 Fd.kF3 br bs) := HZ10.out.past hb12
      clear hb12
      generalize w10.heap.size + 1 = bt at *
      generalize w10.heap.size = bq at *
      have HQ12 : Hid (w12.heap[bq]? = some (.cells #[.string ⟨#[33, 113]⟩, .int .i64 1, .int .i64 1] 28 (0, 0)) ∧ w12.heap[bt]? = some (.cells #[.string ⟨#[33, 115]⟩, .int .i64 3, .int .i64 3] 28 (0, 0))) := ⟨q12, t12⟩
      have lq := block_lt q12
      have lt := block_lt t12
      have hx : ∀ W, Below w12.heap.size w12 W → W.cell? ⟨bq, 0, none⟩ = some (.string ⟨#[33, 113]⟩) ∧ W.cell? ⟨bq, 1, none⟩ = some (.int .i64 1) ∧ W.cell? ⟨bq, 2, none⟩ = some (.int .i64 1) ∧ W.cell? ⟨bt, 0, none⟩ = some (.string ⟨#[33, 115]⟩) ∧ W.cell? ⟨bt, 1, none⟩ = some (.int .i64 3) ∧ W.cell? ⟨bt, 2, none⟩ = some (.int .i64 3) := fun W hW => by
        have a := (hW.block bq lq).trans q12
        have b := (hW.block bt lt).trans t12
        exact ⟨cell_of_row _ _ 0 _ _ _ a, cell_of_row _ _ 1 _ _ _ a, cell_of_row _ _ 2 _ _ _ a, cell_of_row _ _ 0 _ _ _ b, cell_of_row _ _ 1 _ _ _ b, cell_of_row _ _ 2 _ _ _ b⟩
      have HX : Hid (∀ W, Below w12.heap.size w12 W → W.cell? ⟨bq, 0, none⟩ = some (.string ⟨#[33, 113]⟩) ∧ W.cell? ⟨bq, 1, none⟩ = some (.int .i64 1) ∧ W.cell? ⟨bq, 2, none⟩ = some (.int .i64 1) ∧ W.cell? ⟨bt, 0, none⟩ = some (.string ⟨#[33, 115]⟩) ∧ W.cell? ⟨bt, 1, none⟩ = some (.int .i64 3) ∧ W.cell? ⟨bt, 2, none⟩ = some (.int .i64 3)) := hx
      clear q12 t12 hx
      obtain ⟨x0, x1, x2, y0, y1, y2⟩ := HX.out (w12.alloc (.cells #[.string ⟨#[33, 114]⟩, .int .i64 1, .int .i64 0, .string ⟨#[33, 115]⟩, .int .i64 2, .int .i64 2] 28)) ((Below.refl _ w12).alloc (Nat.le_refl _) _)
      have hf1 := Tryd.known_fold1 w12
      go_upto_region 28 with (first
        | (go_at_call 13; refine hf1.mono ?_; clear hf1; rintro e w13 ⟨V13, rfl, hc13, hb13⟩)
        | fail)
      clear x0 x1 x2 y0 y1 y2
      have hZ13 := HZ12.out.past hb13
      have c0 : w13.cell? ⟨br, 0, none⟩ = some (.string ⟨#[33, 114]⟩) := cell_of_row _ _ 0 _ _ _ hZ13.hr
      have c1 : w13.cell? ⟨br, 1, none⟩ = some (.int .i64 2) := cell_of_row _ _ 1 _ _ _ hZ13.hr
      have c2 : w13.cell? ⟨br, 2, none⟩ = some (.int .i64 1) := cell_of_row _ _ 2 _ _ _ hZ13.hr
      have HC13 : Hid (Cs w13 V13 [knQ, knT]) := hc13
      have HB13 : Hid (Below w12.heap.size w12 w13) := hb13
      have hf2 := Tryd.known_fold2 w13
      clear hZ13 hc13 hb13
      go_upto_region 29 with (first
        | (go_at_call 13; refine hf2.mono ?_; clear hf2; rintro e w14 ⟨V14, rfl, hc14, hb14⟩)
        | fail)
      have HC14 : Hid (Cs w14 V14 [knR]) := hc14
      have HB14 : Hid (Below w12.heap.size w12 w14) := Fd.bel_on HB13.out HB13.out.size hb14
      have hsa := Tryd.same_b ((HC13.out.past hb14).past ((Below.refl _ w14).alloc (Nat.le_refl _) (.cells #[.string knQ.room, .int .i64 knQ.un, .int .i64 knQ.hi, .string knT.room, .int .i64 knT.un, .int .i64 knT.hi] 28))) (Fd.cs_two (x := knQ) (y := knT) (heap_alloc_new _ _)) (by simp)
      rw [decide_eq_true rfl] at hsa
      clear c0 c1 c2 hc14 hb14
      obtain ⟨x0, x1, x2, y0, y1, y2⟩ := HX.out w14 HB14.out
      go_upto_region 30 with (first
        | (go_at_call 12; refine hsa.mono ?_; clear hsa; rintro e w15 ⟨rfl, hb15⟩)
        | fail)
      have HB15 : Hid (Below w12.heap.size w12 w15) := Fd.bel_on (HB14.out.alloc HB14.out.size _) (Nat.le_trans HB14.out.size (by simp)) hb15
      have hZ15 := HZ12.out.past HB15.out
      have c0 : w15.cell? ⟨br, 0, none⟩ = some (.string ⟨#[33, 114]⟩) := cell_of_row _ _ 0 _ _ _ hZ15.hr
      have c1 : w15.cell? ⟨br, 1, none⟩ = some (.int .i64 2) := cell_of_row _ _ 1 _ _ _ hZ15.hr
      have c2 : w15.cell? ⟨br, 2, none⟩ = some (.int .i64 1) := cell_of_row _ _ 2 _ _ _ hZ15.hr
      have hsb := Tryd.same_b (((HC14.out.past ((Below.refl _ w14).alloc (Nat.le_refl _) _)).past hb15).past ((Below.refl _ w15).alloc (Nat.le_refl _) (.cells #[.string knR.room, .int .i64 knR.un, .int .i64 knR.hi] 28))) (Fd.cs_one (x := knR) (heap_alloc_new _ _)) (by simp)
      rw [decide_eq_true rfl] at hsb
      clear x0 x1 x2 y0 y1 y2 hZ15 hb15
      go_upto_region 31 with (first
        | (go_at_call 12; refine hsb.mono ?_; clear hsb; rintro e w16 ⟨rfl, hb16⟩)
        | fail)
      have HB16 : Hid (Below w12.heap.size w12 w16) := Fd.bel_on (HB15.out.alloc HB15.out.size _) (Nat.le_trans HB15.out.size (by simp)) hb16
      have hpk := Tryd.pick_any c 1 (by omega) (by omega) HC.out.1 HC.out.2 w16
      have hp0 : pickN c 1 = 0 := Nat.mod_one _
      rw [hp0] at hpk
      clear c0 c1 c2 hb16 hp0
      go_wp2_with (first
        | (go_at_call 8; refine hpk.mono ?_; clear hpk; rintro e w17 ⟨rfl, rfl⟩)
        | fail)
      go_ret
      exact ⟨rfl, Fd.bel_on HB12.out HB12.out.size HB16.out⟩
    · have hi5 : i = 0 ∨ i = 1 ∨ i = 2 ∨ i = 3 := by omega
      have HBw : Hid (Below w6.heap.size w6 wr) := hbw
      clear hbw hi hi4
      have H6 : Hid (∀ W, Below w6.heap.size w6 W → Tryd.Hz w.heap.size W hb 2 Fd.kF2 br bs ∧ Tryd.Tb W) := fun W hW => ⟨HZ.out.past hW, (HT.out.below HB.out HT.out.size).past hW⟩
      rcases hi5 with rfl | rfl | rfl | rfl
      · have hask := fun W (hW : Below w6.heap.size w6 W) => Tryd.known_ask (H6.out W hW).1 (H6.out W hW).2 U1.out (s := ⟨#[]⟩) (l := [knR, knS]) (m := 2) (b := true) (.inl ⟨rfl, rfl, rfl, rfl⟩)
        have hwro := fun W (hW : Below w6.heap.size w6 W) => Tryd.known_wrong (H6.out W hW).1 (H6.out W hW).2 U1.out (s := ⟨#[51]⟩) (.inl rfl)
        go_upto_region 13 with (first
          | (go_at_call 10; refine (hask _ (HBw.out.trans ((Below.refl _ wr).alloc HBw.out.size _))).mono ?_; clear hask; rintro e w7 ⟨ad, cap, ag, cg, rfl, hcs, hb7⟩)
          | fail)
        have hb67 : Below w6.heap.size w6 w7 := Fd.bel_on (HBw.out.alloc HBw.out.size _) (Nat.le_trans HBw.out.size (by simp)) hb7
        have hZ7 := (H6.out w7 hb67).1
        have c0 : w7.cell? ⟨br, 0, none⟩ = some (.string ⟨#[33, 114]⟩) := cell_of_row _ _ 0 _ _ _ hZ7.hr
        have c1 : w7.cell? ⟨br, 1, none⟩ = some (.int .i64 2) := cell_of_row _ _ 1 _ _ _ hZ7.hr
        have c2 : w7.cell? ⟨br, 2, none⟩ = some (.int .i64 1) := cell_of_row _ _ 2 _ _ _ hZ7.hr
        have d0 : w7.cell? ⟨bs, 0, none⟩ = some (.string ⟨#[33, 115]⟩) := cell_of_row _ _ 0 _ _ _ hZ7.hs
        have d1 : w7.cell? ⟨bs, 1, none⟩ = some (.int .i64 0) := cell_of_row _ _ 1 _ _ _ hZ7.hs
        have d2 : w7.cell? ⟨bs, 2, none⟩ = some (.int .i64 0) := cell_of_row _ _ 2 _ _ _ hZ7.hs
        have hsa := Tryd.same_b (hcs.past ((Below.refl _ w7).alloc (Nat.le_refl _) (.cells #[.string knR.room, .int .i64 knR.un, .int .i64 knR.hi, .string knS.room, .int .i64 knS.un, .int .i64 knS.hi] 28))) (Fd.cs_two (x := knR) (y := knS) (heap_alloc_new _ _)) (by simp)
        rw [show decide (([knR, knS] : List Cn) = [knR, knS]) = true by decide +kernel] at hsa
        clear hcs hb7 hZ7
        go_upto_region 14 with (first
          | (go_at_call 12; refine hsa.mono ?_; clear hsa; rintro e w8 ⟨rfl, hb8⟩)
          | fail)
        have hb68 : Below w6.heap.size w6 w8 := Fd.bel_on (hb67.alloc hb67.size _) (Nat.le_trans hb67.size (by simp)) hb8
        clear hb8 hb67 c0 c1 c2 d0 d1 d2
        go_upto_region 17 with (first
          | (go_at_call 10; refine (hwro _ (hb68.trans ((Below.refl _ w8).alloc hb68.size _))).mono ?_; clear hwro; rintro e w9 ⟨rfl, hb9⟩)
          | fail)
        have hb69 : Below w6.heap.size w6 w9 := Fd.bel_on (hb68.alloc hb68.size _) (Nat.le_trans hb68.size (by simp)) hb9
        clear hb68 hb9
        go_wp2
        go_roundw
        case rel => exact ⟨1, rfl, by omega, hb69⟩
        case measure => simp [intOf]
      · have hask := fun W (hW : Below w6.heap.size w6 W) => Tryd.known_ask (H6.out W hW).1 (H6.out W hW).2 U1.out (s := ⟨#[49]⟩) (l := [knR, knS]) (m := 2) (b := false) (.inr (.inl ⟨rfl, rfl, rfl, rfl⟩))
        have hwro := fun W (hW : Below w6.heap.size w6 W) => Tryd.known_wrong (H6.out W hW).1 (H6.out W hW).2 U1.out (s := ⟨#[48, 49]⟩) (.inr (.inl rfl))
        go_upto_region 13 with (first
          | (go_at_call 10; refine (hask _ (HBw.out.trans ((Below.refl _ wr).alloc HBw.out.size _))).mono ?_; clear hask; rintro e w7 ⟨ad, cap, ag, cg, rfl, hcs, hb7⟩)
          | fail)
        have hb67 : Below w6.heap.size w6 w7 := Fd.bel_on (HBw.out.alloc HBw.out.size _) (Nat.le_trans HBw.out.size (by simp)) hb7
        have hZ7 := (H6.out w7 hb67).1
        have c0 : w7.cell? ⟨br, 0, none⟩ = some (.string ⟨#[33, 114]⟩) := cell_of_row _ _ 0 _ _ _ hZ7.hr
        have c1 : w7.cell? ⟨br, 1, none⟩ = some (.int .i64 2) := cell_of_row _ _ 1 _ _ _ hZ7.hr
        have c2 : w7.cell? ⟨br, 2, none⟩ = some (.int .i64 1) := cell_of_row _ _ 2 _ _ _ hZ7.hr
        have d0 : w7.cell? ⟨bs, 0, none⟩ = some (.string ⟨#[33, 115]⟩) := cell_of_row _ _ 0 _ _ _ hZ7.hs
        have d1 : w7.cell? ⟨bs, 1, none⟩ = some (.int .i64 0) := cell_of_row _ _ 1 _ _ _ hZ7.hs
        have d2 : w7.cell? ⟨bs, 2, none⟩ = some (.int .i64 0) := cell_of_row _ _ 2 _ _ _ hZ7.hs
        have hsa := Tryd.same_b (hcs.past ((Below.refl _ w7).alloc (Nat.le_refl _) (.cells #[.string knR.room, .int .i64 knR.un, .int .i64 knR.hi, .string knS.room, .int .i64 knS.un, .int .i64 knS.hi] 28))) (Fd.cs_two (x := knR) (y := knS) (heap_alloc_new _ _)) (by simp)
        rw [show decide (([knR, knS] : List Cn) = [knR, knS]) = true by decide +kernel] at hsa
        clear hcs hb7 hZ7
        go_upto_region 14 with (first
          | (go_at_call 12; refine hsa.mono ?_; clear hsa; rintro e w8 ⟨rfl, hb8⟩)
          | fail)
        have hb68 : Below w6.heap.size w6 w8 := Fd.bel_on (hb67.alloc hb67.size _) (Nat.le_trans hb67.size (by simp)) hb8
        clear hb8 hb67 c0 c1 c2 d0 d1 d2
        go_upto_region 17 with (first
          | (go_at_call 10; refine (hwro _ (hb68.trans ((Below.refl _ w8).alloc hb68.size _))).mono ?_; clear hwro; rintro e w9 ⟨rfl, hb9⟩)
          | fail)
        have hb69 : Below w6.heap.size w6 w9 := Fd.bel_on (hb68.alloc hb68.size _) (Nat.le_trans hb68.size (by simp)) hb9
        clear hb68 hb9
        go_wp2
        go_roundw
        case rel => exact ⟨2, rfl, by omega, hb69⟩
        case measure => simp [intOf]
      · have hask := fun W (hW : Below w6.heap.size w6 W) => Tryd.known_ask (H6.out W hW).1 (H6.out W hW).2 U1.out (s := ⟨#[48]⟩) (l := [knR, knS]) (m := 2) (b := false) (.inr (.inr (.inl ⟨rfl, rfl, rfl, rfl⟩)))
        have hwro := fun W (hW : Below w6.heap.size w6 W) => Tryd.known_wrong (H6.out W hW).1 (H6.out W hW).2 U1.out (s := ⟨#[45, 49]⟩) (.inr (.inr (.inl rfl)))
        go_upto_region 13 with (first
          | (go_at_call 10; refine (hask _ (HBw.out.trans ((Below.refl _ wr).alloc HBw.out.size _))).mono ?_; clear hask; rintro e w7 ⟨ad, cap, ag, cg, rfl, hcs, hb7⟩)
          | fail)
        have hb67 : Below w6.heap.size w6 w7 := Fd.bel_on (HBw.out.alloc HBw.out.size _) (Nat.le_trans HBw.out.size (by simp)) hb7
        have hZ7 := (H6.out w7 hb67).1
        have c0 : w7.cell? ⟨br, 0, none⟩ = some (.string ⟨#[33, 114]⟩) := cell_of_row _ _ 0 _ _ _ hZ7.hr
        have c1 : w7.cell? ⟨br, 1, none⟩ = some (.int .i64 2) := cell_of_row _ _ 1 _ _ _ hZ7.hr
        have c2 : w7.cell? ⟨br, 2, none⟩ = some (.int .i64 1) := cell_of_row _ _ 2 _ _ _ hZ7.hr
        have d0 : w7.cell? ⟨bs, 0, none⟩ = some (.string ⟨#[33, 115]⟩) := cell_of_row _ _ 0 _ _ _ hZ7.hs
        have d1 : w7.cell? ⟨bs, 1, none⟩ = some (.int .i64 0) := cell_of_row _ _ 1 _ _ _ hZ7.hs
        have d2 : w7.cell? ⟨bs, 2, none⟩ = some (.int .i64 0) := cell_of_row _ _ 2 _ _ _ hZ7.hs
        have hsa := Tryd.same_b (hcs.past ((Below.refl _ w7).alloc (Nat.le_refl _) (.cells #[.string knR.room, .int .i64 knR.un, .int .i64 knR.hi, .string knS.room, .int .i64 knS.un, .int .i64 knS.hi] 28))) (Fd.cs_two (x := knR) (y := knS) (heap_alloc_new _ _)) (by simp)
        rw [show decide (([knR, knS] : List Cn) = [knR, knS]) = true by decide +kernel] at hsa
        clear hcs hb7 hZ7
        go_upto_region 14 with (first
          | (go_at_call 12; refine hsa.mono ?_; clear hsa; rintro e w8 ⟨rfl, hb8⟩)
          | fail)
        have hb68 : Below w6.heap.size w6 w8 := Fd.bel_on (hb67.alloc hb67.size _) (Nat.le_trans hb67.size (by simp)) hb8
        clear hb8 hb67 c0 c1 c2 d0 d1 d2
        go_upto_region 17 with (first
          | (go_at_call 10; refine (hwro _ (hb68.trans ((Below.refl _ w8).alloc hb68.size _))).mono ?_; clear hwro; rintro e w9 ⟨rfl, hb9⟩)
          | fail)
        have hb69 : Below w6.heap.size w6 w9 := Fd.bel_on (hb68.alloc hb68.size _) (Nat.le_trans hb68.size (by simp)) hb9
        clear hb68 hb9
        go_wp2
        go_roundw
        case rel => exact ⟨3, rfl, by omega, hb69⟩
        case measure => simp [intOf]
      · have hask := fun W (hW : Below w6.heap.size w6 W) => Tryd.known_ask (H6.out W hW).1 (H6.out W hW).2 U1.out (s := ⟨#[50]⟩) (l := []) (m := 0) (b := false) (.inr (.inr (.inr ⟨rfl, rfl, rfl, rfl⟩)))
        have hwro := fun W (hW : Below w6.heap.size w6 W) => Tryd.known_wrong (H6.out W hW).1 (H6.out W hW).2 U1.out (s := ⟨#[120]⟩) (.inr (.inr (.inr rfl)))
        go_upto_region 13 with (first
          | (go_at_call 10; refine (hask _ (HBw.out.trans ((Below.refl _ wr).alloc HBw.out.size _))).mono ?_; clear hask; rintro e w7 ⟨ad, cap, ag, cg, rfl, hcs, hb7⟩)
          | fail)
        have hb67 : Below w6.heap.size w6 w7 := Fd.bel_on (HBw.out.alloc HBw.out.size _) (Nat.le_trans HBw.out.size (by simp)) hb7
        have hZ7 := (H6.out w7 hb67).1
        have c0 : w7.cell? ⟨br, 0, none⟩ = some (.string ⟨#[33, 114]⟩) := cell_of_row _ _ 0 _ _ _ hZ7.hr
        have c1 : w7.cell? ⟨br, 1, none⟩ = some (.int .i64 2) := cell_of_row _ _ 1 _ _ _ hZ7.hr
        have c2 : w7.cell? ⟨br, 2, none⟩ = some (.int .i64 1) := cell_of_row _ _ 2 _ _ _ hZ7.hr
        have d0 : w7.cell? ⟨bs, 0, none⟩ = some (.string ⟨#[33, 115]⟩) := cell_of_row _ _ 0 _ _ _ hZ7.hs
        have d1 : w7.cell? ⟨bs, 1, none⟩ = some (.int .i64 0) := cell_of_row _ _ 1 _ _ _ hZ7.hs
        have d2 : w7.cell? ⟨bs, 2, none⟩ = some (.int .i64 0) := cell_of_row _ _ 2 _ _ _ hZ7.hs
        have hsa := Tryd.same_b (hcs.past ((Below.refl _ w7).alloc (Nat.le_refl _) (.cells #[.string knR.room, .int .i64 knR.un, .int .i64 knR.hi, .string knS.room, .int .i64 knS.un, .int .i64 knS.hi] 28))) (Fd.cs_two (x := knR) (y := knS) (heap_alloc_new _ _)) (by simp)
        rw [show decide (([] : List Cn) = [knR, knS]) = false by decide +kernel] at hsa
        clear hcs hb7 hZ7
        go_upto_region 14 with (first
          | (go_at_call 12; refine hsa.mono ?_; clear hsa; rintro e w8 ⟨rfl, hb8⟩)
          | fail)
        have hb68 : Below w6.heap.size w6 w8 := Fd.bel_on (hb67.alloc hb67.size _) (Nat.le_trans hb67.size (by simp)) hb8
        clear hb8 hb67 c0 c1 c2 d0 d1 d2
        go_upto_region 17 with (first
          | (go_at_call 10; refine (hwro _ (hb68.trans ((Below.refl _ w8).alloc hb68.size _))).mono ?_; clear hwro; rintro e w9 ⟨rfl, hb9⟩)
          | fail)
        have hb69 : Below w6.heap.size w6 w9 := Fd.bel_on (hb68.alloc hb68.size _) (Nat.le_trans hb68.size (by simp)) hb9
        clear hb68 hb9
        go_wp2
        go_roundw
        case rel => exact ⟨4, rfl, by omega, hb69⟩
        case measure => simp [intOf]
end Go.Proofs
