/-
  The program's sum under a key: Mac.
-/
import Derived.Test.YtkfmfdnfjeofiaaDoorIm
namespace Go.Proofs
open Go.RowKit Go.Wi Go.Dg
theorem Tryd.new32 (w : World) (l : List UInt8) (hl : l.length = 32) : ∀ c : Array Value, c.size = 32 → (storeCells ⟨w.heap.size, 0, none⟩ (Lib.byteCells l) 0).run Tryd.prog (w.alloc (.cells c 32)) = .ok () (w.alloc (.cells (Lib.byteCells l).toArray 32)) := fun c hc =>
  run_storeCells_new w 32 c (Lib.byteCells l).toArray (Tryd.size32 l hl) (by simp [hc, Lib.byteCells, hl]) (Dg.all_byte l)
/-- The key, as it is taken. -/
def Dg.key0 (key : List UInt8) : List UInt8 := if 64 < key.length then Dg.sum key else key
theorem Dg.key0_len (key : List UInt8) : (Dg.key0 key).length ≤ 64 := by
  unfold Dg.key0
  split
  · rw [Dg.sum_len]; omega
  · omega
theorem Dg.key64_0 (key : List UInt8) : Dg.key0 key ++ List.replicate (64 - (Dg.key0 key).length) 0 = key64 key := rfl
set_option maxRecDepth 20000 in
set_option maxHeartbeats 1000000 in
theorem Tryd.mac_any {w : World} {key b : List UInt8} {U V : Value} (hT : Tryd.Tq w) (hk : Bs w U key) (hku : ∀ k, U.ownBlock = some k → k < w.heap.size) (hkc : key.length ≤ 900000000000000) (hb : Bs w V b) (hv : ∀ k, V.ownBlock = some k → k < w.heap.size) (hc : b.length ≤ 800000000000000) :
    Calls Tryd.prog 29 #[U, V] w fun e w' => e = .returned (.agg (Lib.byteCells (Dg.mac key b)).toArray) ∧ Below w.heap.size w w' := by
  obtain ⟨ad, cap, rfl, hx⟩ := hk.ex
  clear hx
  have HT : Hid _ := hT
  have HU : Hid _ := hk
  have HUo : Hid _ := hku
  have HBs : Hid _ := hb
  have HV : Hid _ := hv
  clear hT hb hv hk hku
  obtain ⟨L, hL⟩ : ∃ L, L = key.length := ⟨_, rfl⟩
  have HL : Hid (L = key.length) := hL
  rw [← hL] at HU HUo hkc ⊢
  clear hL
  go_enter Tryd.func29, Tryd.ntmps29
  go_upto_if 11 with (fail)
  obtain ⟨wa, hwa⟩ : ∃ wa, wa = w.alloc (.cells (Lib.byteCells (List.replicate 32 0)).toArray 32) := ⟨_, rfl⟩
  have HA : Hid (Dg.Br 32 wa w.heap.size (List.replicate 32 0) ∧ Below w.heap.size w wa) := by
    rw [hwa]
    exact ⟨heap_alloc_new w _, (Below.refl _ w).alloc (Nat.le_refl _) _⟩
  have Hew : Hid (w.alloc (.cells (Lib.byteCells (List.replicate 32 0)).toArray 32) = wa) := hwa.symm
  clear hwa
  show Code.wp _ _ _ _ (w.alloc (.cells (Lib.byteCells (List.replicate 32 0)).toArray 32))
  rw [Hew.out]
  clear Hew
  go_cut [0] (fun v wx => Hid (Bs wx v (Dg.key0 key) ∧ (∀ k, v.ownBlock = some k → k < wx.heap.size) ∧ Below wa.heap.size wa wx))
  case first =>
    have hsum := Tryd.sum_any (w := wa) (HT.out.below HA.out.2 HT.out.sz) (HU.out.below HA.out.2 HUo.out) (fun k e => Nat.lt_of_lt_of_le (HUo.out k e) HA.out.2.size) (by rw [← HL.out]; exact hkc)
    by_cases hp : 64 < L
    · have q1 : (64 : Int) < (L : Int) := by omega
      obtain ⟨M, hM⟩ : ∃ M, M = Dg.sum key := ⟨_, rfl⟩
      have hMl : M.length = 32 := by rw [hM]; exact Dg.sum_len key
      rw [← hM] at hsum
      have HM : Hid (M = Dg.sum key) := hM
      have l32 : (Lib.byteCells M).length = 32 := by rw [byteCells_len]; exact hMl
      clear hM
      go_wp2_with (first | (go_at_call 16; refine hsum.mono ?_; clear hsum; rintro z wb ⟨rfl, hb1⟩; have HB1 : Hid _ := hb1; clear hb1; have st := Tryd.new32 wb M hMl) | fail)
      go_meet
      case rel =>
        have hbr : Dg.Br 32 (wb.alloc (.cells (Lib.byteCells M).toArray 32)) wb.heap.size M := heap_alloc_new wb _
        refine ⟨?_, fun k e => ?_, HB1.out.alloc HB1.out.size _⟩
        · have h1 := hbr.bs 32 32 (by omega) (Nat.le_refl _)
          rw [List.take_of_length_le (by omega)] at h1
          unfold Dg.key0
          rw [if_pos (by rw [← HL.out]; exact hp), ← HM.out]
          exact h1
        · cases e
          exact hbr.lt
    · have q1 : ¬ (64 : Int) < (L : Int) := by omega
      clear hsum
      go_wp2_with (fail)
      go_meet
      case rel =>
        refine ⟨?_, fun k e => Nat.lt_of_lt_of_le (HUo.out k e) HA.out.2.size, Below.refl _ _⟩
        unfold Dg.key0
        rw [if_neg (by rw [← HL.out]; exact hp)]
        exact HU.out.below HA.out.2 HUo.out
  case rest =>
    clear HU HUo
    have HC : Hid _ := hcut
    clear hcut
    have H0 : Hid (Below w.heap.size w wc ∧ Dg.Br 32 wc w.heap.size (List.replicate 32 0) ∧ Tryd.Tq wc ∧ Bs wc V b ∧ (∀ k, V.ownBlock = some k → k < wc.heap.size) ∧ w.heap.size < wc.heap.size) := by
      have h1 : Below w.heap.size w wc := HA.out.2.trans (HC.out.2.2.mono HA.out.2.size)
      have h2 := HA.out.1.keep (HC.out.2.2.block _ HA.out.1.lt)
      exact ⟨h1, h2, HT.out.below h1 HT.out.sz, HBs.out.below h1 HV.out, fun k e => Nat.lt_of_lt_of_le (HV.out k e) h1.size, h2.lt⟩
    obtain ⟨k, hkk⟩ : ∃ k, k = Dg.key0 key := ⟨_, rfl⟩
    have Hk64 : Hid (k ++ List.replicate (64 - k.length) 0 = key64 key) := by rw [hkk]; exact Dg.key64_0 key
    have hkl : k.length ≤ 64 := by rw [hkk]; exact Dg.key0_len key
    rw [← hkk] at HC
    clear hkk HA HBs HV
    have hk1 := Tryd.keyed_any (w := wc) 54 H0.out.2.2.1 HC.out.1 HC.out.2.1 hkl
    rw [Hk64.out] at hk1
    go_wp2_with (fail)
    refine hk1.mono ?_
    clear hk1
    rintro z w1 ⟨g1, s1, R1, rfl, hg1, hh1, hs1, hb1⟩
    have H1 : Hid (wc.heap.size ≤ g1 ∧ Tryd.Hsh w1 g1 s1 R1 64 ∧ Dg.Sofar s1 R1 (withB (key64 key) 54) ∧ Below wc.heap.size wc w1) := ⟨hg1, hh1, hs1, hb1⟩
    clear hg1 hh1 hs1 hb1
    have hl64 : ∀ n, (withB (key64 key) n).length = 64 := fun n => by rw [withB, List.length_map]; exact Dg.key64_len key
    have Hl64 : Hid _ := hl64
    have hw1 := Tryd.write_any (w := w1) (g := g1) (l := withB (key64 key) 54) (H0.out.2.2.1.below H1.out.2.2.2 H0.out.2.2.1.sz) (by have := H0.out.2.2.1.sz; have := H1.out.1; omega) (by rw [hl64]; exact H1.out.2.1) H1.out.2.2.1 (H0.out.2.2.2.1.below H1.out.2.2.2 H0.out.2.2.2.2.1) (fun e => by have := H0.out.2.2.2.2.1 _ e; have := H1.out.1; omega) (by rw [hl64]; omega)
    clear hl64
    go_wp2_with (fail)
    refine hw1.mono ?_
    clear hw1
    rintro z w2 ⟨rfl, s2, R2, hh2, hs2, ho2⟩
    have H2 : Hid (Tryd.Hsh w2 g1 s2 R2 (withB (key64 key) 54 ++ b).length ∧ Dg.Sofar s2 R2 (withB (key64 key) 54 ++ b) ∧ Below wc.heap.size wc w2) := by
      rw [List.length_append]
      exact ⟨hh2, hs2, Wo.toBelow H1.out.2.2.2 ho2 (fun j e => by rw [e]; exact H1.out.1) H1.out.2.2.2.size⟩
    clear hh2 hs2 ho2
    have hs3 := Tryd.sumH_any (w := w2) (g := g1) (H0.out.2.2.1.below H2.out.2.2 H0.out.2.2.1.sz) H2.out.1 H2.out.2.1 (by rw [List.length_append, Hl64.out]; omega)
    obtain ⟨M, hM⟩ : ∃ M, M = Dg.sum (withB (key64 key) 54 ++ b) := ⟨_, rfl⟩
    have hMl : M.length = 32 := by rw [hM]; exact Dg.sum_len _
    rw [← hM] at hs3
    have HM : Hid (M = Dg.sum (withB (key64 key) 54 ++ b)) := hM
    have l32 : (Lib.byteCells M).length = 32 := by rw [byteCells_len]; exact hMl
    clear hM
    go_wp2_with (fail)
    refine hs3.mono ?_
    clear hs3
    rintro z w3 ⟨rfl, hb3⟩
    have HB3 : Hid (Below wc.heap.size wc w3) := H2.out.2.2.trans (hb3.mono H2.out.2.2.size)
    clear hb3
    have st3 := Tryd.new32 w3 M hMl
    go_upto_region 7 with (fail)
    obtain ⟨w4, hw4⟩ : ∃ w4, w4 = w3.alloc (.cells (Lib.byteCells M).toArray 32) := ⟨_, rfl⟩
    have H4 : Hid (Dg.Br 32 w4 w3.heap.size M ∧ Below wc.heap.size wc w4 ∧ wc.heap.size ≤ w3.heap.size ∧ w3.heap.size < w4.heap.size) := by
      rw [hw4]
      have h1 : Dg.Br 32 (w3.alloc (.cells (Lib.byteCells M).toArray 32)) w3.heap.size M := heap_alloc_new w3 _
      exact ⟨h1, HB3.out.alloc HB3.out.size _, HB3.out.size, h1.lt⟩
    rw [← hw4]
    clear hw4 st3 HB3 H2 H1
    generalize w3.heap.size = g7 at *
    have hk5 := Tryd.keyed_any (w := w4) 92 (H0.out.2.2.1.below H4.out.2.1 H0.out.2.2.1.sz) (HC.out.1.below H4.out.2.1 HC.out.2.1) (fun j e => Nat.lt_of_lt_of_le (HC.out.2.1 j e) H4.out.2.1.size) hkl
    rw [Hk64.out] at hk5
    go_wp2_with (fail)
    refine hk5.mono ?_
    clear hk5
    rintro z w5 ⟨g5, s5, R5, rfl, hg5, hh5, hs5, hb5⟩
    have H5 : Hid (w4.heap.size ≤ g5 ∧ Tryd.Hsh w5 g5 s5 R5 64 ∧ Dg.Sofar s5 R5 (withB (key64 key) 92) ∧ Below w4.heap.size w4 w5) := ⟨hg5, hh5, hs5, hb5⟩
    clear hg5 hh5 hs5 hb5
    have hbs5 : Bs w5 (.slice (some ⟨g7, 0, none⟩) 32 32) M := by
      have h1 := (H4.out.1.keep (H5.out.2.2.2.block _ H4.out.2.2.2)).bs 32 32 (by omega) (Nat.le_refl _)
      rw [List.take_of_length_le (by omega)] at h1
      exact h1
    have HB5 : Hid (Below wc.heap.size wc w5) := H4.out.2.1.trans (H5.out.2.2.2.mono H4.out.2.1.size)
    have hw5 := Tryd.write_any (w := w5) (g := g5) (l := withB (key64 key) 92) (H0.out.2.2.1.below HB5.out H0.out.2.2.1.sz) (by have := H0.out.2.2.1.sz; have := H5.out.1; have := H4.out.2.1.size; omega) (by rw [Hl64.out]; exact H5.out.2.1) H5.out.2.2.1 hbs5 (fun e => by have := H4.out.2.2.2; have := H5.out.1; injection e with e; simp at e; omega) (by rw [Hl64.out]; omega)
    clear hbs5
    go_wp2_with (fail)
    refine hw5.mono ?_
    clear hw5
    rintro z w6 ⟨rfl, s6, R6, hh6, hs6, ho6⟩
    have H6 : Hid (Tryd.Hsh w6 g5 s6 R6 (withB (key64 key) 92 ++ M).length ∧ Dg.Sofar s6 R6 (withB (key64 key) 92 ++ M) ∧ Below wc.heap.size wc w6) := by
      rw [List.length_append]
      exact ⟨hh6, hs6, Wo.toBelow HB5.out ho6 (fun j e => by rw [e]; have := H5.out.1; have := H4.out.2.1.size; omega) HB5.out.size⟩
    clear hh6 hs6 ho6
    have hs7 := Tryd.sumH_any (w := w6) (g := g5) (H0.out.2.2.1.below H6.out.2.2 H0.out.2.2.1.sz) H6.out.1 H6.out.2.1 (by rw [List.length_append, Hl64.out]; omega)
    obtain ⟨N, hN⟩ : ∃ N, N = Dg.sum (withB (key64 key) 92 ++ M) := ⟨_, rfl⟩
    have hNl : N.length = 32 := by rw [hN]; exact Dg.sum_len _
    rw [← hN] at hs7
    have HN : Hid (N = Dg.mac key b) := by
      show N = Dg.sum _
      rw [hN, HM.out]
    clear hN
    go_wp2_with (fail)
    refine hs7.mono ?_
    clear hs7
    rintro z w8 ⟨rfl, hb8⟩
    have HB8 : Hid (Below wc.heap.size wc w8) := H6.out.2.2.trans (hb8.mono H6.out.2.2.size)
    clear hb8
    have hbr : Dg.Br 32 w8 w.heap.size (List.replicate 32 0) := H0.out.2.1.keep (HB8.out.block _ H0.out.2.2.2.2.2)
    have HBR : Hid _ := hbr
    have st := Tryd.over32 hbr (by simp) N hNl
    have l32' : (Lib.byteCells N).length = 32 := by rw [byteCells_len]; exact hNl
    clear hbr
    go_wp2
    refine bodyPost_ret (results_cell_row rfl _ _ w.heap.size _ _ _ _ rfl (Dg.Br.setRow HBR.out N) Tryd.underlying32 rfl (Tryd.size32 N hNl)) rfl ⟨by rw [HN.out], below_setRow (H0.out.1.trans (HB8.out.mono H0.out.1.size)) (Nat.le_refl _) _⟩
end Go.Proofs
