/-
  Laid together by packg.py of LawWWrites.
-/
import Derived.Test.YtogimcdjllhkcaaGreatDoorPvC
import Derived.Test.YtogimcdjllhkcaaGreatDoorPvZ
namespace Go.Wb
/-- A body of which the first have been written over, and what stands behind it. -/
def oo (b : List UInt8) (i : Nat) : List UInt8 := List.replicate i 111 ++ b.drop i ++ List.replicate 8 201
theorem oo_zero (b : List UInt8) : oo b 0 = b ++ List.replicate 8 201 := rfl
theorem oo_len (b : List UInt8) {i : Nat} (h : i ≤ b.length) : (oo b i).length = b.length + 8 := by
  unfold oo
  simp only [List.length_append, List.length_replicate, List.length_drop]
  omega
theorem oo_full (b : List UInt8) : oo b b.length = List.replicate b.length 111 ++ List.replicate 8 201 := by
  unfold oo
  rw [List.drop_length, List.append_nil]
theorem oo_next (b : List UInt8) {i : Nat} (h : i < b.length) : (oo b i).set i 111 = oo b (i + 1) := by
  have e : oo b i = List.replicate i 111 ++ (b[i] :: (b.drop (i + 1) ++ List.replicate 8 201)) := by
    unfold oo
    rw [List.drop_eq_getElem_cons h, List.append_assoc]
    rfl
  have e2 : oo b (i + 1) = List.replicate i 111 ++ (111 :: (b.drop (i + 1) ++ List.replicate 8 201)) := by
    unfold oo
    rw [List.replicate_succ', List.append_assoc, List.append_assoc]
    rfl
  rw [e, e2, List.set_append_right _ _ (by rw [List.length_replicate]; exact Nat.le_refl _), List.length_replicate, Nat.sub_self, List.set_cons_zero]
theorem headText_small {L : List (List UInt8 × List UInt8)} {m : Nat} (h : ∀ x ∈ L, x.1.length ≤ m ∧ x.2.length ≤ m) : (headText L).length ≤ L.length * (2 * m + 4) := by
  rw [headText_len]
  exact sum_bound fun x hx => by have := h x hx; omega
theorem itoa_30 (n : Nat) (h : n ≤ 1048576) : (Lib.itoa (n : Int)).length ≤ 1048576 := Nat.le_trans (Lib.itoa_length_le n (by omega) (by omega)) (by decide)
theorem mem_last {last : Bool} {x : List UInt8 × List UInt8} (h : x ∈ (if last then [(sCo, wClose)] else [] : List (List UInt8 × List UInt8))) : x.1.length ≤ 1048576 ∧ x.2.length ≤ 1048576 := by
  split at h
  · rw [List.mem_singleton.1 h]; exact ⟨by decide, by decide⟩
  · cases h
theorem heads_small {L : List (List UInt8 × List UInt8)} (hl : ∀ x ∈ L, x.1.length ≤ 1048576 ∧ x.2.length ≤ 1048576) (hL : L.length ≤ 1048576) (bd : List UInt8) (hb : bd.length ≤ 1048576) (last : Bool) (st : Int) : (headText (rqHeads Lib.itoa L bd last)).length ≤ 140737488355328 ∧ (headText (prHeads Lib.itoa st L bd last)).length ≤ 140737488355328 := by
  have hla : (if last then [(sCo, wClose)] else [] : List (List UInt8 × List UInt8)).length ≤ 1 := by split <;> simp
  have hd := itoa_30 bd.length hb
  refine ⟨?_, ?_⟩
  · have h1 : ∀ x ∈ rqHeads Lib.itoa L bd last, x.1.length ≤ 1048576 ∧ x.2.length ≤ 1048576 := fun x hx => by
      rcases List.mem_append.1 hx with hx | hx
      · rcases List.mem_append.1 hx with hx | hx
        · rcases List.mem_append.1 hx with hx | hx
          · unfold hostH at hx
            split at hx
            · rw [List.mem_singleton.1 hx]; exact ⟨by decide, by decide⟩
            · cases hx
          · exact hl x hx
        · unfold bodyH at hx
          split at hx
          · cases hx
          · rw [List.mem_singleton.1 hx]; exact ⟨by show (14 : Nat) ≤ _; omega, hd⟩
      · exact mem_last hx
    have h2 : (rqHeads Lib.itoa L bd last).length ≤ 1048579 := by
      unfold rqHeads
      rw [List.length_append, List.length_append, List.length_append]
      have e1 : (hostH L).length ≤ 1 := by unfold hostH; split <;> simp
      have e2 : (bodyH Lib.itoa bd).length ≤ 1 := by unfold bodyH; split <;> simp
      omega
    have h3 := headText_small h1
    have h4 := Nat.mul_le_mul_right (2 * 1048576 + 4) h2
    omega
  · have h1 : ∀ x ∈ prHeads Lib.itoa st L bd last, x.1.length ≤ 1048576 ∧ x.2.length ≤ 1048576 := fun x hx => by
      rcases List.mem_append.1 hx with hx | hx
      · rcases List.mem_append.1 hx with hx | hx
        · exact hl x hx
        · unfold lenH at hx
          split at hx
          · cases hx
          · rw [List.mem_singleton.1 hx]; exact ⟨by show (14 : Nat) ≤ _; omega, hd⟩
      · exact mem_last hx
    have h2 : (prHeads Lib.itoa st L bd last).length ≤ 1048578 := by
      unfold prHeads
      rw [List.length_append, List.length_append]
      have e2 := lenH_len Lib.itoa st bd
      omega
    have h3 := headText_small h1
    have h4 := Nat.mul_le_mul_right (2 * 1048576 + 4) h2
    omega
theorem printed_small {line body : List UInt8} {H : List (List UInt8 × List UInt8)} (h : headSize line H ≤ 2048) : (printedT line H body).length ≤ 2048 + body.length := by
  have e : printedT line H body = (line ++ [13, 10] ++ headText H ++ [13, 10]) ++ body := rfl
  rw [e, List.length_append, head_len]
  omega
theorem rq_small {meth tg body T : List UInt8} {L : List (List UInt8 × List UInt8)} {last : Bool} {n : Int} (h : rqAns Lib.itoa meth tg L body last = (T, n)) (hb : body.length ≤ 1048576) : T.length ≤ 4000000 := by
  unfold rqAns at h
  split at h
  · split at h
    · injection h with h1; rw [← h1]; exact Nat.zero_le _
    · split at h
      · next hh => injection h with h1; rw [← h1]; have := printed_small (body := body) hh.2; omega
      · injection h with h1; rw [← h1]; exact Nat.zero_le _
  · injection h with h1; rw [← h1]; exact Nat.zero_le _
theorem pr_small {body T : List UInt8} {st : Int} {L : List (List UInt8 × List UInt8)} {last : Bool} {n : Int} (h : prAns Lib.itoa st L body last = (T, n)) (hb : body.length ≤ 1048576) : T.length ≤ 4000000 := by
  unfold prAns at h
  split at h
  · split at h
    · next hh => injection h with h1; rw [← h1]; have := printed_small (body := body) hh.2; omega
    · injection h with h1; rw [← h1]; exact Nat.zero_le _
  · injection h with h1; rw [← h1]; exact Nat.zero_le _
end Go.Wb
namespace Go.Proofs
open Go.RowKit Go.Wi Go.Wb
open Go.Dg (Ls Gr Ob Ov)
set_option maxRecDepth 20000 in
set_option maxHeartbeats 4000000 in
theorem Tryz.webWrites_go {w : World} (meth tg : List UInt8) {V : Value} {L : List (List UInt8 × List UInt8)} (hV : Hs w V L) (body : List UInt8) (last : Bool) (st : Int) (hm : meth.length ≤ 1048576) (htg : tg.length ≤ 1048576) (hL : L.length ≤ 1048576) (hl : ∀ x ∈ L, x.1.length ≤ 1048576 ∧ x.2.length ≤ 1048576) (hb : body.length ≤ 1048576) (_hst : -9223372036854775808 ≤ st ∧ st ≤ 9223372036854775807)
    (htab : Lib.TabIs Tryz.prog w "internal/strconv.uint64pow10" .u64 Lib.pow10Tab) :
    Calls Tryz.prog 3 #[.agg #[.string ⟨meth.toArray⟩, .string ⟨tg.toArray⟩, V, .string ⟨body.toArray⟩, .bool last], .int .i64 st] w fun e w' => e = .returned (.bool true) ∧ Below w.heap.size w w' := by
  obtain ⟨ad, cap, eV, -⟩ := hV.ex
  subst eV
  have hA : Below w.heap.size w (w.alloc (.cells #[.string ⟨meth.toArray⟩, .string ⟨tg.toArray⟩, .slice ad L.length cap, .string ⟨body.toArray⟩, .bool last] 24)) := (Below.refl _ w).alloc (Nat.le_refl _) _
  have hsz : (w.alloc (.cells #[.string ⟨meth.toArray⟩, .string ⟨tg.toArray⟩, .slice ad L.length cap, .string ⟨body.toArray⟩, .bool last] 24)).heap.size = w.heap.size + 1 := by simp
  have k0 := Tryz.shown_any (Lib.tabBelow_of_tabIs htab _ hA)
  have HC : Hid (∀ W, Below (w.heap.size + 1) (w.alloc (.cells #[.string ⟨meth.toArray⟩, .string ⟨tg.toArray⟩, .slice ad L.length cap, .string ⟨body.toArray⟩, .bool last] 24)) W → W.cell? ⟨w.heap.size, 0, none⟩ = some (.string ⟨meth.toArray⟩) ∧ W.cell? ⟨w.heap.size, 1, none⟩ = some (.string ⟨tg.toArray⟩) ∧ W.cell? ⟨w.heap.size, 2, none⟩ = some (.slice ad L.length cap) ∧ W.cell? ⟨w.heap.size, 3, none⟩ = some (.string ⟨body.toArray⟩) ∧ W.cell? ⟨w.heap.size, 4, none⟩ = some (.bool last)) := fun W hW => by
    have hn := heap_alloc_new w (.cells #[.string ⟨meth.toArray⟩, .string ⟨tg.toArray⟩, .slice ad L.length cap, .string ⟨body.toArray⟩, .bool last] 24)
    exact ⟨(hW.cell (p := ⟨w.heap.size, 0, none⟩) (Nat.lt_succ_self _)).trans (cell_of_row _ _ 0 _ _ _ hn), (hW.cell (p := ⟨w.heap.size, 1, none⟩) (Nat.lt_succ_self _)).trans (cell_of_row _ _ 1 _ _ _ hn), (hW.cell (p := ⟨w.heap.size, 2, none⟩) (Nat.lt_succ_self _)).trans (cell_of_row _ _ 2 _ _ _ hn), (hW.cell (p := ⟨w.heap.size, 3, none⟩) (Nat.lt_succ_self _)).trans (cell_of_row _ _ 3 _ _ _ hn), (hW.cell (p := ⟨w.heap.size, 4, none⟩) (Nat.lt_succ_self _)).trans (cell_of_row _ _ 4 _ _ _ hn)⟩
  have HA : Hid _ := hA
  have HS : Hid _ := hsz
  have HT : Hid _ := htab
  have HV : Hid (Hs w (.slice ad L.length cap) L) := hV
  have HLL : Hid (∀ x ∈ L, x.1.length ≤ 1048576 ∧ x.2.length ≤ 1048576) := hl
  clear hA hsz htab hV hl
  go_enter Tryz.func3, Tryz.ntmps3
  go_upto_region 3 with (first
    | (go_at_call 4; refine k0.mono ?_; clear k0; rintro e w1 ⟨rfl, hb1⟩; rw [HS.out] at hb1; obtain ⟨c0, c1, c2, c3, c4⟩ := HC.out w1 hb1; have HB1 : Hid (Below (w.heap.size + 1) _ w1) := hb1; have HBw : Hid (Below w.heap.size w w1) := HA.out.trans (hb1.mono (Nat.le_succ _)); have kr := Tryz.askRequest_full ⟨meth.toArray⟩ ⟨tg.toArray⟩ (HV.out.below HBw.out) body last (by omega) (by omega); clear hb1)
    | (go_at_call 5; refine kr.mono ?_; clear kr; rintro e w2 ⟨gh, gb, f1, f2, f3, f4, hh, hrb, rfl, hhs, hbs, f5, hb2⟩)
    | fail)
  obtain ⟨N, hN⟩ : ∃ N : Nat, L.length + 8 = N := ⟨_, rfl⟩
  obtain ⟨M, hM⟩ : ∃ M : Nat, body.length + 8 = M := ⟨_, rfl⟩
  have HN : Hid (L.length + 8 = N) := hN
  have HM : Hid (body.length + 8 = M) := hM
  rw [hN] at hh hhs
  rw [hM] at hbs
  rw [hN, hM]
  clear hN hM
  obtain ⟨gR, hgR⟩ : ∃ g, w2.heap.size = g := ⟨_, rfl⟩
  have g1 : w.heap.size + 1 ≤ w1.heap.size := by have := HB1.out.size; rw [HS.out] at this; exact this
  have g2 := hb2.size
  have hW2 := HB1.out.trans (hb2.mono g1)
  have hW2w : Below w.heap.size w w2 := HBw.out.trans (hb2.mono HBw.out.size)
  generalize hW0 : w2.alloc _ = W0
  have hR : W0.heap[gR]? = some (.cells #[.string ⟨meth.toArray⟩, .string ⟨tg.toArray⟩, .slice (some ⟨gh, 0, none⟩) L.length N, .slice (some ⟨gb, 0, none⟩) body.length M, .bool last] 28 (0, 0)) := by rw [← hW0, ← hgR]; exact heap_alloc_new w2 _
  have b20 : Below w2.heap.size w2 W0 := by rw [← hW0]; exact (Below.refl _ w2).alloc (Nat.le_refl _) _
  have hlt0 : gR < W0.heap.size := by rw [← hW0, ← hgR]; simp
  rw [hgR]
  clear hW0
  have bW : ∀ W, Below W0.heap.size W0 W → Below w2.heap.size w2 W := fun W hW => b20.trans (hW.mono b20.size)
  have HCR : Hid (∀ W, Below W0.heap.size W0 W → W.cell? ⟨gR, 0, none⟩ = some (.string ⟨meth.toArray⟩) ∧ W.cell? ⟨gR, 1, none⟩ = some (.string ⟨tg.toArray⟩) ∧ W.cell? ⟨gR, 2, none⟩ = some (.slice (some ⟨gh, 0, none⟩) L.length N) ∧ W.cell? ⟨gR, 3, none⟩ = some (.slice (some ⟨gb, 0, none⟩) body.length M) ∧ W.cell? ⟨gR, 4, none⟩ = some (.bool last)) := fun W hW => ⟨(hW.cell (p := ⟨gR, 0, none⟩) hlt0).trans (cell_of_row _ _ 0 _ _ _ hR), (hW.cell (p := ⟨gR, 1, none⟩) hlt0).trans (cell_of_row _ _ 1 _ _ _ hR), (hW.cell (p := ⟨gR, 2, none⟩) hlt0).trans (cell_of_row _ _ 2 _ _ _ hR), (hW.cell (p := ⟨gR, 3, none⟩) hlt0).trans (cell_of_row _ _ 3 _ _ _ hR), (hW.cell (p := ⟨gR, 4, none⟩) hlt0).trans (cell_of_row _ _ 4 _ _ _ hR)⟩
  have HCA : Hid (∀ W, Below W0.heap.size W0 W → W.cell? ⟨w.heap.size, 0, none⟩ = some (.string ⟨meth.toArray⟩) ∧ W.cell? ⟨w.heap.size, 1, none⟩ = some (.string ⟨tg.toArray⟩) ∧ W.cell? ⟨w.heap.size, 2, none⟩ = some (.slice ad L.length cap) ∧ W.cell? ⟨w.heap.size, 3, none⟩ = some (.string ⟨body.toArray⟩) ∧ W.cell? ⟨w.heap.size, 4, none⟩ = some (.bool last)) := fun W hW => HC.out W (hW2.trans ((bW W hW).mono (Nat.le_trans g1 g2)))
  have HVa : Hid (∀ W, Below W0.heap.size W0 W → Hs W (.slice ad L.length cap) L) := fun W hW => HV.out.below (hW2w.trans ((bW W hW).mono hW2w.size))
  have HHf : Hid (∀ W, Below W0.heap.size W0 W → Hs W (.slice (some ⟨gh, 0, none⟩) N N) (L ++ List.replicate 8 ([], []))) := fun W hW => hh.below (bW W hW)
  have HHs : Hid (∀ W, Below W0.heap.size W0 W → Hs W (.slice (some ⟨gh, 0, none⟩) L.length N) L) := fun W hW => hhs.below (bW W hW)
  have HRb : Hid (∀ W, Below W0.heap.size W0 W → Rb W gb (body ++ List.replicate 8 201)) := fun W hW => (by
    have e := (bW W hW).block gb f5
    exact ⟨Nat.lt_of_lt_of_le f5 (bW W hW).size, fun j u hu => (World.cell?_of_block (a := ⟨gb, j, none⟩) e).trans (hrb.cell j u hu), fun j hj => (World.frozen?_of_block (a := ⟨gb, j, none⟩) e).trans (hrb.fz j hj)⟩)
  have HBs : Hid (∀ W, Below W0.heap.size W0 W → Bs W (.slice (some ⟨gb, 0, none⟩) body.length M) body) := fun W hW => hbs.below (bW W hW) (fun k e => by cases e; exact f5)
  have HGB : Hid (gb < W0.heap.size ∧ gR < W0.heap.size ∧ w.heap.size ≤ W0.heap.size ∧ gb ≠ gh ∧ gb ≠ gR ∧ w.heap.size < gb) := ⟨Nat.lt_of_lt_of_le f5 b20.size, hlt0, Nat.le_trans hW2w.size b20.size, fun e => f3 e.symm, by omega, by omega⟩
  have HGH : Hid (gh < W0.heap.size) := Nat.lt_of_lt_of_le f4 b20.size
  have HWw : Hid (∀ W, Below W0.heap.size W0 W → Below w.heap.size w W) := fun W hW => hW2w.trans ((bW W hW).mono hW2w.size)
  have HITO : Hid (∀ W, Below W0.heap.size W0 W → ∀ (n : Int) W', 0 ≤ n → n ≤ 9223372036854775807 → Below W.heap.size W W' → Calls Tryz.prog 32 #[.int .i64 n] W' fun e w' => e = .returned (.string ⟨(Lib.itoa n).toArray⟩) ∧ Below W'.heap.size W' w') := fun W hW n W' h0 h1 hW' => Tryz.itoa_any HT.out n W' h0 h1 ((HWw.out W hW).trans (hW'.mono (HWw.out W hW).size))
  have HLX : Hid (∀ x ∈ L, x.1.length ≤ 140737488355328 ∧ x.2.length ≤ 140737488355328) := fun x hx => ⟨Nat.le_trans (HLL.out x hx).1 (by omega), Nat.le_trans (HLL.out x hx).2 (by omega)⟩
  have HTX : Hid (∀ bd : List UInt8, bd.length ≤ 1048576 → (headText (rqHeads Lib.itoa L bd last)).length ≤ 140737488355328 ∧ (headText (prHeads Lib.itoa st L bd last)).length ≤ 140737488355328) := fun bd hbd => heads_small HLL.out hL bd hbd last st
  -- what is asked, at any later world
  obtain ⟨⟨T1, n1⟩, hq1⟩ : ∃ p, rqAns Lib.itoa meth tg L body last = p := ⟨_, rfl⟩
  obtain ⟨⟨T2, n2⟩, hq2⟩ : ∃ p, prAns Lib.itoa st L body last = p := ⟨_, rfl⟩
  have HT1 : Hid (T1.length ≤ 4000000) := rq_small hq1 hb
  have HT2 : Hid (T2.length ≤ 4000000) := pr_small hq2 hb
  have KP : Hid (∀ W, Below W0.heap.size W0 W → Calls Tryz.prog 6 #[.agg #[.string ⟨meth.toArray⟩, .string ⟨tg.toArray⟩, .slice (some ⟨gh, 0, none⟩) L.length N, .slice (some ⟨gb, 0, none⟩) body.length M, .bool last]] W fun e w' => (∃ ad NN cap, e = .returned (.tuple #[.slice ad NN cap, .int .i64 n1]) ∧ Dg.Ob w' W.heap.size (.slice ad NN cap) T1) ∧ Below W.heap.size W w') := fun W hW => (by
    have := Tryz.pReq_any meth tg last (HHs.out W hW) (HBs.out W hW) (fun k e => by cases e; exact Nat.lt_of_lt_of_le HGB.out.1 hW.size) (by omega) (by omega) HLX.out (by omega) (by omega) (HITO.out W hW)
    rw [hq1] at this
    exact this)
  have KR : Hid (∀ W, Below W0.heap.size W0 W → Calls Tryz.prog 7 #[.agg #[.string ⟨meth.toArray⟩, .string ⟨tg.toArray⟩, .slice (some ⟨gh, 0, none⟩) L.length N, .slice (some ⟨gb, 0, none⟩) body.length M, .bool last]] W fun e w' => e = .returned (.tuple #[.string ⟨T1.toArray⟩, .int .i64 n1]) ∧ Below W.heap.size W w') := fun W hW => (by
    have := Tryz.rReq_any meth tg last (HHs.out W hW) (HBs.out W hW) (fun k e => by cases e; exact Nat.lt_of_lt_of_le HGB.out.1 hW.size) (by omega) (by omega) HLX.out (by omega) (by omega) (HTX.out body hb).1
    rw [hq1] at this
    exact this)
  have KQ : Hid (∀ W, Below W0.heap.size W0 W → Calls Tryz.prog 8 #[.agg #[.int .i64 st, .slice (some ⟨gh, 0, none⟩) L.length N, .slice (some ⟨gb, 0, none⟩) body.length M, .bool last]] W fun e w' => (∃ ad NN cap, e = .returned (.tuple #[.slice ad NN cap, .int .i64 n2]) ∧ Dg.Ob w' W.heap.size (.slice ad NN cap) T2) ∧ Below W.heap.size W w') := fun W hW => (by
    have := Tryz.pRes_any st last (HHs.out W hW) (HBs.out W hW) (fun k e => by cases e; exact Nat.lt_of_lt_of_le HGB.out.1 hW.size) HLX.out (by omega) (by omega) (HITO.out W hW)
    rw [hq2] at this
    exact this)
  have KS : Hid (∀ W, Below W0.heap.size W0 W → Calls Tryz.prog 9 #[.agg #[.int .i64 st, .slice (some ⟨gh, 0, none⟩) L.length N, .slice (some ⟨gb, 0, none⟩) body.length M, .bool last]] W fun e w' => e = .returned (.tuple #[.string ⟨T2.toArray⟩, .int .i64 n2]) ∧ Below W.heap.size W w') := fun W hW => (by
    have := Tryz.rRes_any st last (HHs.out W hW) (HBs.out W hW) (fun k e => by cases e; exact Nat.lt_of_lt_of_le HGB.out.1 hW.size) HLX.out (by omega) (by omega) (HTX.out body hb).2
    rw [hq2] at this
    exact this)
  have KK : Hid (∀ W, Below W0.heap.size W0 W → Calls Tryz.prog 10 #[.agg #[.string ⟨meth.toArray⟩, .string ⟨tg.toArray⟩, .slice ad L.length cap, .string ⟨body.toArray⟩, .bool last], .agg #[.string ⟨meth.toArray⟩, .string ⟨tg.toArray⟩, .slice (some ⟨gh, 0, none⟩) L.length N, .slice (some ⟨gb, 0, none⟩) body.length M, .bool last]] W fun e w' => e = .returned (.bool true) ∧ Below W.heap.size W w') := fun W hW => (by
    have h1 := HHf.out W hW
    have := Tryz.kept_any meth tg (gh := gh) (gb := gb) last (HVa.out W hW) (by rw [HN.out]; exact h1) (HRb.out W hW) (by omega) (by omega)
    rw [HN.out, HM.out] at this
    exact this)
  clear hh hrb hhs hbs hb2 hW2 hW2w b20 hR bW f1 f2 f3 f4 f5 g1 g2 hgR hlt0 HB1 HBw c0 c1 c2 c3 c4 HC HV hq1 hq2
  obtain ⟨c0, c1, c2, c3, c4⟩ := HCR.out W0 (Below.refl _ _)
  have kp1 := KP.out W0 (Below.refl _ _)
  go_upto_region 6 with (first
    | (go_at_call 6; refine kp1.mono ?_; clear kp1; rintro e w3 ⟨⟨ad1, N1, cp1, rfl, o1⟩, b3⟩; obtain ⟨d0, d1, d2, d3, d4⟩ := HCR.out w3 b3; have kr1 := KR.out w3 b3; have HO1 : Hid (Dg.Ob w3 W0.heap.size (.slice ad1 N1 cp1) T1) := o1; have HB3 : Hid (Below W0.heap.size W0 w3) := b3; clear o1 b3)
    | (go_at_call 7; refine kr1.mono ?_; clear kr1; rintro e w4 ⟨rfl, b4⟩; have HB43 : Hid (Below w3.heap.size w3 w4) := b4; have HB4 : Hid (Below W0.heap.size W0 w4) := HB3.out.trans (b4.mono HB3.out.size); obtain ⟨h0, h1, h2, h3, h4⟩ := HCR.out w4 HB4.out; obtain ⟨a0, a1, a2, a3, a4⟩ := HCA.out w4 HB4.out; clear b4)
    | fail)
  clear c0 c1 c2 c3 c4 d0 d1 d2 d3 d4 h0 h1 h2 h3 h4 a0 a1 a2 a3 a4
  obtain ⟨gx, hgx⟩ : ∃ g, w4.heap.size = g := ⟨_, rfl⟩
  generalize hw5 : w4.alloc _ = w5
  have hX : w5.heap[gx]? = some (.cells #[.int .i64 st, .slice (some ⟨gh, 0, none⟩) L.length N, .slice (some ⟨gb, 0, none⟩) body.length M, .bool last] 36 (0, 0)) := by rw [← hw5, ← hgx]; exact heap_alloc_new w4 _
  have b45 : Below w4.heap.size w4 w5 := by rw [← hw5]; exact (Below.refl _ w4).alloc (Nat.le_refl _) _
  have hltx : gx < w5.heap.size := by rw [← hw5, ← hgx]; simp
  have HGX : Hid (w4.heap.size = gx ∧ w5.heap.size = gx + 1) := ⟨hgx, by rw [← hw5, ← hgx]; simp⟩
  rw [hgx]
  clear hw5 hgx
  have HB5 : Hid (Below W0.heap.size W0 w5) := HB4.out.trans (b45.mono HB4.out.size)
  have HCX : Hid (∀ W, Below w5.heap.size w5 W → W.cell? ⟨gx, 0, none⟩ = some (.int .i64 st) ∧ W.cell? ⟨gx, 1, none⟩ = some (.slice (some ⟨gh, 0, none⟩) L.length N) ∧ W.cell? ⟨gx, 2, none⟩ = some (.slice (some ⟨gb, 0, none⟩) body.length M) ∧ W.cell? ⟨gx, 3, none⟩ = some (.bool last)) := fun W hW => ⟨(hW.cell (p := ⟨gx, 0, none⟩) hltx).trans (cell_of_row _ _ 0 _ _ _ hX), (hW.cell (p := ⟨gx, 1, none⟩) hltx).trans (cell_of_row _ _ 1 _ _ _ hX), (hW.cell (p := ⟨gx, 2, none⟩) hltx).trans (cell_of_row _ _ 2 _ _ _ hX), (hW.cell (p := ⟨gx, 3, none⟩) hltx).trans (cell_of_row _ _ 3 _ _ _ hX)⟩
  have HXR : Hid (w5.heap[gx]? = some (.cells #[.int .i64 st, .slice (some ⟨gh, 0, none⟩) L.length N, .slice (some ⟨gb, 0, none⟩) body.length M, .bool last] 36 (0, 0))) := hX
  have HO5 : Hid (Dg.Ob w5 W0.heap.size (.slice ad1 N1 cp1) T1 ∧ ∀ k, (Value.slice ad1 N1 cp1).ownBlock = some k → k < gx) := ⟨Dg.Ob.below (Dg.Ob.below HO1.out HB43.out (Nat.le_refl _)) b45 (Nat.le_refl _), fun k e => by have h1 := (Dg.Ob.lt HO1.out k e).2; have h2 := HB43.out.size; have h3 := HGX.out.1; omega⟩
  have HGS : Hid (W0.heap.size ≤ gx) := (by have h1 := HB4.out.size; have h2 := HGX.out.1; show _ ≤ _; omega)
  clear HO1 HB43 HB4 b45 hX hltx HB3
  have HON : ∀ W, Below w5.heap.size w5 W → Below W0.heap.size W0 W := fun W hW => HB5.out.trans (hW.mono HB5.out.size)
  have HW5 : Hid (∀ W, Below w5.heap.size w5 W → Below W0.heap.size W0 W) := HON
  clear HON
  obtain ⟨x0, x1, x2, x3⟩ := HCX.out w5 (Below.refl _ _)
  have kq1 := KQ.out w5 HB5.out
  go_upto_region 11 with (first
    | (go_at_call 8; refine kq1.mono ?_; clear kq1; rintro e w6 ⟨⟨ad2, N2, cp2, rfl, o2⟩, b6⟩; obtain ⟨y0, y1, y2, y3⟩ := HCX.out w6 b6; have ks1 := KS.out w6 (HW5.out w6 b6); have HO2 : Hid (Dg.Ob w6 w5.heap.size (.slice ad2 N2 cp2) T2) := o2; have HB6 : Hid (Below w5.heap.size w5 w6) := b6; clear o2 b6)
    | (go_at_call 9; refine ks1.mono ?_; clear ks1; rintro e w7 ⟨rfl, b7⟩; have HB76 : Hid (Below w6.heap.size w6 w7) := b7; have HB7 : Hid (Below w5.heap.size w5 w7) := HB6.out.trans (b7.mono HB6.out.size); obtain ⟨h0, h1, h2, h3, h4⟩ := HCR.out w7 (HW5.out w7 HB7.out); obtain ⟨a0, a1, a2, a3, a4⟩ := HCA.out w7 (HW5.out w7 HB7.out); have kk1 := KK.out w7 (HW5.out w7 HB7.out); clear b7)
    | (go_at_call 10; refine kk1.mono ?_; clear kk1; rintro e w8 ⟨rfl, b8⟩; have HB86 : Hid (Below w6.heap.size w6 w8) := HB76.out.trans (b8.mono HB76.out.size); have HB8 : Hid (Below w5.heap.size w5 w8) := HB7.out.trans (b8.mono HB7.out.size); obtain ⟨i0, i1, i2, i3, i4⟩ := HCR.out w8 (HW5.out w8 HB8.out); have kp3 := KP.out w8 (HW5.out w8 HB8.out); clear b8)
    | (go_at_call 6; refine kp3.mono ?_; clear kp3; rintro e w9 ⟨⟨ad3, N3, cp3, rfl, o3⟩, b9⟩; have HB98 : Hid (Below w8.heap.size w8 w9) := b9; have HB9 : Hid (Below w5.heap.size w5 w9) := HB8.out.trans (b9.mono HB8.out.size); obtain ⟨z0, z1, z2, z3⟩ := HCX.out w9 HB9.out; have kq4 := KQ.out w9 (HW5.out w9 HB9.out); have HO3 : Hid (Dg.Ob w9 w8.heap.size (.slice ad3 N3 cp3) T1) := o3; clear o3 b9)
    | (go_at_call 8; refine kq4.mono ?_; clear kq4; rintro e w10 ⟨⟨ad4, N4, cp4, rfl, o4⟩, b10⟩; have HB109 : Hid (Below w9.heap.size w9 w10) := b10; have HO4 : Hid (Dg.Ob w10 w9.heap.size (.slice ad4 N4 cp4) T2) := o4; clear o4 b10)
    | fail)
  clear x0 x1 x2 x3 y0 y1 y2 y3 z0 z1 z2 z3 h0 h1 h2 h3 h4 a0 a1 a2 a3 a4 i0 i1 i2 i3 i4
  have HB10 : Hid (Below w5.heap.size w5 w10) := HB9.out.trans (HB109.out.mono HB9.out.size)
  have HB108 : Hid (Below w8.heap.size w8 w10) := HB98.out.trans (HB109.out.mono HB98.out.size)
  have HB106 : Hid (Below w6.heap.size w6 w10) := HB86.out.trans (HB108.out.mono HB86.out.size)
  have HS5 : Hid (W0.heap.size ≤ gx ∧ gx < w5.heap.size ∧ w5.heap.size ≤ w6.heap.size ∧ w6.heap.size ≤ w8.heap.size ∧ w8.heap.size ≤ w9.heap.size ∧ w9.heap.size ≤ w10.heap.size) := ⟨HGS.out, by have := HGX.out.2; omega, HB6.out.size, HB86.out.size, HB98.out.size, HB109.out.size⟩
  have HR1 : Hid (Dg.Ob w10 W0.heap.size (.slice ad1 N1 cp1) T1 ∧ ∀ k, (Value.slice ad1 N1 cp1).ownBlock = some k → k < gx) := ⟨Dg.Ob.below HO5.out.1 HB10.out (Nat.le_refl _), HO5.out.2⟩
  have HR2 : Hid (Dg.Ob w10 W0.heap.size (.slice ad2 N2 cp2) T2 ∧ ∀ k, (Value.slice ad2 N2 cp2).ownBlock = some k → gx < k ∧ k < w6.heap.size) := ⟨Dg.Ob.mono (Dg.Ob.below HO2.out HB106.out (Nat.le_refl _)) HB5.out.size, fun k e => ⟨by have h1 := (Dg.Ob.lt HO2.out k e).1; have h2 := HS5.out; omega, (Dg.Ob.lt HO2.out k e).2⟩⟩
  have HR3 : Hid (Dg.Ob w10 W0.heap.size (.slice ad3 N3 cp3) T1 ∧ ∀ k, (Value.slice ad3 N3 cp3).ownBlock = some k → w6.heap.size ≤ k ∧ k < w9.heap.size) := ⟨Dg.Ob.mono (Dg.Ob.below HO3.out HB109.out (Nat.le_refl _)) (by have := HS5.out; omega), fun k e => ⟨by have h1 := (Dg.Ob.lt HO3.out k e).1; have h2 := HS5.out; omega, (Dg.Ob.lt HO3.out k e).2⟩⟩
  have HR4 : Hid (Dg.Ob w10 W0.heap.size (.slice ad4 N4 cp4) T2 ∧ ∀ k, (Value.slice ad4 N4 cp4).ownBlock = some k → w9.heap.size ≤ k ∧ k < w10.heap.size) := ⟨Dg.Ob.mono HO4.out (by have := HS5.out; omega), fun k e => Dg.Ob.lt HO4.out k e⟩
  have v1 := Tryz.conv_bs (Dg.Ob.bs HR1.out.1)
  have v2 := Tryz.conv_bs (Dg.Ob.bs HR2.out.1)
  have v3 := Tryz.conv_bs (Dg.Ob.bs HR3.out.1)
  have v4 := Tryz.conv_bs (Dg.Ob.bs HR4.out.1)
  clear HO5 HO2 HO3 HO4 HB6 HB76 HB7 HB86 HB8 HB98 HB9 HB109 HB108 HB106
  go_upto_region 14 with (fail)
  clear v1 v2 v3 v4
  obtain ⟨gl, hgl⟩ : ∃ g, w10.heap.size = g := ⟨_, rfl⟩
  generalize hw11 : w10.alloc _ = w11
  have b11 : Below w10.heap.size w10 w11 := by rw [← hw11]; exact (Below.refl _ w10).alloc (Nat.le_refl _) _
  have hLr : w11.heap[gl]? = some (.cells #[.slice ad1 N1 cp1, .slice ad2 N2 cp2, .slice ad3 N3 cp3, .slice ad4 N4 cp4] 26 (0, 0)) := by rw [← hw11, ← hgl]; exact heap_alloc_new w10 _
  have HGL : Hid (w10.heap.size = gl) := hgl
  rw [hgl]
  clear hw11 hgl
  have hb11 : Below w5.heap.size w5 w11 := HB10.out.trans (b11.mono HB10.out.size)
  have hxr : w11.heap[gx]? = some (.cells #[.int .i64 st, .slice (some ⟨gh, 0, none⟩) L.length N, .slice (some ⟨gb, 0, none⟩) body.length M, .bool last] 36 (0, 0)) := (hb11.block gx HS5.out.2.1).trans HXR.out
  have hls : Ls W0 (.slice (some ⟨gx, 0, none⟩) 4 4) (.slice (some ⟨gl, 0, none⟩) 4 4) [.int .i64 st, .slice (some ⟨gh, 0, none⟩) L.length N, .slice (some ⟨gb, 0, none⟩) body.length M, .bool last] [.slice ad1 N1 cp1, .slice ad2 N2 cp2, .slice ad3 N3 cp3, .slice ad4 N4 cp4] (fun j => if j % 2 = 0 then T1 else T2) w11 :=
    Dg.Ls.four (s1 := w6.heap.size) (s2 := w9.heap.size) (HW5.out w11 hb11) (Dg.Ov.box (cs := [.int .i64 st, .slice (some ⟨gh, 0, none⟩) L.length N, .slice (some ⟨gb, 0, none⟩) body.length M, .bool last]) HGS.out hxr) (Dg.Ov.box (cs := [.slice ad1 N1 cp1, .slice ad2 N2 cp2, .slice ad3 N3 cp3, .slice ad4 N4 cp4]) (by have h1 := HS5.out; have h2 := HGL.out; omega) hLr)
      ⟨Dg.Ob.below HR1.out.1 b11 (Nat.le_refl _), HR1.out.2⟩ ⟨Dg.Ob.below HR2.out.1 b11 (Nat.le_refl _), HR2.out.2⟩ ⟨Dg.Ob.below HR3.out.1 b11 (Nat.le_refl _), HR3.out.2⟩ ⟨Dg.Ob.below HR4.out.1 b11 (Nat.le_refl _), fun k e => by have h1 := HR4.out.2 k e; have h2 := HGL.out; omega⟩
      (by have h1 := HS5.out; have h2 := HGL.out; omega) (Nat.le_trans HT1.out (by decide)) (Nat.le_trans HT2.out (by decide))
  have hln : ∀ j, j < 4 → ((fun j => if j % 2 = 0 then T1 else T2) j : List UInt8).length ≤ 4000000 := fun j _ => (by
    show (if j % 2 = 0 then T1 else T2).length ≤ _
    split
    · exact HT1.out
    · exact HT2.out)
  obtain ⟨ts, hts⟩ : ∃ ts : List Value, ts = [.int .i64 st, .slice (some ⟨gh, 0, none⟩) L.length N, .slice (some ⟨gb, 0, none⟩) body.length M, .bool last] := ⟨_, rfl⟩
  obtain ⟨vs, hvs⟩ : ∃ vs : List Value, vs = [.slice ad1 N1 cp1, .slice ad2 N2 cp2, .slice ad3 N3 cp3, .slice ad4 N4 cp4] := ⟨_, rfl⟩
  obtain ⟨bs, hbs⟩ : ∃ bs : Nat → List UInt8, bs = fun j => if j % 2 = 0 then T1 else T2 := ⟨_, rfl⟩
  rw [← hts, ← hvs, ← hbs] at hls
  rw [← hbs] at hln
  have HTS : Hid (ts = [.int .i64 st, .slice (some ⟨gh, 0, none⟩) L.length N, .slice (some ⟨gb, 0, none⟩) body.length M, .bool last]) := hts
  have Hn : Hid (vs.length = 4) := (by show vs.length = 4; rw [hvs]; rfl)
  have HLs : Hid (Ls W0 (.slice (some ⟨gx, 0, none⟩) 4 4) (.slice (some ⟨gl, 0, none⟩) 4 4) ts vs bs w11) := hls
  have Hln : Hid (∀ j, j < 4 → (bs j).length ≤ 4000000) := hln
  clear hls hln hts hvs hbs hxr hLr b11 hb11 HR1 HR2 HR3 HR4 HB10 HS5 HXR HCX HGX HGL HT1 HT2 HB5 HW5 HGS
  go_wp2
  go_loopw [24] (fun iv wr => ∃ (i : Nat) (bs : Nat → List UInt8), iv = .int .i64 (i : Int) ∧ i ≤ 4 ∧ Hid (Ls W0 (.slice (some ⟨gx, 0, none⟩) 4 4) (.slice (some ⟨gl, 0, none⟩) 4 4) ts vs bs wr) ∧ Hid (∀ j, j < 4 → (bs j).length ≤ 4000000) ∧ Hid (∀ j, j < i → ∀ x ∈ bs j, x = Dg.mk j)) (fun iv _ => 4 - (intOf iv).toNat)
  case atStart => exact ⟨0, bs, rfl, by omega, HLs, Hln, fun j hj => by omega⟩
  case round =>
    clear HLs Hln
    obtain ⟨i, bs, rfl, hi, HLs, Hln, Hm⟩ := hrel
    by_cases hlt : i < 4
    · have q1 : (i : Int) < 4 := by omega
      have q2 : (0 : Int) ≤ (i : Int) := by omega
      obtain ⟨v, hv⟩ : ∃ v, vs[i]? = some v := ⟨_, List.getElem?_eq_getElem (by rw [Hn.out]; exact hlt)⟩
      obtain ⟨ad4, C4, rfl⟩ := (HLs.out.o i v hv).is
      obtain ⟨NN, hN⟩ : ∃ NN, NN = (bs i).length := ⟨_, rfl⟩
      rw [← hN] at hv
      have HNN : Hid (NN = (bs i).length) := hN
      have hN2 : (NN : Int) ≤ 4000000 := by have := Hln.out i hlt; omega
      have Hv : Hid _ := hv
      clear hN hv
      go_wp2
      go_loopw [25] (fun kv wr => ∃ (k : Nat) (bs : Nat → List UInt8), kv = .int .i64 (k : Int) ∧ k ≤ NN ∧ Hid (Ls W0 (.slice (some ⟨gx, 0, none⟩) 4 4) (.slice (some ⟨gl, 0, none⟩) 4 4) ts vs bs wr) ∧ Hid (∀ j, j < 4 → (bs j).length ≤ 4000000) ∧ Hid (∀ j, j < i → ∀ x ∈ bs j, x = Dg.mk j) ∧ Hid ((bs i).length = NN) ∧ Hid (∀ c x, c < k → (bs i)[c]? = some x → x = Dg.mk i)) (fun kv _ => NN - (intOf kv).toNat)
      case atStart => exact ⟨0, bs, rfl, by omega, HLs, Hln, Hm, HNN.out.symm, fun c x hc => by omega⟩
      case round =>
        clear HLs Hln Hm HNN
        obtain ⟨k, bs, rfl, hk, HLs, Hln, Hm, HNN, Hk⟩ := hrel
        have c2 := Dg.Ov.cell HLs.out.l Hv.out
        by_cases hkl : k < NN
        · have r1 : (k : Int) < (NN : Int) := by omega
          have r2 : (0 : Int) ≤ (k : Int) := by omega
          have hob := HLs.out.o i _ Hv.out
          obtain ⟨g, rfl⟩ : ∃ g, ad4 = some ⟨g, 0, none⟩ := by
            rcases hob with ⟨_, e0⟩ | ⟨g, cap, e, _⟩
            · have h1 := HNN.out
              rw [e0] at h1
              simp at h1
              omega
            · injection e with e; exact ⟨g, e⟩
          obtain ⟨f1, f2⟩ := Ob.cell hob (i := k) (by rw [HNN.out]; exact hkl)
          obtain ⟨MM, hM⟩ : ∃ MM : Nat, MM = i + 1 := ⟨_, rfl⟩
          have e1 : IntKind.u8.wrap ((i : Int) + 1) = (MM : Int) := by rw [IntKind.wrap_u8]; omega
          have HMM : Hid (MM = i + 1) := hM
          clear hM hob
          go_wp2
          go_roundw
          case rel =>
            refine ⟨k + 1, _, by go_num, by omega, HLs.out.set (c := Dg.mk i) (by rw [Hn.out]; omega) Hv.out (by rw [Dg.mk_nat, HMM.out, Nat.mod_eq_of_lt hlt]) (by rw [HNN.out]; exact hkl), fun j hj => ?_, fun j hj => ?_, ?_, fun c x hc => ?_⟩
            · split
              · rw [List.length_set]; exact Hln.out i hlt
              · exact Hln.out j hj
            · rw [if_neg (by omega)]
              exact Hm.out j hj
            · show _ = _
              rw [if_pos rfl, List.length_set, HNN.out]
            · rw [if_pos rfl]
              intro hx
              by_cases e : c = k
              · rw [e, List.getElem?_set_self (by rw [HNN.out]; exact hkl)] at hx
                exact (Option.some.inj hx).symm
              · rw [List.getElem?_set_ne (fun e' => e e'.symm)] at hx
                exact Hk.out c x (by omega) hx
          case measure => simp [intOf]; omega
        · have r1 : ¬ (k : Int) < (NN : Int) := by omega
          go_wp2
          go_roundw
          case rel =>
            refine ⟨i + 1, bs, by go_num, by omega, HLs, Hln, fun j hj x hx => ?_⟩
            by_cases e : j = i
            · subst e
              obtain ⟨c, hc⟩ := List.getElem?_of_mem hx
              exact Hk.out c x (by have h1 := (List.getElem?_eq_some_iff.1 hc).1; have h2 := HNN.out; omega) hc
            · exact Hm.out j (by omega) x hx
          case measure => simp [intOf]; omega
    · have q1 : ¬ (i : Int) < 4 := by omega
      obtain rfl : i = 4 := by omega
      rw [show ((4 : Nat) : Int) = 4 from rfl]
      clear hlt hi
      go_wp2
      go_loopw [23, 26] (fun lv iv wr => ∃ (i LL : Nat) (adl : Option Addr) (c : Nat) (vs : List Value) (bs : Nat → List UInt8), iv = .int .i64 (i : Int) ∧ i ≤ 4 ∧ lv = .slice adl LL c ∧ Hid (LL = 4 + i) ∧ Hid (Ls W0 (.slice (some ⟨gx, 0, none⟩) 4 4) (.slice adl LL c) ts vs bs wr) ∧ Hid (vs.length = LL) ∧ Hid (∀ j, j < 4 → (bs j).length ≤ 4000000) ∧ Hid (∀ j, j < LL → ∀ x ∈ bs j, x = Dg.mk j)) (fun _ iv _ => 4 - (intOf iv).toNat)
      case atStart => exact ⟨0, 4, _, 4, vs, bs, rfl, by omega, rfl, rfl, HLs, Hn, Hln, Hm⟩
      case round =>
        clear HLs Hln Hm Hn
        obtain ⟨i, LL, adl, c, vs, bs, rfl, hi, rfl, HLi, HLs, Hn, Hln, Hm⟩ := hrel
        obtain ⟨gl, cl, el, -⟩ := HLs.out.l.at (by rw [Hn.out, HLi.out]; omega)
        injection el with e1 e2 e3
        subst e1 e3
        clear e2
        by_cases hlt : i < 4
        · have q1 : (i : Int) < 4 := by omega
          have q2 : (0 : Int) ≤ (i : Int) := by omega
          have q3 : (i : Int) < (LL : Int) := by have := HLi.out; omega
          obtain ⟨v, hv⟩ : ∃ v, vs[i]? = some v := ⟨_, List.getElem?_eq_getElem (by rw [Hn.out, HLi.out]; omega)⟩
          obtain ⟨ad4, C4, rfl⟩ := (HLs.out.o i v hv).is
          obtain ⟨NN, hN⟩ : ∃ NN, NN = (bs i).length := ⟨_, rfl⟩
          rw [← hN] at hv
          have HNN : Hid (NN = (bs i).length) := hN
          have hN2 : NN ≤ 4000000 := by have := Hln.out i hlt; omega
          have Hv : Hid _ := hv
          have c2 := Dg.Ov.cell HLs.out.l hv
          clear hN hv
          go_wp2
          go_loopw [27, 28] (fun gv kv wr => ∃ (k TT : Nat) (ad5 : Option Addr) (c5 : Nat) (gl' : List UInt8), kv = .int .i64 (k : Int) ∧ k ≤ 70 ∧ gv = .slice ad5 TT c5 ∧ Hid (Gr W0 (.slice (some ⟨gx, 0, none⟩) 4 4) (.slice (some ⟨gl, 0, none⟩) LL c) ts vs bs i (.slice ad5 TT c5) gl' wr) ∧ Hid (gl'.length = TT) ∧ Hid (TT = NN + k) ∧ Hid (∀ x ∈ gl', x = Dg.mk i)) (fun _ kv _ => 70 - (intOf kv).toNat)
          case atStart => exact ⟨0, NN, ad4, C4, bs i, rfl, by omega, rfl, Gr.start HLs.out Hv.out (fun j hj e => by rw [Hn.out, HLi.out] at hj; omega), HNN.out.symm, rfl, Hm.out i (by have := HLi.out; omega)⟩
          case round =>
            clear HLs c2 HNN
            obtain ⟨k, TT, ad5, c5, gl', rfl, hk, rfl, HG, HTl, HTT, Hx⟩ := hrel
            have Hsz : Hid (W0.heap.size ≤ wr.heap.size) := HG.out.s.b.size
            by_cases hkl : k < 70
            · have r1 : (k : Int) < 70 := by omega
              obtain ⟨MM, hM⟩ : ∃ MM : Nat, MM = i + 1 := ⟨_, rfl⟩
              have e1 : IntKind.u8.wrap ((i : Int) + 1) = (MM : Int) := by rw [IntKind.wrap_u8]; omega
              have HMM : Hid (MM = i + 1) := hM
              clear hM
              go_wp2_with (first | (at_builtin; refine Tryz.appG rfl (.tmp 156) (.tmp 160) rfl (HG.out.g.alloc _) (by have := Hsz.out; simp; omega) rfl (Dg.mk i) (.int .u8 (MM : Int)) (by rw [Dg.mk_nat, HMM.out, Nat.mod_eq_of_lt hlt]) _ rfl (heap_alloc_new _ _) (by have h1 := HTl.out; have h2 := HTT.out; omega) ?_; intro ad6 c6 w6 ho6 hc6; rw [HTl.out] at ho6 hc6 ⊢; have H6 : Hid _ := ho6; have HC6 : Hid _ := hc6; clear ho6 hc6) | fail)
              go_roundw
              case rel =>
                have hb0 : Below wr.heap.size wr (wr.alloc (.cells #[.int .u8 (MM : Int)] 5)) := (Below.refl _ wr).alloc (Nat.le_refl _) _
                refine ⟨k + 1, TT + 1, ad6, c6, gl' ++ [Dg.mk i], by go_num, by omega, rfl, (HG.out.below hb0).app H6.out (by rw [HTl.out]; exact HC6.out), ?_, ?_, fun x hx => ?_⟩
                · show _ = _; rw [List.length_append, HTl.out]; rfl
                · show _ = _; rw [HTT.out]; omega
                · rcases List.mem_append.1 hx with h1 | h1
                  · exact Hx.out x h1
                  · exact List.mem_singleton.1 h1
              case measure => simp [intOf]; omega
            · have r1 : ¬ (k : Int) < 70 := by omega
              obtain rfl : k = 70 := by omega
              go_wp2_with (first | (at_builtin; refine Tryz.appL rfl (.tmp 162) (.tmp 164) rfl (HG.out.s.l.below ((Below.refl _ wr).alloc (Nat.le_refl _) _) (Nat.le_refl _)) (by have := Hsz.out; simp; omega) rfl (.slice ad5 TT c5) _ rfl (heap_alloc_new _ _) rfl (by rw [Hn.out, HLi.out]; omega) ?_; intro ad7 c7 w7 ho7 hc7; rw [Hn.out] at ho7 hc7 ⊢; have H7 : Hid _ := ho7; have HC7 : Hid _ := hc7; clear ho7 hc7) | fail)
              go_roundw
              case rel =>
                have hb0 : Below wr.heap.size wr (wr.alloc (.cells #[.slice ad5 TT c5] 26)) := (Below.refl _ wr).alloc (Nat.le_refl _) _
                refine ⟨i + 1, LL + 1, ad7, c7, _, _, by go_num, by omega, rfl, ?_, (HG.out.below hb0).push (by rw [Hn.out, HLi.out]; omega) (by have h1 := HTl.out; have h2 := HTT.out; omega) H7.out (by rw [Hn.out]; exact HC7.out), ?_, fun j hj => ?_, fun j hj x hx => ?_⟩
                · show _ = _; rw [HLi.out]; omega
                · show _ = _; rw [List.length_append, Hn.out]; rfl
                · rw [if_neg (by rw [Hn.out, HLi.out]; omega)]
                  exact Hln.out j hj
                · rw [Hn.out] at hx
                  by_cases e : j = LL
                  · rw [if_pos e] at hx
                    rw [Hx.out x hx, e, HLi.out]
                    unfold Dg.mk
                    rw [show (4 + i) % 4 = i % 4 by omega]
                  · rw [if_neg e] at hx
                    exact Hm.out j (by omega) x hx
              case measure => simp [intOf]; omega
        · have q1 : ¬ (i : Int) < 4 := by omega
          obtain rfl : i = 4 := by omega
          rw [show ((4 : Nat) : Int) = 4 from rfl]
          have hL48 : LL = 8 := HLi.out
          subst hL48
          clear hlt hi
          go_wp2
          go_loopw [29] (fun iv wr => ∃ (i : Nat), iv = .int .i64 (i : Int) ∧ i ≤ 8 ∧ Hid (Ls W0 (.slice (some ⟨gx, 0, none⟩) 4 4) (.slice (some ⟨gl, 0, none⟩) 8 c) ts vs bs wr)) (fun iv _ => 8 - (intOf iv).toNat)
          case atStart => exact ⟨0, rfl, by omega, HLs⟩
          case round =>
            clear HLs
            obtain ⟨i, rfl, hi, HLs⟩ := hrel
            by_cases hlt : i < 8
            · have q1 : (i : Int) < 8 := by omega
              have q2 : (0 : Int) ≤ (i : Int) := by omega
              obtain ⟨v, hv⟩ : ∃ v, vs[i]? = some v := ⟨_, List.getElem?_eq_getElem (by rw [Hn.out]; exact hlt)⟩
              obtain ⟨ad4, C4, rfl⟩ := (HLs.out.o i v hv).is
              obtain ⟨NN, hN⟩ : ∃ NN, NN = (bs i).length := ⟨_, rfl⟩
              rw [← hN] at hv
              have HNN : Hid (NN = (bs i).length) := hN
              have hN2 : (NN : Int) ≤ 8000000 := by have := HLs.out.z i; omega
              have Hv : Hid _ := hv
              clear hN hv
              go_wp2
              go_loopw [30] (fun kv wr => ∃ (k : Nat), kv = .int .i64 (k : Int) ∧ k ≤ NN ∧ Hid (Ls W0 (.slice (some ⟨gx, 0, none⟩) 4 4) (.slice (some ⟨gl, 0, none⟩) 8 c) ts vs bs wr)) (fun kv _ => NN - (intOf kv).toNat)
              case atStart => exact ⟨0, rfl, by omega, HLs⟩
              case round =>
                clear HLs
                obtain ⟨k, rfl, hk, HLs⟩ := hrel
                have c2 := Dg.Ov.cell HLs.out.l Hv.out
                by_cases hkl : k < NN
                · have r1 : (k : Int) < (NN : Int) := by omega
                  have r2 : (0 : Int) ≤ (k : Int) := by omega
                  have hob := HLs.out.o i _ Hv.out
                  obtain ⟨g, rfl⟩ : ∃ g, ad4 = some ⟨g, 0, none⟩ := by
                    rcases hob with ⟨_, e0⟩ | ⟨g, cap, e, _⟩
                    · have h1 := HNN.out
                      rw [e0] at h1
                      simp at h1
                      omega
                    · injection e with e; exact ⟨g, e⟩
                  obtain ⟨MM, hM⟩ : ∃ MM : Nat, MM = i % 4 + 1 := ⟨_, rfl⟩
                  obtain ⟨RR, hR⟩ : ∃ RR : Nat, RR = i % 4 := ⟨_, rfl⟩
                  have hkl' : k < (bs i).length := by rw [← HNN.out]; exact hkl
                  have hby : ((bs i)[k]'hkl').toNat = MM := by rw [Hm.out i hlt _ (List.getElem_mem hkl'), Dg.mk_nat, hM]
                  obtain ⟨f1, -⟩ := Ob.cell hob (i := k) hkl'
                  rw [hby] at f1
                  have e1 : IntKind.u8.wrap ((RR : Int) + 1) = (MM : Int) := by rw [IntKind.wrap_u8]; omega
                  have e3 : IntKind.i64.wrap ((RR : Int) + 1) = (RR : Int) + 1 := by rw [IntKind.wrap_i64]; omega
                  have e2 : (i : Int).tmod 4 = (RR : Int) := by rw [Int.tmod_eq_emod_of_nonneg (by omega)]; omega
                  have hR2 : (RR : Int) < 4 := by omega
                  have hR3 : (0 : Int) ≤ (RR : Int) := by omega
                  have e4 : (i : Int) % 4 = (RR : Int) := by omega
                  clear hM hR hby hob
                  go_wp2
                  go_roundw
                  case rel => exact ⟨k + 1, by go_num, by omega, HLs⟩
                  case measure => simp [intOf]; omega
                · have r1 : ¬ (k : Int) < (NN : Int) := by omega
                  go_wp2
                  go_roundw
                  case rel => exact ⟨i + 1, by go_num, by omega, HLs⟩
                  case measure => simp [intOf]; omega
            · have q1 : ¬ (i : Int) < 8 := by omega
              clear hlt hi Hm Hln Hn
              generalize wr = wL at *
              have hbL := HLs.out.b
              have hgxL := HLs.out.t.lt gx rfl
              have hxL : wL.cell? ⟨gx, 0, none⟩ = some (.int .i64 st) ∧ wL.cell? ⟨gx, 1, none⟩ = some (.slice (some ⟨gh, 0, none⟩) L.length N) ∧ wL.cell? ⟨gx, 2, none⟩ = some (.slice (some ⟨gb, 0, none⟩) body.length M) ∧ wL.cell? ⟨gx, 3, none⟩ = some (.bool last) := ⟨Dg.Ov.cell HLs.out.t (by rw [HTS.out]; rfl), Dg.Ov.cell HLs.out.t (by rw [HTS.out]; rfl), Dg.Ov.cell HLs.out.t (by rw [HTS.out]; rfl), Dg.Ov.cell HLs.out.t (by rw [HTS.out]; rfl)⟩
              obtain ⟨c0, c1, c2, c3, c4⟩ := HCR.out wL hbL
              have kp5 := KP.out wL hbL
              have HBL : Hid (Below W0.heap.size W0 wL) := hbL
              have HXL : Hid _ := hxL
              have HGXL : Hid (W0.heap.size ≤ gx ∧ gx < wL.heap.size) := hgxL
              clear hbL hxL hgxL HLs HTS KR KQ KS KK
              go_upto_region 39 with (first
                | (go_at_call 6; refine kp5.mono ?_; clear kp5; rintro e w12 ⟨⟨ad5, N5, cp5, rfl, o5⟩, b12⟩; have HO5 : Hid (Dg.Ob w12 wL.heap.size (.slice ad5 N5 cp5) T1) := o5; have HB12L : Hid (Below wL.heap.size wL w12) := b12; clear o5 b12)
                | fail)
              have hb12 : Below W0.heap.size W0 w12 := HBL.out.trans (HB12L.out.mono HBL.out.size)
              have HB12 : Hid (Below W0.heap.size W0 w12) := hb12
              have HX12 : Hid (w12.cell? ⟨gx, 0, none⟩ = some (.int .i64 st) ∧ w12.cell? ⟨gx, 1, none⟩ = some (.slice (some ⟨gh, 0, none⟩) L.length N) ∧ w12.cell? ⟨gx, 2, none⟩ = some (.slice (some ⟨gb, 0, none⟩) body.length M) ∧ w12.cell? ⟨gx, 3, none⟩ = some (.bool last)) := (by
                have e := HB12L.out.block gx HGXL.out.2
                have x := HXL.out
                exact ⟨(World.cell?_of_block (a := ⟨gx, 0, none⟩) e).trans x.1, (World.cell?_of_block (a := ⟨gx, 1, none⟩) e).trans x.2.1, (World.cell?_of_block (a := ⟨gx, 2, none⟩) e).trans x.2.2.1, (World.cell?_of_block (a := ⟨gx, 3, none⟩) e).trans x.2.2.2⟩)
              have HR12 : Hid (w12.cell? ⟨gR, 0, none⟩ = some (.string ⟨meth.toArray⟩) ∧ w12.cell? ⟨gR, 1, none⟩ = some (.string ⟨tg.toArray⟩) ∧ w12.cell? ⟨gR, 2, none⟩ = some (.slice (some ⟨gh, 0, none⟩) L.length N) ∧ w12.cell? ⟨gR, 3, none⟩ = some (.slice (some ⟨gb, 0, none⟩) body.length M) ∧ w12.cell? ⟨gR, 4, none⟩ = some (.bool last)) := HCR.out w12 hb12
              have HP0 : Hid (Rb w12 gb (oo body 0)) := (by have := HRb.out w12 hb12; rw [← oo_zero] at this; exact this)
              clear c0 c1 c2 c3 c4 hb12
              go_wp2
              go_loopw [33] (fun iv wr => ∃ i : Nat, iv = .int .i64 i ∧ i ≤ body.length ∧ Rb wr gb (oo body i) ∧ Wo (fun k => k = gb) w12 wr) (fun iv _ => body.length - (intOf iv).toNat)
              case atStart => exact ⟨0, rfl, Nat.zero_le _, HP0.out, Wo.refl _ _⟩
              case round =>
                clear HP0
                obtain ⟨i, rfl, hi, hP, hWo⟩ := hrel
                have hgR : gR < w12.heap.size := Nat.lt_of_lt_of_le HGB.out.2.1 HB12.out.size
                have c3 : wr.cell? ⟨gR, 3, none⟩ = some (.slice (some ⟨gb, 0, none⟩) body.length M) := (World.cell?_of_block (a := ⟨gR, 3, none⟩) (hWo.block gR hgR (fun e => HGB.out.2.2.2.2.1 e.symm))).trans HR12.out.2.2.2.1
                have HWo : Hid (Wo (fun k => k = gb) w12 wr) := hWo
                by_cases hlt : i < body.length
                · have q : (i : Int) < (body.length : Int) := by omega
                  have q0 : (0 : Int) ≤ (i : Int) := by omega
                  have hil : i < (oo body i).length := by rw [oo_len body (by omega)]; omega
                  obtain ⟨v0, f0⟩ : ∃ v, wr.cell? ⟨gb, i, none⟩ = some v := ⟨_, hP.at hil⟩
                  have f1 := hP.fz i hil
                  have HS : Hid (Rb (wr.setCell ⟨gb, i, none⟩ (.int .u8 111)) gb (oo body (i + 1))) := (by
                    have := hP.set hil 111
                    rw [oo_next body hlt] at this
                    exact this)
                  clear hP hWo hil
                  go_wp2
                  go_roundw
                  case rel => exact ⟨i + 1, by simp, by omega, HS.out, HWo.out.setCell gb i _ (.inl rfl)⟩
                  case measure => simp [intOf]; omega
                · have q : ¬ (i : Int) < (body.length : Int) := by omega
                  have HP : Hid (Rb wr gb (oo body body.length)) := (by have e : i = body.length := by omega
                                                                        rw [e] at hP; exact hP)
                  clear hP hWo
                  generalize wr = wE at *
                  obtain ⟨b2, hb2⟩ : ∃ b : List UInt8, List.replicate body.length 111 = b := ⟨_, rfl⟩
                  have HB2 : Hid (b2.length = body.length) := (by rw [← hb2]; exact List.length_replicate)
                  have HkE : Hid (∀ g, g < w12.heap.size → g ≠ gb → wE.heap[g]? = w12.heap[g]?) := fun g hg hn => HWo.out.block g hg hn
                  have hszE := HWo.out.size
                  have HwE : Hid (Below w.heap.size w wE) := Wo.toBelow (HWw.out w12 HB12.out) HWo.out (fun k e => by rw [e]; have := HGB.out; omega) (HWw.out w12 HB12.out).size
                  have HSE : Hid (w12.heap.size ≤ wE.heap.size ∧ W0.heap.size ≤ w12.heap.size) := ⟨hszE, HB12.out.size⟩
                  have HRE : Hid (∀ W, Below wE.heap.size wE W → W.cell? ⟨gR, 0, none⟩ = some (.string ⟨meth.toArray⟩) ∧ W.cell? ⟨gR, 1, none⟩ = some (.string ⟨tg.toArray⟩) ∧ W.cell? ⟨gR, 2, none⟩ = some (.slice (some ⟨gh, 0, none⟩) L.length N) ∧ W.cell? ⟨gR, 3, none⟩ = some (.slice (some ⟨gb, 0, none⟩) body.length M) ∧ W.cell? ⟨gR, 4, none⟩ = some (.bool last)) := fun W hW => (by
                    have hg : gR < w12.heap.size := by have h1 := HGB.out; have h2 := HSE.out; omega
                    have e := (hW.block gR (by have := HSE.out; omega)).trans (HkE.out gR hg (fun e => HGB.out.2.2.2.2.1 e.symm))
                    have x := HR12.out
                    exact ⟨(World.cell?_of_block (a := ⟨gR, 0, none⟩) e).trans x.1, (World.cell?_of_block (a := ⟨gR, 1, none⟩) e).trans x.2.1, (World.cell?_of_block (a := ⟨gR, 2, none⟩) e).trans x.2.2.1, (World.cell?_of_block (a := ⟨gR, 3, none⟩) e).trans x.2.2.2.1, (World.cell?_of_block (a := ⟨gR, 4, none⟩) e).trans x.2.2.2.2⟩)
                  have HXE : Hid (∀ W, Below wE.heap.size wE W → W.cell? ⟨gx, 0, none⟩ = some (.int .i64 st) ∧ W.cell? ⟨gx, 1, none⟩ = some (.slice (some ⟨gh, 0, none⟩) L.length N) ∧ W.cell? ⟨gx, 2, none⟩ = some (.slice (some ⟨gb, 0, none⟩) body.length M) ∧ W.cell? ⟨gx, 3, none⟩ = some (.bool last)) := fun W hW => (by
                    have hg : gx < w12.heap.size := by have h1 := HGXL.out; have h2 := HB12L.out.size; omega
                    have e := (hW.block gx (by have := HSE.out; omega)).trans (HkE.out gx hg (by have h1 := HGXL.out; have h2 := HGB.out; omega))
                    have x := HX12.out
                    exact ⟨(World.cell?_of_block (a := ⟨gx, 0, none⟩) e).trans x.1, (World.cell?_of_block (a := ⟨gx, 1, none⟩) e).trans x.2.1, (World.cell?_of_block (a := ⟨gx, 2, none⟩) e).trans x.2.2.1, (World.cell?_of_block (a := ⟨gx, 3, none⟩) e).trans x.2.2.2⟩)
                  have HHE : Hid (∀ W, Below wE.heap.size wE W → Hs W (.slice (some ⟨gh, 0, none⟩) L.length N) L) := fun W hW => (by
                    have h1 : Hs wE (.slice (some ⟨gh, 0, none⟩) L.length N) L := (HHs.out w12 HB12.out).keep (fun k e => by
                      cases e
                      exact HkE.out gh (Nat.lt_of_lt_of_le HGH.out HSE.out.2) (fun e => HGB.out.2.2.2.1 e.symm))
                    exact h1.below hW)
                  have HBE : Hid (∀ W, Below wE.heap.size wE W → Bs W (.slice (some ⟨gb, 0, none⟩) body.length M) b2) := fun W hW => (by
                    have h1 : Bs wE (.slice (some ⟨gb, 0, none⟩) body.length M) b2 := (by
                      have hp := HP.out
                      refine ⟨_, _, by rw [HB2.out], by rw [HB2.out, ← HM.out]; omega, (fun e => by cases e), .inr ⟨gb, 0, rfl, hp.lt, fun j u hu => ?_⟩⟩
                      rw [Nat.zero_add]
                      refine hp.cell j u ?_
                      rw [oo_full, hb2, byteCells_app, List.getElem?_append_left (by have := (List.getElem?_eq_some_iff.1 hu).1; exact this)]
                      exact hu)
                    exact h1.below hW (fun k e => by cases e; exact HP.out.lt))
                  have hgbE : gb < wE.heap.size := HP.out.lt
                  have HOE : Hid (∀ W, Below wE.heap.size wE W → Dg.Ob W 0 (.slice ad5 N5 cp5) T1) := fun W hW => (by
                    have h1 : Dg.Ob wE wL.heap.size (.slice ad5 N5 cp5) T1 := Dg.Ob.keep HO5.out (fun k e => by
                      have h2 := Dg.Ob.lt HO5.out k e
                      exact HkE.out k h2.2 (by have h3 := HGB.out; have h4 := HBL.out.size; omega))
                    exact Dg.Ob.mono (Dg.Ob.below h1 hW (Nat.le_refl _)) (Nat.zero_le _))
                  obtain ⟨⟨T3, n3⟩, hq3⟩ : ∃ p, rqAns Lib.itoa meth tg L b2 last = p := ⟨_, rfl⟩
                  obtain ⟨⟨T4, n4⟩, hq4⟩ : ∃ p, prAns Lib.itoa st L b2 last = p := ⟨_, rfl⟩
                  have hITE : ∀ W, Below wE.heap.size wE W → ∀ (n : Int) W', 0 ≤ n → n ≤ 9223372036854775807 → Below W.heap.size W W' → Calls Tryz.prog 32 #[.int .i64 n] W' fun e w' => e = .returned (.string ⟨(Lib.itoa n).toArray⟩) ∧ Below W'.heap.size W' w' := fun W hW n W' h0 h1 hW' => Tryz.itoa_any HT.out n W' h0 h1 ((HwE.out.trans (hW.mono HwE.out.size)).trans (hW'.mono (Nat.le_trans HwE.out.size hW.size)))
                  have hb2l : b2.length ≤ 1048576 := by rw [HB2.out]; exact hb
                  have KPE : Hid (∀ W, Below wE.heap.size wE W → Calls Tryz.prog 6 #[.agg #[.string ⟨meth.toArray⟩, .string ⟨tg.toArray⟩, .slice (some ⟨gh, 0, none⟩) L.length N, .slice (some ⟨gb, 0, none⟩) body.length M, .bool last]] W fun e w' => (∃ ad NN cap, e = .returned (.tuple #[.slice ad NN cap, .int .i64 n3]) ∧ Dg.Ob w' W.heap.size (.slice ad NN cap) T3) ∧ Below W.heap.size W w') := fun W hW => (by
                    have := Tryz.pReq_any meth tg last (HHE.out W hW) (HBE.out W hW) (fun k e => by cases e; exact Nat.lt_of_lt_of_le hgbE hW.size) (by omega) (by omega) HLX.out (by omega) (by omega) (hITE W hW)
                    rw [hq3] at this
                    exact this)
                  have KRE : Hid (∀ W, Below wE.heap.size wE W → Calls Tryz.prog 7 #[.agg #[.string ⟨meth.toArray⟩, .string ⟨tg.toArray⟩, .slice (some ⟨gh, 0, none⟩) L.length N, .slice (some ⟨gb, 0, none⟩) body.length M, .bool last]] W fun e w' => e = .returned (.tuple #[.string ⟨T3.toArray⟩, .int .i64 n3]) ∧ Below W.heap.size W w') := fun W hW => (by
                    have := Tryz.rReq_any meth tg last (HHE.out W hW) (HBE.out W hW) (fun k e => by cases e; exact Nat.lt_of_lt_of_le hgbE hW.size) (by omega) (by omega) HLX.out (by omega) (by omega) (HTX.out b2 hb2l).1
                    rw [hq3] at this
                    exact this)
                  have KQE : Hid (∀ W, Below wE.heap.size wE W → Calls Tryz.prog 8 #[.agg #[.int .i64 st, .slice (some ⟨gh, 0, none⟩) L.length N, .slice (some ⟨gb, 0, none⟩) body.length M, .bool last]] W fun e w' => (∃ ad NN cap, e = .returned (.tuple #[.slice ad NN cap, .int .i64 n4]) ∧ Dg.Ob w' W.heap.size (.slice ad NN cap) T4) ∧ Below W.heap.size W w') := fun W hW => (by
                    have := Tryz.pRes_any st last (HHE.out W hW) (HBE.out W hW) (fun k e => by cases e; exact Nat.lt_of_lt_of_le hgbE hW.size) HLX.out (by omega) (by omega) (hITE W hW)
                    rw [hq4] at this
                    exact this)
                  have KSE : Hid (∀ W, Below wE.heap.size wE W → Calls Tryz.prog 9 #[.agg #[.int .i64 st, .slice (some ⟨gh, 0, none⟩) L.length N, .slice (some ⟨gb, 0, none⟩) body.length M, .bool last]] W fun e w' => e = .returned (.tuple #[.string ⟨T4.toArray⟩, .int .i64 n4]) ∧ Below W.heap.size W w') := fun W hW => (by
                    have := Tryz.rRes_any st last (HHE.out W hW) (HBE.out W hW) (fun k e => by cases e; exact Nat.lt_of_lt_of_le hgbE hW.size) HLX.out (by omega) (by omega) (HTX.out b2 hb2l).2
                    rw [hq4] at this
                    exact this)
                  clear hITE hq3 hq4 hb2 hb2l hszE hgR HkE HWo c3
                  obtain ⟨d0, d1, d2, d3, d4⟩ := HRE.out wE (Below.refl _ _)
                  have kp6 := KPE.out wE (Below.refl _ _)
                  have kn1 := Tryz.reason_any st
                  have kn2 := Tryz.rReason_any st
                  go_upto_region 47 with (first
                    | (go_at_call 6; refine kp6.mono ?_; clear kp6; rintro e w13 ⟨⟨ad6, N6, cp6, rfl, o6⟩, b13⟩; have HB13 : Hid (Below wE.heap.size wE w13) := b13; have HO6 : Hid (Dg.Ob w13 wE.heap.size (.slice ad6 N6 cp6) T3) := o6; obtain ⟨h0, h1, h2, h3, h4⟩ := HRE.out w13 b13; have kr6 := KRE.out w13 b13; clear b13 o6)
                    | (go_at_call 7; refine kr6.mono ?_; clear kr6; rintro e w14 ⟨rfl, b14⟩; have HB1413 : Hid (Below w13.heap.size w13 w14) := b14; have HB14 : Hid (Below wE.heap.size wE w14) := HB13.out.trans (b14.mono HB13.out.size); obtain ⟨x0, x1, x2, x3⟩ := HXE.out w14 HB14.out; have kq6 := KQE.out w14 HB14.out; clear b14)
                    | (go_at_call 8; refine kq6.mono ?_; clear kq6; rintro e w15 ⟨⟨ad7, N7, cp7, rfl, o7⟩, b15⟩; have HB1514 : Hid (Below w14.heap.size w14 w15) := b15; have HB15 : Hid (Below wE.heap.size wE w15) := HB14.out.trans (b15.mono HB14.out.size); have HO7 : Hid (Dg.Ob w15 w14.heap.size (.slice ad7 N7 cp7) T4) := o7; obtain ⟨y0, y1, y2, y3⟩ := HXE.out w15 HB15.out; have ks6 := KSE.out w15 HB15.out; clear b15 o7)
                    | (go_at_call 9; refine ks6.mono ?_; clear ks6; rintro e w16 ⟨rfl, b16⟩; have HB1615 : Hid (Below w15.heap.size w15 w16) := b16; have HB16 : Hid (Below wE.heap.size wE w16) := HB15.out.trans (b16.mono HB15.out.size); clear b16)
                    | fail)
                  have hB1514 := HB1413.out.trans ((HB1514.out.trans (HB1615.out.mono HB1514.out.size)).mono HB1413.out.size)
                  have v5 := Tryz.conv_bs (Dg.Ob.bs (HOE.out w16 HB16.out))
                  have v6 := Tryz.conv_bs (Dg.Ob.bs (Dg.Ob.below HO6.out hB1514 (Nat.le_refl _)))
                  have v7 := Tryz.conv_bs (Dg.Ob.bs (Dg.Ob.below HO7.out HB1615.out (Nat.le_refl _)))
                  clear d0 d1 d2 d3 d4 h0 h1 h2 h3 h4 x0 x1 x2 x3 y0 y1 y2 y3 hB1514
                  go_wp2_with (first
                    | (go_at_call 11; refine (kn1 _).mono ?_; rintro e w17 ⟨rfl, rfl⟩)
                    | (go_at_call 12; refine (kn2 _).mono ?_; rintro e w17 ⟨rfl, rfl⟩)
                    | fail)
                  go_ret
                  exact ⟨rfl, HwE.out.trans (HB16.out.mono HwE.out.size)⟩
theorem Tryz.webWritesWalk {w : World} (m t x0 : ByteArray) {V : Value} {L : List (List UInt8 × List UInt8)} (l : Bool) (hV : Hs w V L) (um : m.size ≤ 1048576) (ut : t.size ≤ 1048576) (u0 : x0.size ≤ 1048576) (hL : L.length ≤ 1048576) (hLL : ∀ h ∈ L, h.1.length ≤ 1048576 ∧ h.2.length ≤ 1048576) (st : Int) (bs : -9223372036854775808 ≤ st ∧ st ≤ 9223372036854775807) (hT : Lib.TabIs Tryz.prog w "internal/strconv.uint64pow10" .u64 Lib.pow10Tab) :
    Calls Tryz.prog 3 #[.agg #[.string m, .string t, V, .string x0, .bool l], .int .i64 st] w fun e w' => e = .returned (.bool true) ∧ Below w.heap.size w w' :=
  Tryz.webWrites_go m.data.toList t.data.toList hV x0.data.toList l st um ut hL hLL u0 bs hT
end Go.Proofs
