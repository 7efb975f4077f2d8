/-
  Laid together by packg.py of LawReads.
-/
import Derived.Test.YtjiidkkmnlcpcaaGreatDoorPbM
import Derived.Test.YtjiidkkmnlcpcaaGreatDoorPbZ
import Derived.Test.YtjiidkkmnlcpcaaGreatDoorPaZ
import Derived.Deep.Cut
import Derived.Deep.CutBlock
namespace Go.Wb
theorem piece_len {L : List (List UInt8)} {p : List UInt8} (h : p ∈ L) : p.length ≤ L.flatten.length := by
  induction L with
  | nil => cases h
  | cons a r ih =>
    rw [List.flatten_cons, List.length_append]
    rcases List.mem_cons.1 h with e | e
    · rw [e]; omega
    · have := ih e; omega
end Go.Wb
namespace Go.Proofs
open Go.RowKit Go.Wi Go.Wb
theorem Tryz.refNew_any (w : World) : Calls Tryz.prog 13 #[] w fun e w' => e = .returned (.pointer (some ⟨w.heap.size, 0, none⟩)) ∧ Tryz.Dp w' w.heap.size [] 0 0 0 false ∧ Below w.heap.size w w' := by
  go_enter Tryz.func13, Tryz.ntmps13
  go_wp2
  go_ret
  exact ⟨rfl, heap_alloc_new w _, (Below.refl _ w).alloc (Nat.le_refl _) _⟩
/-- A row of texts. -/
def Wb.Tx (w : World) (V : Value) (L : List (List UInt8)) : Prop := ∃ ad cap, V = .slice ad L.length cap ∧ ∀ i (hi : i < L.length), ∃ g, ad = some ⟨g, 0, none⟩ ∧ w.cell? ⟨g, i, none⟩ = some (.string ⟨L[i].toArray⟩)
theorem Tryz.Tx.ofRow {w : World} {B n : Nat} {V : Value} {L : List (List UInt8)} (h : w.ownsRow B 9 1 V n (strCells L)) (hn : n = L.length) : Wb.Tx w V L := by
  subst hn
  rcases h.2 with ⟨h1, h2⟩ | ⟨g, cap, cur, rfl, _, hg, h3, _, h5, h6⟩
  · exact ⟨Option.none, 0, by rw [h2]; exact h1, fun i hi => by omega⟩
  · refine ⟨_, cap, rfl, fun i hi => ⟨g, rfl, ?_⟩⟩
    rw [cell_of_row _ _ _ _ _ _ hg, ← Array.getElem?_toList]
    have e : (strCells L)[i]? = some (.string ⟨L[i].toArray⟩) := by simp [strCells, hi]
    rw [← h6, List.getElem?_take] at e
    split at e
    · exact e
    · cases e
theorem Wb.Tx.keep {w w' : World} {V : Value} {L : List (List UInt8)} (h : Wb.Tx w V L) (hk : ∀ k, V.ownBlock = some k → w'.heap[k]? = w.heap[k]?) : Wb.Tx w' V L := by
  obtain ⟨ad, cap, rfl, h1⟩ := h
  refine ⟨ad, cap, rfl, fun i hi => ?_⟩
  obtain ⟨g, rfl, e⟩ := h1 i hi
  exact ⟨g, rfl, (World.cell?_of_block (a := ⟨g, i, none⟩) (hk g rfl)).trans e⟩
set_option maxRecDepth 20000 in
set_option maxHeartbeats 8000000 in
theorem Tryz.webReads_go {w : World} (s t : List UInt8) (hs : s.length ≤ 1048576) (ht : t.length ≤ 1048576) {C : Value} {cs : List Int} (hC : Qu.Iv w C cs) (hcl : cs.length ≤ 140737488351232) (htab : Lib.TabIs Tryz.prog w "internal/strconv.uint64pow10" .u64 Lib.pow10Tab) :
    Calls Tryz.prog 4 #[.string ⟨s.toArray⟩, .string ⟨t.toArray⟩, C] w fun e w' => e = .returned (.bool true) ∧ Below w.heap.size w w' := by
  obtain ⟨ac, cc, rfl, -⟩ := hC.ex
  have hcc := hC.cp _ _ _ rfl
  have k0 := Tryz.shown_any htab
  have HC : Hid (Qu.Iv w (.slice ac cs.length cc) cs) := hC
  have KN : Hid (∀ W, Calls Tryz.prog 11 #[] W fun e w' => ∃ b, e = .returned (.pointer (some ⟨b, 0, none⟩)) ∧ Hid (W.heap.size ≤ b ∧ Tryz.Ms 77 w' (fun k => k = b) b (newReq 0) ∧ Below W.heap.size W w')) := fun W => (by
    refine (Tryz.newParser_any W).mono ?_
    rintro e w' ⟨b, rfl, h1, h2, h3⟩
    exact ⟨b, rfl, h1, h2, h3⟩)
  have KR : Hid (∀ W, Calls Tryz.prog 13 #[] W fun e w' => ∃ q, e = .returned (.pointer (some ⟨q, 0, none⟩)) ∧ Hid (q = W.heap.size ∧ Tryz.Dp w' q [] 0 0 0 false ∧ Below W.heap.size W w')) := fun W => (by
    refine (Tryz.refNew_any W).mono ?_
    rintro e w' ⟨rfl, h1, h2⟩
    exact ⟨_, rfl, rfl, h1, h2⟩)
  clear htab hC
  go_enter Tryz.func4, Tryz.ntmps4
  go_upto_region 8 with (first
    | (go_at_call 5; refine k0.mono ?_; clear k0; rintro e w1 ⟨rfl, hb1⟩; have HB1 : Hid (Below w.heap.size w w1) := hb1; have k1 := KN.out w1; clear hb1)
    | (go_at_call 11; refine k1.mono ?_; clear k1; rintro e w2 ⟨bp, rfl, H2⟩; have k2 := KN.out w2; clear KN)
    | (go_at_call 11; refine k2.mono ?_; clear k2; rintro e w3 ⟨bo, rfl, H3⟩; have k3 : Calls Tryz.prog 12 #[.pointer (some ⟨bp, 0, none⟩)] w3 fun e w' => e = .returned (.int .i64 0) ∧ Hid (Below w3.heap.size w3 w') := (by refine (Tryz.waits_any (H2.out.2.1.below H3.out.2.2) (by decide) (by decide)).mono ?_; rintro e w' ⟨rfl, k, rfl⟩; exact ⟨rfl, belowN (Below.refl _ _) k⟩))
    | (go_at_call 12; refine k3.mono ?_; clear k3; rintro e w4 ⟨rfl, H4⟩; have k4 := KR.out w4)
    | (go_at_call 13; refine k4.mono ?_; clear k4; rintro e w5 ⟨qp, rfl, H5⟩; have k5 := KR.out w5; clear KR)
    | (go_at_call 13; refine k5.mono ?_; clear k5; rintro e w6 ⟨qo, rfl, H6⟩)
    | fail)
  go_upto_if 42 with (fail)
  go_cut [2] (fun cv wx => ∃ a n c cs', cv = .slice a n c ∧ wx = w6 ∧ Hid (Qu.Iv w (.slice a n c) cs' ∧ cs'.length ≤ 300))
  case first =>
    by_cases h300 : 300 < cs.length
    · have q1 : (300 : Int) < (cs.length : Int) := by omega
      have q2 : 300 ≤ cc := by omega
      go_wp2
      go_meet
      exact ⟨ac, 300, cc, cs.take 300, rfl, rfl, HC.out.first (by omega), by rw [List.length_take]; omega⟩
    · have q1 : ¬ (300 : Int) < (cs.length : Int) := by omega
      go_wp2
      go_meet
      exact ⟨ac, cs.length, cc, cs, rfl, rfl, HC.out, by omega⟩
  case rest =>
    obtain ⟨a, n, c, cs', rfl, rfl, HC'⟩ := hcut
    clear HC hcc
    go_upto_region 11 with (fail)
    obtain ⟨d, hd⟩ : ∃ d, wc.heap.size = d := ⟨_, rfl⟩
    generalize hW7 : wc.alloc _ = w7
    have hbx : w7.heap[d]? = some (.cells #[.slice none 0 0, .slice none 0 0] 45 (0, 0)) := by rw [← hW7, ← hd]; exact heap_alloc_new wc _
    have hb7 : Below wc.heap.size wc w7 := by rw [← hW7]; exact (Below.refl _ wc).alloc (Nat.le_refl _) _
    have hd7 : w7.heap.size = d + 1 := by rw [← hW7, ← hd]; simp
    try rw [hd]
    have HD : Hid (wc.heap.size = d ∧ w7.heap.size = d + 1) := ⟨hd, hd7⟩
    have HBX : Hid (w7.heap[d]? = some (.cells #[.slice none 0 0, .slice none 0 0] 45 (0, 0))) := hbx
    have HB7 : Hid (Below wc.heap.size wc w7) := hb7
    clear hW7 hd hd7 hbx hb7
    have HBW : Hid (Below w.heap.size w w7) := (by
      have b1 := HB1.out
      have b2 := b1.trans (H2.out.2.2.mono b1.size)
      have b3 := b2.trans (H3.out.2.2.mono b2.size)
      have b4 := b3.trans (H4.out.mono b3.size)
      have b5 := b4.trans (H5.out.2.2.mono b4.size)
      have b6 := b5.trans (H6.out.2.2.mono b5.size)
      exact b6.trans (HB7.out.mono b6.size))
    have KP : Hid (∀ (x : List UInt8) W, x.length ≤ 1048576 → Below w.heap.size w W → Calls Tryz.prog 14 #[.string ⟨x.toArray⟩, .slice a n c] W fun e w' => ∃ ad nn cap, e = .returned (.slice ad nn cap) ∧ Hid (nn = (piecesL x cs').length ∧ w'.ownsRow W.heap.size 9 1 (.slice ad nn cap) nn (strCells (piecesL x cs')) ∧ Below W.heap.size W w')) := fun x W hx hW => (by
      refine (Tryz.pieces_any (HC'.out.1.keep hW) (by have := HC'.out.2; omega) x (by omega)).mono ?_
      rintro e w' ⟨V, rfl, h1, h2⟩
      obtain ⟨ad, cap, e1⟩ : ∃ ad cap, V = .slice ad (piecesL x cs').length cap := by
        rcases h1.2 with ⟨e1, e2⟩ | ⟨g, cap, _, e1, _⟩
        · exact ⟨Option.none, 0, by rw [e2]; exact e1⟩
        · exact ⟨_, cap, e1⟩
      subst e1
      exact ⟨ad, _, cap, rfl, rfl, h1, h2⟩)
    have k7 := KP.out s w7 hs HBW.out
    go_upto_region 13 with (first
      | (go_at_call 14; refine k7.mono ?_; clear k7; rintro e w8 ⟨al, nl, cl, rfl, H8⟩; have k8 := KP.out t w8 ht (HBW.out.trans (H8.out.2.2.mono HBW.out.size)); clear KP)
      | (go_at_call 14; refine k8.mono ?_; clear k8; rintro e w9 ⟨am, nm, cm, rfl, H9⟩)
      | fail)
    have HWS : Hid (Tryz.WS w w9 bp bo qp qo d (fun k => (Value.slice al nl cl).ownBlock = some k ∨ (Value.slice am nm cm).ownBlock = some k) 0 0) := (by
      obtain ⟨x1, x2, x3⟩ := H2.out
      obtain ⟨y1, y2, y3⟩ := H3.out
      have z := H4.out
      obtain ⟨u1, u2, u3⟩ := H5.out
      obtain ⟨v1, v2, v3⟩ := H6.out
      obtain ⟨d1, d2⟩ := HD.out
      obtain ⟨l1, l2, l3⟩ := H8.out
      obtain ⟨m1, m2, m3⟩ := H9.out
      have s1 := HB1.out.size
      have s2 := x3.size
      have s3 := y3.size
      have s4 := z.size
      have s5 := u3.size
      have s6 := v3.size
      have s8 := l3.size
      have s9 := m3.size
      have p2 := Tryz.msW_lt x2 bp rfl
      have p3 := Tryz.msW_lt y2 bo rfl
      have p5 := block_lt u2
      have p6 := block_lt v2
      have b79 : Below w7.heap.size w7 w9 := l3.trans (m3.mono l3.size)
      have b69 : Below wc.heap.size wc w9 := HB7.out.trans (b79.mono HB7.out.size)
      have b59 : Below w5.heap.size w5 w9 := v3.trans (b69.mono v3.size)
      have b49 : Below w4.heap.size w4 w9 := u3.trans (b59.mono u3.size)
      have b39 : Below w3.heap.size w3 w9 := z.trans (b49.mono z.size)
      have b29 : Below w2.heap.size w2 w9 := y3.trans (b39.mono y3.size)
      have hK : ∀ k, (Value.slice al nl cl).ownBlock = some k ∨ (Value.slice am nm cm).ownBlock = some k → d < k ∧ k < w9.heap.size := fun k e => by
        rcases e with e | e
        · have := l2.lt k e; omega
        · have := m2.lt k e; omega
      refine ⟨⟨fun k => k = bp, fun k => k = bo, fun _ => False, fun _ => False, newReq 0, newReq 0, .slice none 0 0, .slice none 0 0, [], [], 0, 0, 0, false, [], 0, 0, 0, false, ⟨x2.below b29, fi_new, (b59.block qp p5).trans u2, dinv_start, Nat.le_refl _⟩, ⟨y2.below b39, fi_new, (b69.block qo p6).trans v2, dinv_start, Nat.le_refl _⟩, ⟨(b79.block d (by omega)).trans HBX.out, Tryz.RlD.none _ _, Tryz.RlW.nil _ _, fun _ e => e.elim, id, id⟩, ⟨Nat.zero_le _, fun r hr => by cases hr⟩, ⟨fun _ _ e => e, fun _ _ e => e, by omega, by omega, id, id, by omega, fun k e => ?_⟩, ⟨fun _ _ e => e, fun _ _ e => e, by omega, by omega, id, id, by omega, fun k e => ?_⟩, fun k e1 e2 => by omega, by omega, by omega, by omega, fun k e => ?_, fun k e => ?_⟩, ?_⟩
      · rcases e with e | e | e | e | e
        · omega
        · exact e.elim
        · exact e.elim
        · omega
        · omega
      · rcases e with e | e | e | e | e
        · omega
        · exact e.elim
        · exact e.elim
        · omega
        · omega
      · have := hK k e
        exact ⟨this.2, by omega, by omega, id, id, by omega, by omega, by omega⟩
      · rcases e with e | e | e | e | e | e | e
        · omega
        · omega
        · exact e.elim
        · exact e.elim
        · omega
        · omega
        · omega
      · exact HBW.out.trans (b79.mono HBW.out.size))
    obtain ⟨LL, hLL⟩ : ∃ L, piecesL s cs' = L := ⟨_, rfl⟩
    obtain ⟨MM, hMM⟩ : ∃ L, piecesL t cs' = L := ⟨_, rfl⟩
    have hnl : nl = LL.length := by rw [← hLL]; exact H8.out.1
    have hnm : nm = MM.length := by rw [← hMM]; exact H9.out.1
    have hl1 : nl ≤ 301 := by have h1 := pieces_len s cs'; have h2 := HC'.out.2; rw [hnl, ← hLL]; omega
    have hl2 : nm ≤ 301 := by have h1 := pieces_len t cs'; have h2 := HC'.out.2; rw [hnm, ← hMM]; omega
    have HPL : Hid (∀ i (hi : i < LL.length), LL[i].length ≤ 1048576) := fun i hi => (by subst hLL; have h1 := piece_len (List.getElem_mem hi); rw [pieces_flat] at h1; omega)
    have HPM : Hid (∀ i (hi : i < MM.length), MM[i].length ≤ 1048576) := fun i hi => (by subst hMM; have h1 := piece_len (List.getElem_mem hi); rw [pieces_flat] at h1; omega)
    have HTL : Hid (Wb.Tx w9 (.slice al nl cl) LL) := (by
      have h1 := Tryz.Tx.ofRow H8.out.2.1 H8.out.1
      rw [hLL] at h1
      exact h1.keep fun k e => H9.out.2.2.block k (H8.out.2.1.lt k e).2)
    have HTM : Hid (Wb.Tx w9 (.slice am nm cm) MM) := (by
      have h1 := Tryz.Tx.ofRow H9.out.2.1 H9.out.1
      rw [hMM] at h1
      exact h1)
    have HNL : Hid (nl = LL.length ∧ nm = MM.length) := ⟨hnl, hnm⟩
    clear hnl hnm hLL hMM H2 H3 H4 H5 H6 H8 H9 HB1 HB7 HBW HBX HD HC' hs ht hcl
    go_wp2
    go_loopw [15, 16, 17] (fun iv _ _ wr => ∃ i N1 N2 : Nat, iv = .int .i64 i ∧ i ≤ 301 ∧ N1 ≤ i * 1048576 ∧ N2 ≤ i * 1048576 ∧ Hid (Tryz.WS w wr bp bo qp qo d (fun k => (Value.slice al nl cl).ownBlock = some k ∨ (Value.slice am nm cm).ownBlock = some k) N1 N2) ∧ Hid (Wb.Tx wr (.slice al nl cl) LL) ∧ Hid (Wb.Tx wr (.slice am nm cm) MM)) (fun iv _ _ _ => 301 - (intOf iv).toNat)
    case atStart => exact ⟨0, 0, 0, rfl, by omega, by omega, by omega, HWS, HTL, HTM⟩
    case round =>
      clear HWS HTL HTM
      obtain ⟨i, N1, N2, rfl, hi, hN1, hN2, HWS, HTL, HTM⟩ := hrel
      have HF1 : Hid (∀ W (p : List UInt8) M1 M2, p.length ≤ 1048576 → M1 ≤ 1048576 * 303 → Tryz.WS w W bp bo qp qo d (fun k => (Value.slice al nl cl).ownBlock = some k ∨ (Value.slice am nm cm).ownBlock = some k) M1 M2 → Wb.Tx W (.slice al nl cl) LL → Wb.Tx W (.slice am nm cm) MM → Calls Tryz.prog 15 #[.pointer (some ⟨d, 0, none⟩), .pointer (some ⟨bp, 0, none⟩), .pointer (some ⟨qp, 0, none⟩), .string ⟨p.toArray⟩] W fun e w' => e = .returned (.bool true) ∧ Hid (Tryz.WS w w' bp bo qp qo d (fun k => (Value.slice al nl cl).ownBlock = some k ∨ (Value.slice am nm cm).ownBlock = some k) (M1 + p.length) M2) ∧ Hid (Wb.Tx w' (.slice al nl cl) LL) ∧ Hid (Wb.Tx w' (.slice am nm cm) MM)) := fun W p M1 M2 hp hM h1 h2 h3 => (by
        refine (Tryz.WS.fed h1 p (by omega)).mono ?_
        rintro e w' ⟨rfl, g1, g2⟩
        exact ⟨rfl, g1, h2.keep fun k e => g2 k (.inl e), h3.keep fun k e => g2 k (.inr e)⟩)
      have HF2 : Hid (∀ W (p : List UInt8) M1 M2, p.length ≤ 1048576 → M2 ≤ 1048576 * 303 → Tryz.WS w W bp bo qp qo d (fun k => (Value.slice al nl cl).ownBlock = some k ∨ (Value.slice am nm cm).ownBlock = some k) M1 M2 → Wb.Tx W (.slice al nl cl) LL → Wb.Tx W (.slice am nm cm) MM → Calls Tryz.prog 15 #[.pointer (some ⟨d, 0, none⟩), .pointer (some ⟨bo, 0, none⟩), .pointer (some ⟨qo, 0, none⟩), .string ⟨p.toArray⟩] W fun e w' => e = .returned (.bool true) ∧ Hid (Tryz.WS w w' bp bo qp qo d (fun k => (Value.slice al nl cl).ownBlock = some k ∨ (Value.slice am nm cm).ownBlock = some k) M1 (M2 + p.length)) ∧ Hid (Wb.Tx w' (.slice al nl cl) LL) ∧ Hid (Wb.Tx w' (.slice am nm cm) MM)) := fun W p M1 M2 hp hM h1 h2 h3 => (by
        refine (Tryz.WS.fed (Tryz.WS.swap h1) p (by omega)).mono ?_
        rintro e w' ⟨rfl, g1, g2⟩
        exact ⟨rfl, Tryz.WS.swap g1, h2.keep fun k e => g2 k (.inl e), h3.keep fun k e => g2 k (.inr e)⟩)
      have HCL : Hid (∀ W, Wb.Tx W (.slice al nl cl) LL → ∀ (h : i < LL.length), ∃ g, al = some ⟨g, 0, none⟩ ∧ W.cell? ⟨g, i, none⟩ = some (.string ⟨LL[i].toArray⟩)) := fun W h2 h => (by
        obtain ⟨ad, cap, e, h1⟩ := h2
        injection e with e1 e2 e3
        obtain ⟨g, e4, e5⟩ := h1 i h
        exact ⟨g, e1.trans e4, e5⟩)
      have HCM : Hid (∀ W, Wb.Tx W (.slice am nm cm) MM → ∀ (h : i < MM.length), ∃ g, am = some ⟨g, 0, none⟩ ∧ W.cell? ⟨g, i, none⟩ = some (.string ⟨MM[i].toArray⟩)) := fun W h2 h => (by
        obtain ⟨ad, cap, e, h1⟩ := h2
        injection e with e1 e2 e3
        obtain ⟨g, e4, e5⟩ := h1 i h
        exact ⟨g, e1.trans e4, e5⟩)
      by_cases hlt : i < nl
      · have q1 : (i : Int) < (nl : Int) := by omega
        have hil : i < LL.length := by rw [← HNL.out.1]; exact hlt
        obtain ⟨gl, rfl, c1⟩ := HCL.out wr HTL.out hil
        have k1 := HF1.out wr LL[i] N1 N2 (HPL.out i hil) (by omega) HWS.out HTL.out HTM.out
        have hp1 := HPL.out i hil
        generalize LL[i] = P1 at *
        by_cases hlm : i < nm
        · have q2 : (i : Int) < (nm : Int) := by omega
          have him : i < MM.length := by rw [← HNL.out.2]; exact hlm
          have hp2 := HPM.out i him
          obtain ⟨gm, rfl, -⟩ := HCM.out wr HTM.out him
          have HCM2 : Hid (∀ W, Wb.Tx W (.slice (some ⟨gm, 0, none⟩) nm cm) MM → W.cell? ⟨gm, i, none⟩ = some (.string ⟨MM[i].toArray⟩)) := fun W h => (by obtain ⟨g, e, e2⟩ := HCM.out W h him; cases e; exact e2)
          generalize MM[i] = P2 at *
          clear HCL HCM HWS HTL HTM hil him
          go_wp2_with (first
            | (go_at_call 15; refine k1.mono ?_; clear k1; rintro e w1 ⟨rfl, G1, G2, G3⟩; have c2 := HCM2.out w1 G3.out; have k2 := HF2.out w1 P2 _ N2 hp2 (by omega) G1.out G2.out G3.out; clear HCM2 G1 G2 G3)
            | (go_at_call 15; refine k2.mono ?_; clear k2; rintro e w2 ⟨rfl, G4, G5, G6⟩)
            | fail)
          go_roundw
          case rel => exact ⟨i + 1, N1 + P1.length, N2 + P2.length, by simp, by omega, by omega, by omega, G4, G5, G6⟩
          case measure => simp [intOf]; omega
        · have q2 : ¬ (i : Int) < (nm : Int) := by omega
          clear HCL HCM HWS HTL HTM hil
          go_wp2_with (first
            | (go_at_call 15; refine k1.mono ?_; clear k1; rintro e w1 ⟨rfl, G4, G5, G6⟩)
            | fail)
          go_roundw
          case rel => exact ⟨i + 1, N1 + P1.length, N2, by simp, by omega, by omega, Nat.le_trans hN2 (Nat.mul_le_mul_right _ (Nat.le_succ i)), G4, G5, G6⟩
          case measure => simp [intOf]; omega
      · have q1 : ¬ (i : Int) < (nl : Int) := by omega
        by_cases hlm : i < nm
        · have q2 : (i : Int) < (nm : Int) := by omega
          have him : i < MM.length := by rw [← HNL.out.2]; exact hlm
          have hp2 := HPM.out i him
          obtain ⟨gm, rfl, c2⟩ := HCM.out wr HTM.out him
          have k1 := HF2.out wr MM[i] N1 N2 hp2 (by omega) HWS.out HTL.out HTM.out
          generalize MM[i] = P2 at *
          clear HCL HCM HWS HTL HTM him
          go_wp2_with (first
            | (go_at_call 15; refine k1.mono ?_; clear k1; rintro e w1 ⟨rfl, G4, G5, G6⟩)
            | fail)
          go_roundw
          case rel => exact ⟨i + 1, N1, N2 + P2.length, by simp, by omega, Nat.le_trans hN1 (Nat.mul_le_mul_right _ (Nat.le_succ i)), by omega, G4, G5, G6⟩
          case measure => simp [intOf]; omega
        · have q2 : ¬ (i : Int) < (nm : Int) := by omega
          have k1 : Calls Tryz.prog 15 #[.pointer (some ⟨d, 0, none⟩), .pointer (some ⟨bp, 0, none⟩), .pointer (some ⟨qp, 0, none⟩), .string ⟨#[71, 69, 84, 32, 47, 97, 32, 72, 84, 84, 80, 47, 49, 46, 49, 13, 10, 72, 111, 115, 116, 58, 32, 120, 13, 10, 13, 10]⟩] wr _ := HF1.out wr [71, 69, 84, 32, 47, 97, 32, 72, 84, 84, 80, 47, 49, 46, 49, 13, 10, 72, 111, 115, 116, 58, 32, 120, 13, 10, 13, 10] N1 N2 (by decide) (by omega) HWS.out HTL.out HTM.out
          clear HCL HCM HWS HTL HTM HF1
          go_wp2_with (first
            | (go_at_call 15; refine k1.mono ?_; clear k1; rintro e w1 ⟨rfl, G1, G2, G3⟩; have k2 : Calls Tryz.prog 15 #[.pointer (some ⟨d, 0, none⟩), .pointer (some ⟨bo, 0, none⟩), .pointer (some ⟨qo, 0, none⟩), .string ⟨#[71, 69, 84, 32, 47, 97, 32, 72, 84, 84, 80, 47, 49, 46, 49, 13, 10, 72, 111, 115, 116, 58, 32, 120, 13, 10, 13, 10]⟩] w1 _ := HF2.out w1 [71, 69, 84, 32, 47, 97, 32, 72, 84, 84, 80, 47, 49, 46, 49, 13, 10, 72, 111, 115, 116, 58, 32, 120, 13, 10, 13, 10] _ N2 (by decide) (by omega) G1.out G2.out G3.out; clear HF2 G1 G2 G3)
            | (go_at_call 15; refine k2.mono ?_; clear k2; rintro e w2 ⟨rfl, G4, G5, G6⟩)
            | fail)
          go_ret
          exact ⟨rfl, G4.out.bel⟩
theorem Tryz.webReadsWalk (x0 : ByteArray) (u0 : x0.size ≤ 1048576) (x1 : ByteArray) (u1 : x1.size ≤ 1048576) (V : Value) {w : World} (b2 : ∃ l, Qu.Iv w V l ∧ l.length ≤ 140737488351232) (hT : Lib.TabIs Tryz.prog w "internal/strconv.uint64pow10" .u64 Lib.pow10Tab) :
    Calls Tryz.prog 4 #[.string x0, .string x1, V] w fun e w' => e = .returned (.bool true) ∧ Below w.heap.size w w' := by
  obtain ⟨l, hl, hn⟩ := b2
  exact Tryz.webReads_go x0.data.toList x1.data.toList u0 u1 hl hn hT
end Go.Proofs
