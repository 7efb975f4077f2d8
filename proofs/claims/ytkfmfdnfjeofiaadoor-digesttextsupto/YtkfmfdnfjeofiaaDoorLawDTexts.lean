/-
  DigestTexts, walked.
-/
import Derived.Test.YtkfmfdnfjeofiaaDoorIze
namespace Go.Proofs
open Go.RowKit Go.Wi Go.Dg
theorem Dg.ob_first4 {w : World} {B g N n : Nat} {l r : List UInt8} (hn : n = l.length) (h : Ob w B (.slice (some ⟨g, 0, none⟩) N N) (l ++ r)) : Ob w B (.slice (some ⟨g, 0, none⟩) n N) l := by
  subst hn
  have h1 := Ob.take h l.length (by rw [List.length_append]; omega)
  rwa [List.take_left] at h1
theorem Dg.bs_none1 (w : World) : Bs w (.slice none 0 0) [] := ⟨none, 0, rfl, Nat.le_refl _, fun _ => rfl, .inl rfl⟩
theorem Dg.enc_none : (⟨(enc []).toArray⟩ : ByteArray) = ⟨#[]⟩ := rfl
theorem Dg.hex_none1 : (⟨(hex []).toArray⟩ : ByteArray) = ⟨#[]⟩ := rfl
theorem Dg.enc_size (l : List UInt8) : 6 * (⟨(enc l).toArray⟩ : ByteArray).size ≤ 8 * l.length + 5 := by
  show 6 * (enc l).length ≤ _
  obtain ⟨vs, p, e1, -, e3, e4, -⟩ := enc_vals l
  rw [e1, List.length_map]
  omega
theorem Dg.decV_none {t : ByteArray} (h : (dec t.toList).1 = none) : decV (dec t.toList) = .tuple #[.string ⟨#[]⟩, .int .i64 ((dec t.toList).2 : Int), .int .i64 160] := by
  generalize dec t.toList = r at h ⊢
  obtain ⟨x, y⟩ := r
  obtain rfl : x = none := h
  rfl
theorem Dg.decV_some {t : ByteArray} {o : List UInt8} (h : (dec t.toList).1 = some o) : decV (dec t.toList) = .tuple #[.string ⟨o.toArray⟩, .int .i64 0, .int .i64 0] := by
  generalize dec t.toList = r at h ⊢
  obtain ⟨x, y⟩ := r
  obtain rfl : x = some o := h
  rfl
/-- Bytes that were lent. -/
structure Dg.Tx (w0 : World) (g n N : Nat) (l : List UInt8) (w : World) : Prop where
  b : Below w0.heap.size w0 w
  o : Ob w w0.heap.size (.slice (some ⟨g, 0, none⟩) n N) l
theorem Dg.Tx.below {w0 w w' : World} {g n N : Nat} {l : List UInt8} (h : Dg.Tx w0 g n N l w) (hb : Below w.heap.size w w') : Dg.Tx w0 g n N l w' := ⟨h.b.trans (hb.mono h.b.size), Ob.below h.o hb (Nat.le_refl _)⟩
theorem Dg.Tx.lt {w0 w : World} {g n N : Nat} {l : List UInt8} (h : Dg.Tx w0 g n N l w) : ∀ k, (Value.slice (some ⟨g, 0, none⟩) n N).ownBlock = some k → k < w.heap.size := fun k e => (Ob.lt h.o k e).2
theorem Dg.Tx.lt' {w0 w : World} {g n m N : Nat} {l : List UInt8} (h : Dg.Tx w0 g n N l w) : ∀ k, (Value.slice (some ⟨g, 0, none⟩) m N).ownBlock = some k → k < w.heap.size := fun k e => (Ob.lt h.o k e).2
set_option maxRecDepth 20000 in
set_option maxHeartbeats 2000000 in
theorem Tryd.digestTextsWalk (s : ByteArray) (hs : s.size ≤ 1048576) (text : ByteArray) (htx : text.size ≤ 1048576) (w : World) (hT : Tryd.Tq w) :
    Calls Tryd.prog 8 #[.string s, .string text] w fun e w' => e = .returned (.bool true) ∧ Below w.heap.size w w' := by
  have hsh := Tryd.shown_any w hT
  obtain ⟨N, hN⟩ : ∃ N, N = s.size + 80 := ⟨_, rfl⟩
  have HN : Hid (N = s.size + 80) := hN
  have q3 : (s.size : Int) ≤ (N : Int) := by omega
  have q4 : (0 : Int) ≤ (s.size : Int) := by omega
  have q6 : (N : Int) ≤ 4294967296 := by omega
  have Hsl : Hid (s.toList.length = s.size) := Dg.list_len s
  have Hss : Hid (s.size ≤ 1048576 ∧ text.size ≤ 1048576) := ⟨hs, htx⟩
  obtain ⟨E, hE⟩ : ∃ E : ByteArray, E = ⟨(enc s.toList).toArray⟩ := ⟨_, rfl⟩
  have HE : Hid (E = ⟨(enc s.toList).toArray⟩) := hE
  have HEs : Hid (E.size ≤ 4000000) := (by show _ ≤ _; have h1 := Dg.enc_size s.toList; rw [← hE, Hsl.out] at h1; omega)
  obtain ⟨X, hX⟩ : ∃ X : ByteArray, X = ⟨(hex s.toList).toArray⟩ := ⟨_, rfl⟩
  have HX : Hid (X = ⟨(hex s.toList).toArray⟩) := hX
  obtain ⟨T, hT2⟩ : ∃ T, T = s.toList.map (· + 1) := ⟨_, rfl⟩
  have HT : Hid (T = s.toList.map (· + 1)) := hT2
  have HTl : Hid (T.length = s.size) := (by show _ = _; rw [hT2, List.length_map, Hsl.out])
  obtain ⟨t, ht⟩ : ∃ t : ByteArray, t = ⟨T.toArray⟩ := ⟨_, rfl⟩
  have Ht : Hid (t = ⟨T.toArray⟩) := ht
  have Htl : Hid (t.toList = T) := (by show _ = _; rw [ht, Dg.of_list])
  have Hts : Hid (t.size = s.size) := (by show _ = _; rw [← Dg.list_len, Htl.out, HTl.out])
  obtain ⟨E2, hE2⟩ : ∃ E : ByteArray, E = ⟨(enc T).toArray⟩ := ⟨_, rfl⟩
  have HE2 : Hid (E2 = ⟨(enc T).toArray⟩) := hE2
  obtain ⟨X2, hX2⟩ : ∃ X : ByteArray, X = ⟨(hex T).toArray⟩ := ⟨_, rfl⟩
  have HX2 : Hid (X2 = ⟨(hex T).toArray⟩) := hX2
  clear hE hX hT2 ht hE2 hX2 hT htx hN
  go_enter Tryd.func8, Tryd.ntmps8
  go_upto_region 5 with (first
    | (go_at_call 9; refine hsh.mono ?_; clear hsh; rintro z w1 ⟨rfl, hb1⟩; have HB1 : Hid _ := hb1; clear hb1; have hle := Tryd.lent_any s (by omega) w1; rw [← HN.out] at hle)
    | (go_at_call 13; refine hle.mono ?_; clear hle; rintro z x2 ⟨rfl, ho2, hb2⟩; have H2 : Hid (Dg.Tx w w1.heap.size N N (s.toList ++ List.replicate 80 201) x2) := ⟨HB1.out.trans (hb2.mono HB1.out.size), Ob.mono ho2 HB1.out.size⟩; clear ho2 hb2)
    | fail)
  clear HB1
  generalize w1.heap.size = g at *
  have hen := Tryd.enc_any (Ob.bs (Dg.ob_first4 Hsl.out.symm H2.out.o)) H2.out.lt' (by rw [Hsl.out]; omega)
  rw [← HE.out] at hen
  go_upto_region 6 with (first
    | (go_at_call 10; refine hen.mono ?_; clear hen; rintro z x3 ⟨rfl, hb3⟩; have H3 : Hid _ := H2.out.below hb3; clear hb3 H2; have hre := Tryd.refEnc_any s (by omega) x3; rw [← HE.out] at hre)
    | (go_at_call 25; refine hre.mono ?_; clear hre; rintro z x4 ⟨rfl, hb4⟩; have H4 : Hid _ := H3.out.below hb4; clear hb4 H3; have hhx := Tryd.hex_any (Ob.bs (Dg.ob_first4 Hsl.out.symm H4.out.o)) H4.out.lt' (by rw [Hsl.out]; omega); rw [← HX.out] at hhx)
    | (go_at_call 12; refine hhx.mono ?_; clear hhx; rintro z x5 ⟨rfl, hb5⟩; have H5 : Hid _ := H4.out.below hb5; clear hb5 H4; have hrh := Tryd.refHex_any s (by omega) x5; rw [← HX.out] at hrh)
    | (go_at_call 26; refine hrh.mono ?_; clear hrh; rintro z x6 ⟨rfl, hb6⟩; have H6 : Hid _ := H5.out.below hb6; clear hb6 H5)
    | fail)
  have Hlk : Hid ((s.toList ++ List.replicate 80 201).length = N) := (by show _ = _; rw [List.length_append, List.length_replicate, Hsl.out, HN.out])
  have hst := Tryd.still_any (w := x6) (B := w.heap.size) (g := g) (cap := N) (s := s) (l := s.toList ++ List.replicate 80 201) 80 rfl (by rw [Hlk.out]; exact H6.out.o) (by rw [Hlk.out]; omega)
  rw [Hlk.out] at hst
  go_upto_region 7 with (first | (go_at_call 17; refine hst.mono ?_; clear hst; rintro z x7 ⟨rfl, m7, rfl⟩) | fail)
  have H7 : Hid (Dg.Tx w g s.size N s.toList (x6.drewN m7)) := ⟨belowN H6.out.b m7, Ob.drewN (Dg.ob_first4 Hsl.out.symm H6.out.o) m7⟩
  clear H6 Hlk
  generalize x6.drewN m7 = x7 at *
  have htu := Tryd.lturned_any (w := x7) (B := w.heap.size) (g := g) (cap := N) (l := s.toList) (by rw [Hsl.out]; exact H7.out.o) (by rw [Hsl.out]; omega)
  rw [Hsl.out, ← HT.out, ← Ht.out] at htu
  go_upto_region 8 with (first | (go_at_call 18; refine htu.mono ?_; clear htu; rintro z x8 ⟨rfl, ho8, hw8⟩; have H8 : Hid (Dg.Tx w g s.size N T x8) := ⟨Wo.toBelow H7.out.b hw8 (fun k e => by rw [e]; exact (Ob.lt H7.out.o g rfl).1) H7.out.b.size, ho8⟩; clear ho8 hw8 H7) | fail)
  have hen := Tryd.enc_any (Ob.bs H8.out.o) H8.out.lt (by rw [HTl.out]; omega)
  rw [← HE2.out] at hen
  go_upto_region 9 with (first
    | (go_at_call 10; refine hen.mono ?_; clear hen; rintro z x3 ⟨rfl, hb3⟩; have H3 : Hid _ := H8.out.below hb3; clear hb3 H8; have hre := Tryd.refEnc_any t (by have := Hts.out; omega) x3; rw [Htl.out, ← HE2.out] at hre)
    | (go_at_call 25; refine hre.mono ?_; clear hre; rintro z x4 ⟨rfl, hb4⟩; have H4 : Hid _ := H3.out.below hb4; clear hb4 H3; have hhx := Tryd.hex_any (Ob.bs H4.out.o) H4.out.lt (by rw [HTl.out]; omega); rw [← HX2.out] at hhx)
    | (go_at_call 12; refine hhx.mono ?_; clear hhx; rintro z x5 ⟨rfl, hb5⟩; have H5 : Hid _ := H4.out.below hb5; clear hb5 H4; have hrh := Tryd.refHex_any t (by have := Hts.out; omega) x5; rw [Htl.out, ← HX2.out] at hrh)
    | (go_at_call 26; refine hrh.mono ?_; clear hrh; rintro z x6 ⟨rfl, hb6⟩; have H9 : Hid (Below w.heap.size w x6) := (H5.out.below hb6).b; clear hb6 H5)
    | fail)
  have hd := Tryd.dec_any text (by have := Hss.out.2; omega) x6
  go_wp2_with (fail)
  refine hd.mono ?_
  clear hd
  rintro z x7 hz
  have H7 : Hid (Below w.heap.size w x7) := H9.out.trans (hz.b.mono H9.out.size)
  clear H9
  rcases hz.r with ⟨o, C, h1, rfl, h2⟩ | ⟨gf, h1, rfl, -, h2⟩
  · have HO : Hid _ := h2
    have hrd := Tryd.refDec_any text (by have := Hss.out.2; omega)
    rw [Dg.decV_some h1] at hrd
    have HR : Hid _ := hrd
    clear hz h1 h2 hrd
    generalize x6.heap.size = gx at *
    obtain ⟨Y, hY⟩ : ∃ Y : ByteArray, Y = ⟨o.toArray⟩ := ⟨_, rfl⟩
    have HY : Hid (Y = ⟨o.toArray⟩) := hY
    clear hY
    have J0 : Hid (Below w.heap.size w x7 ∧ Ob x7 gx (.slice (some ⟨gx, 0, none⟩) o.length C) o) := ⟨H7.out, HO.out⟩
    clear H7 HO
    have hre := Tryd.refEnc_any s (by omega) x7
    rw [← HE.out] at hre
    go_upto_region 11 with (first
      | (go_at_call 25; refine hre.mono ?_; clear hre; rintro z y1 ⟨rfl, hb1⟩; have J1 : Hid (Below w.heap.size w y1 ∧ Ob y1 gx (.slice (some ⟨gx, 0, none⟩) o.length C) o) := ⟨J0.out.1.trans (hb1.mono J0.out.1.size), Ob.below J0.out.2 hb1 (Nat.le_refl _)⟩; clear hb1 J0; have hdc := Tryd.decodes_any text E (by have := Hss.out.2; omega) HEs.out y1)
      | (go_at_call 27; refine hdc.mono ?_; clear hdc; rintro z y2 ⟨rfl, hb2⟩; have J2 : Hid (Below w.heap.size w y2 ∧ Ob y2 gx (.slice (some ⟨gx, 0, none⟩) o.length C) o) := ⟨J1.out.1.trans (hb2.mono J1.out.1.size), Ob.below J1.out.2 hb2 (Nat.le_refl _)⟩; clear hb2 J1)
      | fail)
    have hen := Tryd.enc_any (Dg.bs_none1 y2) (fun k e => by cases e) (by simp)
    rw [Dg.enc_none] at hen
    go_upto_region 13 with (first
      | (go_at_call 10; refine hen.mono ?_; clear hen; rintro z y3 ⟨rfl, hb3⟩; have J3 : Hid (Below w.heap.size w y3 ∧ Ob y3 gx (.slice (some ⟨gx, 0, none⟩) o.length C) o) := ⟨J2.out.1.trans (hb3.mono J2.out.1.size), Ob.below J2.out.2 hb3 (Nat.le_refl _)⟩; clear hb3 J2; have hhx := Tryd.hex_any (Dg.bs_none1 y3) (fun k e => by cases e) (by simp); rw [Dg.hex_none1] at hhx)
      | (go_at_call 12; refine hhx.mono ?_; clear hhx; rintro z y4 ⟨rfl, hb4⟩; have J4 : Hid (Below w.heap.size w y4 ∧ Ob y4 gx (.slice (some ⟨gx, 0, none⟩) o.length C) o) := ⟨J3.out.1.trans (hb4.mono J3.out.1.size), Ob.below J3.out.2 hb4 (Nat.le_refl _)⟩; clear hb4 J3; have hrd := HR.out y4; rw [← HY.out] at hrd)
      | fail)
    go_upto_region 14 with (first
      | (go_at_call 28; refine hrd.mono ?_; clear hrd; rintro z y5 ⟨rfl, hb5⟩; have J5 : Hid (Below w.heap.size w y5 ∧ Ob y5 gx (.slice (some ⟨gx, 0, none⟩) o.length C) o) := ⟨J4.out.1.trans (hb5.mono J4.out.1.size), Ob.below J4.out.2 hb5 (Nat.le_refl _)⟩; clear hb5 J4)
      | fail)
    have hcb := Tryd.conv_bs (Ob.bs J5.out.2)
    rw [← HY.out] at hcb
    go_wp2
    go_ret
    exact ⟨rfl, J5.out.1⟩
  · have HF : Hid _ := h2
    have hrd := Tryd.refDec_any text (by have := Hss.out.2; omega)
    rw [Dg.decV_none h1] at hrd
    have HR : Hid _ := hrd
    clear hz h1 h2 hrd
    generalize (dec text.toList).2 = p at *
    have J0 : Hid (Below w.heap.size w x7 ∧ x7.heap[gf]? = some (.cells #[.int .i64 (p : Int), .int .i64 160] 54 (0, 0))) := ⟨H7.out, HF.out⟩
    clear H7 HF
    have hre := Tryd.refEnc_any s (by omega) x7
    rw [← HE.out] at hre
    go_upto_region 11 with (first
      | (go_at_call 25; refine hre.mono ?_; clear hre; rintro z y1 ⟨rfl, hb1⟩; have J1 : Hid (Below w.heap.size w y1 ∧ y1.heap[gf]? = some (.cells #[.int .i64 (p : Int), .int .i64 160] 54 (0, 0))) := ⟨J0.out.1.trans (hb1.mono J0.out.1.size), (hb1.block _ (block_lt J0.out.2)).trans J0.out.2⟩; clear hb1 J0; have hdc := Tryd.decodes_any text E (by have := Hss.out.2; omega) HEs.out y1)
      | (go_at_call 27; refine hdc.mono ?_; clear hdc; rintro z y2 ⟨rfl, hb2⟩; have J2 : Hid (Below w.heap.size w y2 ∧ y2.heap[gf]? = some (.cells #[.int .i64 (p : Int), .int .i64 160] 54 (0, 0))) := ⟨J1.out.1.trans (hb2.mono J1.out.1.size), (hb2.block _ (block_lt J1.out.2)).trans J1.out.2⟩; clear hb2 J1)
      | fail)
    have hen := Tryd.enc_any (Dg.bs_none1 y2) (fun k e => by cases e) (by simp)
    rw [Dg.enc_none] at hen
    go_upto_region 13 with (first
      | (go_at_call 10; refine hen.mono ?_; clear hen; rintro z y3 ⟨rfl, hb3⟩; have J3 : Hid (Below w.heap.size w y3 ∧ y3.heap[gf]? = some (.cells #[.int .i64 (p : Int), .int .i64 160] 54 (0, 0))) := ⟨J2.out.1.trans (hb3.mono J2.out.1.size), (hb3.block _ (block_lt J2.out.2)).trans J2.out.2⟩; clear hb3 J2; have hhx := Tryd.hex_any (Dg.bs_none1 y3) (fun k e => by cases e) (by simp); rw [Dg.hex_none1] at hhx)
      | (go_at_call 12; refine hhx.mono ?_; clear hhx; rintro z y4 ⟨rfl, hb4⟩; have J4 : Hid (Below w.heap.size w y4 ∧ y4.heap[gf]? = some (.cells #[.int .i64 (p : Int), .int .i64 160] 54 (0, 0))) := ⟨J3.out.1.trans (hb4.mono J3.out.1.size), (hb4.block _ (block_lt J3.out.2)).trans J3.out.2⟩; clear hb4 J3; have hrd := HR.out y4)
      | fail)
    go_upto_region 14 with (first
      | (go_at_call 28; refine hrd.mono ?_; clear hrd; rintro z y5 ⟨rfl, hb5⟩; have J5 : Hid (Below w.heap.size w y5 ∧ y5.heap[gf]? = some (.cells #[.int .i64 (p : Int), .int .i64 160] 54 (0, 0))) := ⟨J4.out.1.trans (hb5.mono J4.out.1.size), (hb5.block _ (block_lt J4.out.2)).trans J4.out.2⟩; clear hb5 J4)
      | fail)
    have hcb := Tryd.conv_bs (Dg.bs_none1 y5)
    have hta : (Instr.typeAssert (.iface 51 (.pointer (some ⟨gf, 0, none⟩))) 26 51 true).run Tryd.prog y5 = .ok (.tuple #[.pointer (some ⟨gf, 0, none⟩), .bool true]) y5 := by kernel_rfl
    have f1 : y5.cell? ⟨gf, 0, none⟩ = some (.int .i64 (p : Int)) := by rw [cell_of_row _ _ _ _ _ _ J5.out.2]; rfl
    have f2 : y5.cell? ⟨gf, 1, none⟩ = some (.int .i64 160) := by rw [cell_of_row _ _ _ _ _ _ J5.out.2]; rfl
    go_wp2
    go_ret
    exact ⟨rfl, J5.out.1⟩
end Go.Proofs
