/-
  DigestBack, walked.
-/
import Derived.Test.YtkfmfdnfjeofiaaDoorLawDSame
namespace Go.Proofs
open Go.RowKit Go.Wi Go.Dg
theorem Dg.enc_len (l : List UInt8) : 6 * (enc l).length ≤ 8 * l.length + 5 := by
  obtain ⟨vs, p, h1, _, h3, h4, _⟩ := enc_vals l
  rw [h1, List.length_map]
  omega
theorem Tryd.dec_back {w w' : World} {t : ByteArray} {l : List UInt8} {e : Ending} (ht : t.toList = enc l) (h : Tryd.DecOk w t.toList e w') : ∃ C, e = .returned (.tuple #[.slice (some ⟨w.heap.size, 0, none⟩) l.length C, .nilIface]) ∧ Ob w' w.heap.size (.slice (some ⟨w.heap.size, 0, none⟩) l.length C) l ∧ Below w.heap.size w w' := by
  rcases h.r with ⟨o, C, h1, h2, h3⟩ | ⟨g, h1, _⟩
  · rw [ht, dec_enc] at h1
    injection h1 with h1
    subst h1
    exact ⟨C, h2, h3, h.b⟩
  · rw [ht, dec_enc] at h1
    cases h1
theorem Dg.dec_some {t o : List UInt8} (h : (dec t).1 = some o) : enc o = t := enc_dec t o (dec t).2 (by rw [← h])
theorem Dg.not_back {t u : ByteArray} {l o : List UInt8} (ht : t.toList = enc l) (hu : u.size ≠ t.size) (h : (dec u.toList).1 = some o) : (o == l) = false := by
  have h1 := Dg.dec_some h
  have h2 : ¬ o = l := fun e => hu (by rw [← Dg.list_len, ← Dg.list_len t, ht, ← h1, e])
  simp [h2]
set_option maxRecDepth 20000 in
set_option maxHeartbeats 1000000 in
theorem Tryd.digestBackWalk (s : ByteArray) (hs : s.size ≤ 140737488351232) (text : ByteArray) (htx : text.size ≤ 140737488351232) (w : World) (hT : Tryd.Tq w) :
    Calls Tryd.prog 3 #[.string s, .string text] w fun e w' => e = .returned (.bool true) ∧ Below w.heap.size w w' := by
  have hsh := Tryd.shown_any w hT
  have hcv := Tryd.conv_sb2 s
  have Hsl : Hid (s.toList.length = s.size) := Dg.list_len s
  have Hsd : Hid (s.data.toList = s.toList) := (ByteArray.toList_eq s).symm
  obtain ⟨t, ht⟩ : ∃ t : ByteArray, t = ⟨(enc s.toList).toArray⟩ := ⟨_, rfl⟩
  have Htl : Hid (t.toList = enc s.toList) := (by show _ = _; rw [ht, Dg.of_list])
  have htz : t.size ≤ 200000000000000 := by
    have h1 := Dg.enc_len s.toList
    rw [Hsl.out] at h1
    rw [← Dg.list_len, Htl.out]
    omega
  have Ht : Hid (t = ⟨(enc s.toList).toArray⟩) := ht
  clear hT ht
  go_enter Tryd.func3, Tryd.ntmps3
  go_upto_region 5 with (first
    | (go_at_call 9; refine hsh.mono ?_; clear hsh; rintro z w1 ⟨rfl, hb1⟩; have HB1 : Hid _ := hb1; clear hb1; have hen := Tryd.enc_any (w := Lib.bytesWorld w1 5 s) (Ob.bs (Dg.bytesW_ob w1 5 s (Nat.le_refl _))) (fun k e => (Ob.lt (Dg.bytesW_ob w1 5 s (Nat.le_refl _)) k e).2) (by show 8 * s.size + 5 ≤ _; omega); rw [Hsd.out, ← Ht.out] at hen)
    | (go_at_call 10; refine hen.mono ?_; clear hen; rintro z w2 ⟨rfl, hb2⟩; have HB2 : Hid (Below w.heap.size w w2) := (HB1.out.trans ((Dg.bytesW_below w1 _ s).mono HB1.out.size)).trans (hb2.mono (by have := HB1.out.size; rw [Lib.bytesWorld_size]; omega)); clear hb2)
    | fail)
  have hd := Tryd.dec_any t (by omega) w2
  go_upto_region 6 with (first
    | (go_at_call 11; refine hd.mono ?_; clear hd; rintro z w3 h3; obtain ⟨C, rfl, ho3, hb3⟩ := Tryd.dec_back Htl.out h3; rw [Hsl.out] at ho3 ⊢; have HO3 : Hid _ := ho3; have HB3 : Hid (Below w.heap.size w w3) := HB2.out.trans (hb3.mono HB2.out.size); clear h3 ho3 hb3)
    | fail)
  have hcb := Tryd.conv_bs (Ob.bs HO3.out)
  have Hbk : Hid ((⟨s.toList.toArray⟩ : ByteArray) = s) := Dg.bytes_back s
  rw [Hbk.out] at hcb
  have hhx := Tryd.hex_any (w := Lib.bytesWorld w3 5 s) (Ob.bs (Dg.bytesW_ob w3 5 s (Nat.le_refl _))) (fun k e => (Ob.lt (Dg.bytesW_ob w3 5 s (Nat.le_refl _)) k e).2) (by show 2 * s.size ≤ _; omega)
  obtain ⟨X, hX⟩ : ∃ X : ByteArray, X = ⟨(hex s.data.toList).toArray⟩ := ⟨_, rfl⟩
  have hXs : X.size = 2 * s.size := by
    rw [hX]
    show (hex s.data.toList).length = _
    rw [Dg.hex_len]
    rfl
  rw [← hX] at hhx
  have hXi : (X.size : Int) = 2 * (s.size : Int) := by omega
  clear hX
  have q1 : (s.size : Int) ≤ 140737488351232 := by omega
  go_upto_region 8 with (first
    | (go_at_call 12; refine hhx.mono ?_; clear hhx; rintro z w4 ⟨rfl, hb4⟩; have HB4 : Hid (Below w.heap.size w w4) := (HB3.out.trans ((Dg.bytesW_below w3 _ s).mono HB3.out.size)).trans (hb4.mono (by have := HB3.out.size; rw [Lib.bytesWorld_size]; omega)); clear hb4)
    | fail)
  clear hcb HO3 HB3 hXi hXs
  have hd := Tryd.dec_any text (by omega) w4
  go_wp2_with (fail)
  refine hd.mono ?_
  clear hd
  rintro z w5 h5
  have HB5 : Hid (Below w.heap.size w w5) := HB4.out.trans (h5.b.mono HB4.out.size)
  have r3 : (t.size : Int) ≤ 200000000000000 := by omega
  have HU8 : Hid ((t ++ (⟨#[65]⟩ : ByteArray)).size ≠ t.size ∧ (t ++ (⟨#[65]⟩ : ByteArray)).size ≤ 300000000000000) := (by show _ ∧ _; rw [ByteArray.size_append]; show t.size + 1 ≠ t.size ∧ t.size + 1 ≤ _; omega)
  rcases h5.r with ⟨o, C5, h1, rfl, ho⟩ | ⟨g5, h1, rfl, hg5, hm5⟩
  · have HO : Hid _ := ho
    have He : Hid ((⟨(enc o).toArray⟩ : ByteArray) = text) := (by show _ = _; rw [Dg.dec_some h1]; exact Dg.bytes_back text)
    have hol : o.length ≤ 150000000000000 := by
      have h2 := Dg.enc_len o
      obtain ⟨vs, p, g1, _, g3, g4, _⟩ := enc_vals o
      have h3 := congrArg List.length (Dg.dec_some h1)
      rw [g1, List.length_map, Dg.list_len] at h3
      omega
    have hen := Tryd.enc_any (w := w5) (Ob.bs HO.out) (fun k e => (Ob.lt HO.out k e).2) (by omega)
    rw [He.out] at hen
    obtain ⟨L5, hL5⟩ : ∃ L5, L5 = o.length := ⟨_, rfl⟩
    rw [← hL5] at hen ⊢
    clear hL5 hol h1 h5 ho HO
    go_upto_region 11 with (first
      | (go_at_call 10; refine hen.mono ?_; clear hen; rintro z w6 ⟨rfl, hb6⟩; have HB6 : Hid (Below w.heap.size w w6) := HB5.out.trans (hb6.mono HB5.out.size); clear hb6)
      | fail)
    by_cases ht0 : 0 < t.size
    · have r0 : (0 : Int) < (t.size : Int) := by omega
      have r1 : (0 : Int) ≤ (t.size : Int) - 1 := by omega
      have r2 : (t.size : Int) - 1 ≤ (t.size : Int) := by omega
      have HU7 : Hid ((t.extract 0 (t.size - 1)).size ≠ t.size ∧ (t.extract 0 (t.size - 1)).size ≤ 300000000000000) := (by show _ ∧ _; rw [ByteArray.size_extract]; omega)
      have hd7 := Tryd.dec_any (t.extract 0 (t.size - 1)) HU7.out.2 w6
      go_wp2_with (fail)
      refine hd7.mono ?_
      clear hd7
      rintro z w7 h7
      have HB7 : Hid (Below w.heap.size w w7) := HB6.out.trans (h7.b.mono HB6.out.size)
      rcases h7.r with ⟨o7, C7, h1, rfl, ho⟩ | ⟨g7, h1, rfl, hg, hm⟩
      · have hcb := Tryd.conv_bs (Ob.bs ho)
        obtain ⟨D7, hD⟩ : ∃ D : ByteArray, D = ⟨o7.toArray⟩ := ⟨_, rfl⟩
        have hne : (D7.toList == s.toList) = false := by rw [hD, Dg.of_list]; exact Dg.not_back Htl.out HU7.out.1 h1
        rw [← hD] at hcb
        clear hD h1 h7 ho
        have hd8 := Tryd.dec_any (t ++ ⟨#[65]⟩) HU8.out.2 w7
        go_wp2_with (fail)
        refine hd8.mono ?_
        clear hd8
        rintro z w8 h8
        have HB8 : Hid (Below w.heap.size w w8) := HB7.out.trans (h8.b.mono HB7.out.size)
        rcases h8.r with ⟨o8, C8, h1, rfl, ho⟩ | ⟨g8, h1, rfl, hg, hm⟩
        · have hcb := Tryd.conv_bs (Ob.bs ho)
          obtain ⟨D8, hD⟩ : ∃ D : ByteArray, D = ⟨o8.toArray⟩ := ⟨_, rfl⟩
          have hne : (D8.toList == s.toList) = false := by rw [hD, Dg.of_list]; exact Dg.not_back Htl.out HU8.out.1 h1
          rw [← hD] at hcb
          clear hD h1 h8 ho
          go_wp2_with (fail)
          go_ret
          exact ⟨rfl, HB8.out⟩
        · clear h1 h8 hg hm
          go_wp2_with (fail)
          go_ret
          exact ⟨rfl, HB8.out⟩
      · clear h1 h7 hg hm
        have hd8 := Tryd.dec_any (t ++ ⟨#[65]⟩) HU8.out.2 w7
        go_wp2_with (fail)
        refine hd8.mono ?_
        clear hd8
        rintro z w8 h8
        have HB8 : Hid (Below w.heap.size w w8) := HB7.out.trans (h8.b.mono HB7.out.size)
        rcases h8.r with ⟨o8, C8, h1, rfl, ho⟩ | ⟨g8, h1, rfl, hg, hm⟩
        · have hcb := Tryd.conv_bs (Ob.bs ho)
          obtain ⟨D8, hD⟩ : ∃ D : ByteArray, D = ⟨o8.toArray⟩ := ⟨_, rfl⟩
          have hne : (D8.toList == s.toList) = false := by rw [hD, Dg.of_list]; exact Dg.not_back Htl.out HU8.out.1 h1
          rw [← hD] at hcb
          clear hD h1 h8 ho
          go_wp2_with (fail)
          go_ret
          exact ⟨rfl, HB8.out⟩
        · clear h1 h8 hg hm
          go_wp2_with (fail)
          go_ret
          exact ⟨rfl, HB8.out⟩
    · have r0 : ¬ (0 : Int) < (t.size : Int) := by omega
      have hd8 := Tryd.dec_any (t ++ ⟨#[65]⟩) HU8.out.2 w6
      go_wp2_with (fail)
      refine hd8.mono ?_
      clear hd8
      rintro z w8 h8
      have HB8 : Hid (Below w.heap.size w w8) := HB6.out.trans (h8.b.mono HB6.out.size)
      rcases h8.r with ⟨o8, C8, h1, rfl, ho⟩ | ⟨g8, h1, rfl, hg, hm⟩
      · have hcb := Tryd.conv_bs (Ob.bs ho)
        obtain ⟨D8, hD⟩ : ∃ D : ByteArray, D = ⟨o8.toArray⟩ := ⟨_, rfl⟩
        have hne : (D8.toList == s.toList) = false := by rw [hD, Dg.of_list]; exact Dg.not_back Htl.out HU8.out.1 h1
        rw [← hD] at hcb
        clear hD h1 h8 ho
        go_wp2_with (fail)
        go_ret
        exact ⟨rfl, HB8.out⟩
      · clear h1 h8 hg hm
        go_wp2_with (fail)
        go_ret
        exact ⟨rfl, HB8.out⟩
  · clear h1 h5 hm5
    go_upto_region 11 with (fail)
    have HB6 := HB5
    clear HB5
    by_cases ht0 : 0 < t.size
    · have r0 : (0 : Int) < (t.size : Int) := by omega
      have r1 : (0 : Int) ≤ (t.size : Int) - 1 := by omega
      have r2 : (t.size : Int) - 1 ≤ (t.size : Int) := by omega
      have HU7 : Hid ((t.extract 0 (t.size - 1)).size ≠ t.size ∧ (t.extract 0 (t.size - 1)).size ≤ 300000000000000) := (by show _ ∧ _; rw [ByteArray.size_extract]; omega)
      have hd7 := Tryd.dec_any (t.extract 0 (t.size - 1)) HU7.out.2 w5
      go_wp2_with (fail)
      refine hd7.mono ?_
      clear hd7
      rintro z w7 h7
      have HB7 : Hid (Below w.heap.size w w7) := HB6.out.trans (h7.b.mono HB6.out.size)
      rcases h7.r with ⟨o7, C7, h1, rfl, ho⟩ | ⟨g7, h1, rfl, hg, hm⟩
      · have hcb := Tryd.conv_bs (Ob.bs ho)
        obtain ⟨D7, hD⟩ : ∃ D : ByteArray, D = ⟨o7.toArray⟩ := ⟨_, rfl⟩
        have hne : (D7.toList == s.toList) = false := by rw [hD, Dg.of_list]; exact Dg.not_back Htl.out HU7.out.1 h1
        rw [← hD] at hcb
        clear hD h1 h7 ho
        have hd8 := Tryd.dec_any (t ++ ⟨#[65]⟩) HU8.out.2 w7
        go_wp2_with (fail)
        refine hd8.mono ?_
        clear hd8
        rintro z w8 h8
        have HB8 : Hid (Below w.heap.size w w8) := HB7.out.trans (h8.b.mono HB7.out.size)
        rcases h8.r with ⟨o8, C8, h1, rfl, ho⟩ | ⟨g8, h1, rfl, hg, hm⟩
        · have hcb := Tryd.conv_bs (Ob.bs ho)
          obtain ⟨D8, hD⟩ : ∃ D : ByteArray, D = ⟨o8.toArray⟩ := ⟨_, rfl⟩
          have hne : (D8.toList == s.toList) = false := by rw [hD, Dg.of_list]; exact Dg.not_back Htl.out HU8.out.1 h1
          rw [← hD] at hcb
          clear hD h1 h8 ho
          go_wp2_with (fail)
          go_ret
          exact ⟨rfl, HB8.out⟩
        · clear h1 h8 hg hm
          go_wp2_with (fail)
          go_ret
          exact ⟨rfl, HB8.out⟩
      · clear h1 h7 hg hm
        have hd8 := Tryd.dec_any (t ++ ⟨#[65]⟩) HU8.out.2 w7
        go_wp2_with (fail)
        refine hd8.mono ?_
        clear hd8
        rintro z w8 h8
        have HB8 : Hid (Below w.heap.size w w8) := HB7.out.trans (h8.b.mono HB7.out.size)
        rcases h8.r with ⟨o8, C8, h1, rfl, ho⟩ | ⟨g8, h1, rfl, hg, hm⟩
        · have hcb := Tryd.conv_bs (Ob.bs ho)
          obtain ⟨D8, hD⟩ : ∃ D : ByteArray, D = ⟨o8.toArray⟩ := ⟨_, rfl⟩
          have hne : (D8.toList == s.toList) = false := by rw [hD, Dg.of_list]; exact Dg.not_back Htl.out HU8.out.1 h1
          rw [← hD] at hcb
          clear hD h1 h8 ho
          go_wp2_with (fail)
          go_ret
          exact ⟨rfl, HB8.out⟩
        · clear h1 h8 hg hm
          go_wp2_with (fail)
          go_ret
          exact ⟨rfl, HB8.out⟩
    · have r0 : ¬ (0 : Int) < (t.size : Int) := by omega
      have hd8 := Tryd.dec_any (t ++ ⟨#[65]⟩) HU8.out.2 w5
      go_wp2_with (fail)
      refine hd8.mono ?_
      clear hd8
      rintro z w8 h8
      have HB8 : Hid (Below w.heap.size w w8) := HB6.out.trans (h8.b.mono HB6.out.size)
      rcases h8.r with ⟨o8, C8, h1, rfl, ho⟩ | ⟨g8, h1, rfl, hg, hm⟩
      · have hcb := Tryd.conv_bs (Ob.bs ho)
        obtain ⟨D8, hD⟩ : ∃ D : ByteArray, D = ⟨o8.toArray⟩ := ⟨_, rfl⟩
        have hne : (D8.toList == s.toList) = false := by rw [hD, Dg.of_list]; exact Dg.not_back Htl.out HU8.out.1 h1
        rw [← hD] at hcb
        clear hD h1 h8 ho
        go_wp2_with (fail)
        go_ret
        exact ⟨rfl, HB8.out⟩
      · clear h1 h8 hg hm
        go_wp2_with (fail)
        go_ret
        exact ⟨rfl, HB8.out⟩
end Go.Proofs
