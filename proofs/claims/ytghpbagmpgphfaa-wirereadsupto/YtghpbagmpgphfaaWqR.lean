/-
  reads: one thing, by the program's reader and the document's.
-/
import Derived.Test.YtghpbagmpgphfaaWqP
import Derived.Test.YtghpbagmpgphfaaVm
import Derived.Deep.DeepCutAuto
namespace Go.Proofs
open Go.RowKit Go.Wi
def Wi.thV (p : Wi.Th) : Value := .agg #[.int .i64 p.k, .int .i64 p.n, .bool p.y, .string p.s, p.lv]
/-- What a reader is behind one thing. -/
def Wi.aft (p : Wi.Th) (s : Rs) : Rs :=
  if Wi.kd p.k = 0 then s.int.2 else if Wi.kd p.k = 1 then s.flag.2 else if Wi.kd p.k = 2 then s.text.2 else (Wi.nums (Wi.many s p.n).1 [] (Wi.many s p.n).2).2
theorem Try.Zw.ends {B : Nat} {w0 w : World} {r x q y b : Nat} {s s3 s4 : Rs} {N : Nat} {v : Value} {li : List Int} {v2 : Value} {li2 : List Int} (h : Try.Zw B w0 w r x q y b s s s3 s4 N v li v2 li2) (hN : N ≤ 1000000) :
    (Calls Try.prog 18 #[.pointer (some ⟨r, 0, none⟩)] w fun e w' => e = .returned (.bool s.fin) ∧ Try.Zw B w0 w' r x q y b s s s3 s4 N v li v2 li2) ∧ (Calls Try.prog 29 #[.pointer (some ⟨x, 0, none⟩)] w fun e w' => e = .returned (.bool s.fin) ∧ Try.Zw B w0 w' r x q y b s s s3 s4 N v li v2 li2) ∧ (Calls Try.prog 28 #[.pointer (some ⟨b, 0, .none⟩)] w fun e w' => e = .returned (.bool true) ∧ Try.Zw B w0 w' r x q y b s s s3 s4 N v li v2 li2) := by
  obtain ⟨tag, g⟩ := h.ex
  exact ⟨(Try.end_any g.r).mono fun _ _ ⟨e1, n, e2⟩ => ⟨e1, by rw [e2]; exact h.drewN n⟩, (Try.xEnd_any g.x).mono fun _ _ ⟨e1, n, e2⟩ => ⟨e1, by rw [e2]; exact h.drewN n⟩, (g.k.looks hN).mono fun _ _ ⟨e1, n, e2⟩ => ⟨e1, by rw [e2]; exact h.drewN n⟩⟩
theorem Try.Zw.many {B : Nat} {w0 w : World} {r x q y b : Nat} {s1 s s3 s4 sm : Rs} {N nn : Nat} {v : Value} {li : List Int} {v2 : Value} {li2 : List Int} (h : Try.Zw B w0 w r x q y b s1 s s3 s4 N v li v2 li2) (n : Int) (hn : In64 n) (hM : Wi.many s n = (nn, sm)) :
    Calls Try.prog 26 #[.pointer (some ⟨x, 0, none⟩), .int .i64 n] w fun e w' => (∃ ok, e = .returned (.tuple #[.int .i64 (nn : Nat), .bool ok])) ∧ Try.Zw B w0 w' r x q y b s1 sm s3 s4 N v li v2 li2 := by
  have h1 := h.xcall (s' := (Wi.many s n).2) fun own ho => Try.xMany_any ho n hn.1 hn.2
  rw [hM] at h1
  exact h1
theorem Try.Zw.badAt {B : Nat} {w0 w : World} {r x q y b : Nat} {s1 s s3 s4 : Rs} {N : Nat} {v : Value} {li : List Int} {v2 : Value} {li2 : List Int} (h : Try.Zw B w0 w r x q y b s1 s s3 s4 N v li v2 li2) : w.cell? ⟨x, 2, none⟩ = some (.int .i64 (bad s.f)) := by
  obtain ⟨tag, g⟩ := h.ex
  obtain ⟨V, hx, -⟩ := g.x.ex
  exact cell_of_row w x 2 _ _ _ hx
theorem Try.Zw.two {B : Nat} {w0 w : World} {r x q y b : Nat} {s1 s s3 s4 : Rs} {N : Nat} {v : Value} {li : List Int} {v2 : Value} (h : Try.Zw B w0 w r x q y b s1 s s3 s4 N v li v2 li) (hl : li.length ≤ 9223372036854775807) : Wi.Ns w v li ∧ Wi.Ns w v2 li := by
  obtain ⟨tag, g⟩ := h.ex
  exact ⟨Try.Ns_row g.row.1 hl, Try.Ns_row g.row2.1 hl⟩
theorem Try.Zw.inn {B : Nat} {w0 w : World} {r x q y b : Nat} {s1 s s3 s4 : Rs} {N : Nat} {v : Value} {li : List Int} {v2 : Value} {li2 : List Int} (h : Try.Zw B w0 w r x q y b s1 s s3 s4 N v li v2 li2) : s.In := by
  obtain ⟨tag, g⟩ := h.ex
  exact g.x.inn
set_option maxRecDepth 4000 in
set_option maxHeartbeats 4000000 in
theorem Try.reads_any {B : Nat} {w0 w : World} {r x q y b : Nat} {s s3 s4 : Rs} {N : Nat} (h : Try.Zw B w0 w r x q y b s s s3 s4 N (.slice none 0 0) [] (.slice none 0 0) []) (p : Wi.Th) (hk : In64 p.k) (hn : In64 p.n) (hlv : ∃ a n c, p.lv = .slice a n c) (hN : N ≤ 100000) (hl : s.t.length ≤ 1000000000) :
    Calls Try.prog 7 #[.pointer (some ⟨r, 0, none⟩), .pointer (some ⟨x, 0, none⟩), Wi.thV p, .pointer (some ⟨b, 0, none⟩)] w fun e w' => e = .returned (.bool true) ∧ ∃ N', N' ≤ N + 4 ∧ Try.Zw B w0 w' r x q y b (Wi.aft p s) (Wi.aft p s) s3 s4 N' (.slice none 0 0) [] (.slice none 0 0) [] := by
  obtain ⟨k, n, yy, t, lv⟩ := p
  obtain ⟨ad, lm, cap, e⟩ := hlv
  simp only at e
  subst e
  simp only [Wi.thV]
  have Hin : Hid s.In := h.inn
  have Hk : Hid (In64 k) := hk
  have Hn : Hid (In64 n) := hn
  have HN : Hid (N ≤ 100000) := hN
  have Hl : Hid (s.t.length ≤ 1000000000) := hl
  have hbox : ∀ W : World, W = w.alloc (.cells #[.int .i64 k, .int .i64 n, .bool yy, .string t, .slice ad lm cap] 36) → Below w.heap.size w W ∧ W.heap[w.heap.size]? = some (.cells #[.int .i64 k, .int .i64 n, .bool yy, .string t, .slice ad lm cap] 36 (0, 0)) := fun W hW => by
    subst hW
    exact ⟨(Below.refl _ w).alloc (Nat.le_refl _) _, heap_alloc_new w _⟩
  obtain ⟨hb0, hc0⟩ := hbox _ rfl
  have hkd := Try.kind_any k n yy t ad lm cap (w.alloc (.cells #[.int .i64 k, .int .i64 n, .bool yy, .string t, .slice ad lm cap] 36)) hk
  have hW4 : ∀ W, Below (w.alloc (.cells #[.int .i64 k, .int .i64 n, .bool yy, .string t, .slice ad lm cap] 36)).heap.size (w.alloc (.cells #[.int .i64 k, .int .i64 n, .bool yy, .string t, .slice ad lm cap] 36)) W → Try.Zw B w0 W r x q y b s s s3 s4 N (.slice none 0 0) [] (.slice none 0 0) [] ∧ W.heap[w.heap.size]? = some (.cells #[.int .i64 k, .int .i64 n, .bool yy, .string t, .slice ad lm cap] 36 (0, 0)) := fun W hW =>
    ⟨(h.below hb0).below hW, (hW.block _ (block_lt hc0)).trans hc0⟩
  clear hbox hb0 hc0 hk hn hN hl h
  have hkl : Wi.kd k < 4 := Nat.mod_lt _ (by decide)
  have hk4 : Wi.kd k = 0 ∨ Wi.kd k = 1 ∨ Wi.kd k = 2 ∨ Wi.kd k = 3 := by omega
  clear hkl
  obtain ⟨s', hs'⟩ : ∃ s', s' = Wi.aft ⟨k, n, yy, t, .slice ad lm cap⟩ s := ⟨_, rfl⟩
  rw [← hs']
  go_enter Try.func7, Try.ntmps7
  rcases hk4 with e | e | e | e
  · rw [e] at hkd
    have Hs : Hid (s' = s.int.2) := by
      show _ = _
      rw [hs']; unfold Wi.aft; simp only [e]; rfl
    clear e hs'
    go_wp2_with (first
      | (go_at_call 20; refine hkd.mono ?_; clear hkd; rintro e w4 ⟨rfl, hb4⟩; obtain ⟨hZ4, -⟩ := hW4 w4 hb4; have h4 := hZ4.rcall (fun own ho => Try.rInt_any ho); clear hZ4)
      | (go_at_call 15; refine h4.mono ?_; clear h4; rintro e w5 ⟨rfl, hZ5⟩; have h5 := hZ5.xcall (fun own ho => Try.xInt_any ho); clear hZ5)
      | (go_at_call 21; refine h5.mono ?_; clear h5; rintro e w6 ⟨rfl, hZ6⟩; have hE := (hZ6.ends (by have := HN.out; omega)).1)
      | (go_at_call 18; refine hE.mono ?_; clear hE; rintro e w7 ⟨rfl, hZ7⟩; clear hZ6; have hL := (hZ7.ends (by have := HN.out; omega)).2.2)
      | (go_at_call 28; refine hL.mono ?_; clear hL; rintro e w8 ⟨rfl, hZ8⟩; clear hZ7; have hX := (hZ8.ends (by have := HN.out; omega)).2.1)
      | (go_at_call 29; refine hX.mono ?_; clear hX; rintro e w9 ⟨rfl, hZ9⟩; clear hZ8)
      | fail)
    go_ret
    exact ⟨by simp, N, by omega, by rw [Hs.out]; exact hZ9⟩
  · rw [e] at hkd
    have Hs : Hid (s' = s.flag.2) := by
      show _ = _
      rw [hs']; unfold Wi.aft; simp only [e]; rfl
    clear e hs'
    go_wp2_with (first
      | (go_at_call 20; refine hkd.mono ?_; clear hkd; rintro e w4 ⟨rfl, hb4⟩; obtain ⟨hZ4, -⟩ := hW4 w4 hb4; have h4 := hZ4.rcall (fun own ho => Try.rFlag_any ho); clear hZ4)
      | (go_at_call 17; refine h4.mono ?_; clear h4; rintro e w5 ⟨rfl, hZ5⟩; have h5 := hZ5.xcall (fun own ho => Try.xFlag_any ho); clear hZ5)
      | (go_at_call 22; refine h5.mono ?_; clear h5; rintro e w6 ⟨rfl, hZ6⟩; have hE := (hZ6.ends (by have := HN.out; omega)).1)
      | (go_at_call 18; refine hE.mono ?_; clear hE; rintro e w7 ⟨rfl, hZ7⟩; clear hZ6; have hL := (hZ7.ends (by have := HN.out; omega)).2.2)
      | (go_at_call 28; refine hL.mono ?_; clear hL; rintro e w8 ⟨rfl, hZ8⟩; clear hZ7; have hX := (hZ8.ends (by have := HN.out; omega)).2.1)
      | (go_at_call 29; refine hX.mono ?_; clear hX; rintro e w9 ⟨rfl, hZ9⟩; clear hZ8)
      | fail)
    go_ret
    exact ⟨by simp, N, by omega, by rw [Hs.out]; exact hZ9⟩
  · rw [e] at hkd
    have Hs : Hid (s' = s.text.2) := by
      show _ = _
      rw [hs']; unfold Wi.aft; simp only [e]; rfl
    clear e hs'
    go_wp2_with (first
      | (go_at_call 20; refine hkd.mono ?_; clear hkd; rintro e w4 ⟨rfl, hb4⟩; obtain ⟨hZ4, -⟩ := hW4 w4 hb4; have h4 := hZ4.rcall (fun own ho => Try.rText_any ho); clear hZ4)
      | (go_at_call 16; refine h4.mono ?_; clear h4; rintro e w5 ⟨rfl, hZ5⟩; have h5 := hZ5.xcall (fun own ho => Try.xText_any ho); clear hZ5)
      | (go_at_call 23; refine h5.mono ?_; clear h5; rintro e w6 ⟨rfl, hZ6⟩; have hE := (hZ6.ends (by have := HN.out; omega)).1)
      | (go_at_call 18; refine hE.mono ?_; clear hE; rintro e w7 ⟨rfl, hZ7⟩; clear hZ6; have hL := (hZ7.ends (by have := HN.out; omega)).2.2)
      | (go_at_call 28; refine hL.mono ?_; clear hL; rintro e w8 ⟨rfl, hZ8⟩; clear hZ7; have hX := (hZ8.ends (by have := HN.out; omega)).2.1)
      | (go_at_call 29; refine hX.mono ?_; clear hX; rintro e w9 ⟨rfl, hZ9⟩; clear hZ8)
      | fail)
    go_ret
    exact ⟨by simp, N, by omega, by rw [Hs.out]; exact hZ9⟩
  · rw [e] at hkd
    have Hlist : Hid (s' = (Wi.nums (Wi.many s n).1 [] (Wi.many s n).2).2) := by
      show _ = _
      rw [hs']; unfold Wi.aft; simp only [e]; rfl
    clear e hs'
    obtain ⟨m1, m2, m3, m4⟩ := Wi.many_on s n Hin.out
    obtain ⟨M, hM⟩ : ∃ M, M = Wi.many s n := ⟨_, rfl⟩
    obtain ⟨nn, sm⟩ := M
    rw [← hM] at m1 m2 m3 m4 Hlist
    simp only at m1 m2 m3 m4
    have hN2 := Wi.gath_nums nn [] sm (by cases hq : sm.f with | none => exact .inl rfl | some a => exact .inr ⟨m4 (by rw [hq]; rfl), rfl⟩)
    obtain ⟨G, hG⟩ : ∃ G, G = Wi.gath nn [] sm := ⟨_, rfl⟩
    rw [← hG] at hN2
    have HS : Hid (s' = G.2) := by show _ = _; rw [Hlist.out]; simp only [hN2]
    obtain ⟨ls, hls⟩ : ∃ ls, ls = (Wi.nums nn [] sm).1 := ⟨_, rfl⟩
    have HL : Hid (ls = if G.2.f.isSome then [] else G.1) := by show _ = _; rw [hls, hN2]
    have hnn : nn ≤ 9223372036854775807 := by have := Hn.out.2; omega
    have HM : Hid ((ls, s') = Wi.nums (Wi.many s n).1 [] (Wi.many s n).2) := by
      show _ = _
      rw [← hM, hls, Hlist.out]
    have HM2 : Hid (Wi.many s n = (nn, sm)) := hM.symm
    have HG0 : Hid (G = Wi.gath nn [] sm) := hG
    have Hm1 : Hid (sm.In ∧ sm.t = s.t) := ⟨m1, m2⟩
    clear hG hls hN2 hM m1 m2 m3 m4 Hlist
    go_upto_region 5 with (first
      | (go_at_call 20; refine hkd.mono ?_; clear hkd; rintro e w4 ⟨rfl, hb4⟩; obtain ⟨hZ4, hx4⟩ := hW4 w4 hb4; have c1 := cell_of_row w4 _ 1 _ _ _ hx4; clear hx4; have h4 := hZ4.list n Hn.out (by have := Hl.out; omega) (ls := ls) (s' := s') HM.out)
      | (go_at_call 24; refine h4.mono ?_; clear h4; rintro e w5 ⟨ad1, cap1, rfl, hZ5⟩)
      | fail)
    have h5 := hZ5.many n Hn.out HM2.out
    clear hZ5
    go_upto_region 7 with (first
      | (go_at_call 26; refine h5.mono ?_; clear h5; rintro e w6 ⟨⟨ok6, rfl⟩, hZ6⟩)
      | fail)
    have HZ6 : Hid (Try.Zw B w0 w6 r x q y b s' sm s3 s4 N (.slice ad1 ls.length cap1) ls (.slice none 0 0) []) := hZ6
    clear hZ6
    go_upto_region 8 with fail
    go_loopw [17, 18] (fun mm i wr => ∃ (j : Nat) (a2 : Option Addr) (c2 : Nat) (li2 : List Int) (sx : Rs), j ≤ nn ∧ i = .int .i64 j ∧ mm = .slice a2 j c2 ∧ li2.length = j ∧ G = Wi.gath (nn - j) li2 sx ∧ sx.In ∧ sx.t = s.t ∧ j ≤ s.t.length + 1 ∧ (sx.f = none → j ≤ sx.p) ∧ Try.Zw B w0 wr r x q y b s' sx s3 s4 N (.slice ad1 ls.length cap1) ls (.slice a2 j c2) li2) (fun _ i _ => nn - (intOf i).toNat)
    case atStart => exact ⟨0, none, 0, [], sm, Nat.zero_le _, rfl, rfl, rfl, HG0.out, Hm1.out.1, Hm1.out.2, Nat.zero_le _, fun _ => Nat.zero_le _, HZ6.out⟩
    case round =>
      obtain ⟨j, a2, c2, li2, sx, hj, rfl, rfl, hl2, hGj, hIn, htt, hjb, hjp, hZ⟩ := hrel
      clear HZ6 HG0 Hm1
      by_cases hjn : j < nn
      · have q0 : (j : Int) < (nn : Int) := by omega
        cases hf : sx.f with
        | none =>
          obtain ⟨i1, i2, i3, i4⟩ := Wi.int_on sx hIn
          have HGs : Hid (G = Wi.gath (nn - (j + 1)) (li2 ++ [sx.int.1]) sx.int.2) := by
            show _ = _
            rw [hGj, show nn - j = (nn - (j + 1)) + 1 by omega]
            show (if sx.f.isSome then _ else _) = _
            rw [hf]; rfl
          have Hl2 : Hid (li2.length = j) := hl2
          have Hi : Hid (sx.int.2.In ∧ sx.int.2.t = s.t) := ⟨i1, i2.trans htt⟩
          have hjp0 := hjp hf
          have hpt : sx.p ≤ s.t.length := by have h7 : sx.p ≤ sx.t.length := hIn; rw [htt] at h7; exact h7
          have Hjp : Hid (sx.int.2.f = none → j + 1 ≤ sx.int.2.p) := fun e => by have := (i4 e).2; omega
          have Hj : Hid (j + 1 ≤ s.t.length + 1) := by show _ ≤ _; omega
          have hc : wr.cell? ⟨x, 2, none⟩ = some (.int .i64 (-1)) := by have := hZ.badAt; rw [hf] at this; exact this
          have h8 := hZ.xcall (fun own ho => Try.xInt_any ho)
          clear hZ hIn htt hjb hjp hGj hf i1 i2 i3 i4 hl2 hjp0 hpt
          generalize sx.int.1 = v3 at *
          generalize sx.int.2 = s5 at *
          go_wp2_with (first
            | (go_at_call 21; refine h8.mono ?_; clear h8; rintro e w7 ⟨rfl, hZ7⟩)
            | (at_builtin; refine Try.appZ rfl _ _ rfl hZ7 rfl rfl v3 (by rw [Hl2.out]; have := Hj.out; have := Hl.out; omega) ?_; intro a7 c7 w8 hZ8; rw [Hl2.out] at hZ8 ⊢)
            | fail)
          go_roundw
          case rel => exact ⟨j + 1, a7, c7, li2 ++ [v3], s5, by omega, by go_num, rfl, by rw [List.length_append, Hl2.out]; rfl, HGs.out, Hi.out.1, Hi.out.2, Hj.out, Hjp.out, hZ8⟩
          case measure => simp [intOf]; omega
        | some a =>
          have hGf := hf
          have HG : Hid (G = (li2, sx)) := by show _ = _; rw [hGj, Wi.gath_bad _ _ _ (by rw [hf]; rfl)]
          have Hb : Hid (li2.length ≤ s.t.length + 1) := by show _ ≤ _; omega
          clear hf hGj hIn htt hjb hjp hl2
          have hc : wr.cell? ⟨x, 2, none⟩ = some (.int .i64 (a : Int)) := by have := hZ.badAt; rw [hGf] at this; exact this
          have q5 : (0 : Int) ≤ (a : Int) := by omega
          have q6 : ¬ (a : Int) < 0 := by omega
          have e3 : ls = [] := by rw [HL.out, HG.out]; simp [hGf]
          subst e3
          have e4 : sx = s' := by rw [HS.out, HG.out]
          subst e4
          obtain ⟨s', hss⟩ : ∃ s', s' = sx := ⟨_, rfl⟩
          subst hss
          have HZm : Hid (Try.Zw B w0 wr r x q y b s' s' s3 s4 N (.slice ad1 0 cap1) [] (.slice none 0 0) []) := hZ.bare
          clear hZ HG HL HS hGf
          go_upto_region 15 with fail
          go_loopw [9, 19] (fun ok i wx => i = .int .i64 0 ∧ ok = .bool true ∧ Try.Zw B w0 wx r x q y b s' s' s3 s4 N (.slice ad1 0 cap1) [] (.slice none 0 0) []) (fun _ _ _ => 0)
          case atStart => exact ⟨rfl, rfl, HZm.out⟩
          case round =>
            obtain ⟨rfl, rfl, hZ⟩ := hrel
            clear HZm
            have h7 := Try.Zw.comes (ls := []) hZ (by have := HN.out; omega) (Nat.zero_le _)
            have h7 : Calls _ _ #[_, .slice ad1 0 cap1] _ _ := h7
            clear hZ
            go_wp2_with (first
              | (go_at_call 27; refine h7.mono ?_; clear h7; rintro e w6 ⟨rfl, hZ6⟩; have hE := (hZ6.ends (by have := HN.out; omega)).1)
              | (go_at_call 18; refine hE.mono ?_; clear hE; rintro e w7 ⟨rfl, hZ7⟩; clear hZ6; have hL := (hZ7.ends (by have := HN.out; omega)).2.2)
              | (go_at_call 28; refine hL.mono ?_; clear hL; rintro e w8 ⟨rfl, hZ8⟩; clear hZ7; have hX := (hZ8.ends (by have := HN.out; omega)).2.1)
              | (go_at_call 29; refine hX.mono ?_; clear hX; rintro e w9 ⟨rfl, hZ9⟩; clear hZ8)
              | fail)
            go_ret
            exact ⟨by simp, N + 4, by omega, hZ9⟩
      · have q0 : ¬ (j : Int) < (nn : Int) := by omega
        have HG : Hid (G = (li2, sx)) := by show _ = _; rw [hGj, show nn - j = 0 by omega]; rfl
        have Hb : Hid (li2.length ≤ s.t.length + 1) := by show _ ≤ _; omega
        clear hGj hIn htt hjb hjp
        cases hGf : sx.f with
        | none =>
          have hc : wr.cell? ⟨x, 2, none⟩ = some (.int .i64 (-1)) := by have := hZ.badAt; rw [hGf] at this; exact this
          have e3 : li2 = ls := by rw [HL.out, HG.out]; simp [hGf]
          subst e3
          have e4 : sx = s' := by rw [HS.out, HG.out]
          subst e4
          have Hls : Hid (li2.length ≤ 1000000002) := by show _ ≤ _; have := Hb.out; have := Hl.out; omega
          obtain rfl := hl2
          obtain ⟨ls, hls⟩ : ∃ ls, ls = li2 := ⟨_, rfl⟩
          subst hls
          obtain ⟨s', hss⟩ : ∃ s', s' = sx := ⟨_, rfl⟩
          subst hss
          obtain ⟨am, ham⟩ : ∃ am, am = a2 := ⟨_, rfl⟩
          subst ham
          obtain ⟨cm, hcm⟩ : ∃ cm, cm = c2 := ⟨_, rfl⟩
          subst hcm
          have HZm : Hid (Try.Zw B w0 wr r x q y b s' s' s3 s4 N (.slice ad1 ls.length cap1) ls (.slice am ls.length cm) ls) := hZ
          clear hZ HG HL HS hGf
          go_upto_region 15 with fail
          go_loopw [9, 19] (fun ok i wx => ∃ j : Nat, j ≤ ls.length ∧ i = .int .i64 j ∧ ok = .bool true ∧ Try.Zw B w0 wx r x q y b s' s' s3 s4 N (.slice ad1 ls.length cap1) ls (.slice am ls.length cm) ls) (fun _ i _ => ls.length - (intOf i).toNat)
          case atStart => exact ⟨0, Nat.zero_le _, rfl, rfl, HZm.out⟩
          case round =>
            obtain ⟨j, hj, rfl, rfl, hZ⟩ := hrel
            clear HZm
            by_cases hjl : j < ls.length
            · have q0 : (j : Int) < (ls.length : Int) := by omega
              obtain ⟨N1, N2⟩ := hZ.two (by have := Hls.out; omega)
              have HZ : Hid (Try.Zw B w0 _ r x q y b s' s' s3 s4 N (.slice ad1 ls.length cap1) ls (.slice am ls.length cm) ls) := hZ
              obtain ⟨a1, k1, e1, -, g1⟩ := N1.ex
              obtain ⟨a2, k2, e2, -, g2⟩ := N2.ex
              have e1 : ad1 = a1 := by injection e1
              have e2 : am = a2 := by injection e2
              subst e1
              subst e2
              obtain ⟨p1, o1, rfl, c1⟩ := g1 j hjl
              obtain ⟨p2, o2, rfl, c2⟩ := g2 j hjl
              clear g1 g2 hZ
              generalize ls[j] = xx at *
              go_wp2
              go_quiet (fail)
              go_wp2
              go_roundw
              case rel => exact ⟨j + 1, by omega, by go_num, by simp, HZ.out.drewN _⟩
              case measure => simp [intOf]; omega
            · have q0 : ¬ (j : Int) < (ls.length : Int) := by omega
              have h7 := hZ.bare.comes (by have := HN.out; omega) (by have := Hls.out; omega)
              clear hZ
              go_wp2_with (first
                | (go_at_call 27; refine h7.mono ?_; clear h7; rintro e w6 ⟨rfl, hZ6⟩; have hE := (hZ6.ends (by have := HN.out; omega)).1)
                | (go_at_call 18; refine hE.mono ?_; clear hE; rintro e w7 ⟨rfl, hZ7⟩; clear hZ6; have hL := (hZ7.ends (by have := HN.out; omega)).2.2)
                | (go_at_call 28; refine hL.mono ?_; clear hL; rintro e w8 ⟨rfl, hZ8⟩; clear hZ7; have hX := (hZ8.ends (by have := HN.out; omega)).2.1)
                | (go_at_call 29; refine hX.mono ?_; clear hX; rintro e w9 ⟨rfl, hZ9⟩; clear hZ8)
                | fail)
              go_ret
              exact ⟨by simp, N + 4, by omega, hZ9⟩
        | some a =>
          have hc : wr.cell? ⟨x, 2, none⟩ = some (.int .i64 (a : Int)) := by have := hZ.badAt; rw [hGf] at this; exact this
          have q5 : (0 : Int) ≤ (a : Int) := by omega
          have q6 : ¬ (a : Int) < 0 := by omega
          have e3 : ls = [] := by rw [HL.out, HG.out]; simp [hGf]
          subst e3
          have e4 : sx = s' := by rw [HS.out, HG.out]
          subst e4
          obtain ⟨s', hss⟩ : ∃ s', s' = sx := ⟨_, rfl⟩
          subst hss
          have HZm : Hid (Try.Zw B w0 wr r x q y b s' s' s3 s4 N (.slice ad1 0 cap1) [] (.slice none 0 0) []) := hZ.bare
          clear hZ HG HL HS hGf
          go_upto_region 15 with fail
          go_loopw [9, 19] (fun ok i wx => i = .int .i64 0 ∧ ok = .bool true ∧ Try.Zw B w0 wx r x q y b s' s' s3 s4 N (.slice ad1 0 cap1) [] (.slice none 0 0) []) (fun _ _ _ => 0)
          case atStart => exact ⟨rfl, rfl, HZm.out⟩
          case round =>
            obtain ⟨rfl, rfl, hZ⟩ := hrel
            clear HZm
            have h7 := Try.Zw.comes (ls := []) hZ (by have := HN.out; omega) (Nat.zero_le _)
            have h7 : Calls _ _ #[_, .slice ad1 0 cap1] _ _ := h7
            clear hZ
            go_wp2_with (first
              | (go_at_call 27; refine h7.mono ?_; clear h7; rintro e w6 ⟨rfl, hZ6⟩; have hE := (hZ6.ends (by have := HN.out; omega)).1)
              | (go_at_call 18; refine hE.mono ?_; clear hE; rintro e w7 ⟨rfl, hZ7⟩; clear hZ6; have hL := (hZ7.ends (by have := HN.out; omega)).2.2)
              | (go_at_call 28; refine hL.mono ?_; clear hL; rintro e w8 ⟨rfl, hZ8⟩; clear hZ7; have hX := (hZ8.ends (by have := HN.out; omega)).2.1)
              | (go_at_call 29; refine hX.mono ?_; clear hX; rintro e w9 ⟨rfl, hZ9⟩; clear hZ8)
              | fail)
            go_ret
            exact ⟨by simp, N + 4, by omega, hZ9⟩
end Go.Proofs
