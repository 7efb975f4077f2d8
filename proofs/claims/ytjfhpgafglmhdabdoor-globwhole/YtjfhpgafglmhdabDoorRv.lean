/-
  THE DOCUMENT'S GLOB: 'Compile', walked.
-/
import Derived.Test.YtjfhpgafglmhdabDoorRw
namespace Go.Gl
open Go.Sg
/-- The parts, as they are written. -/
def rawc (s : ByteArray) : Option (List P) := if s.size ≤ 100 ∧ valid s = true then raw false (rns (fold s)) else none
theorem comp_rawc (s : ByteArray) : comp s = (rawc s).map (norm []) := by
  rw [comp_eq]
  unfold rawc
  by_cases h : s.size ≤ 100 ∧ valid s = true
  · rw [if_pos h, if_pos h]
  · rw [if_neg h, if_neg h]; rfl
theorem fold_byte {b : UInt8} (h : spB b = true) : fold ⟨#[b]⟩ = ⟨#[b]⟩ ∧ T (Lib.encodeRune (b.toNat : Int)) = ⟨#[b]⟩ := by
  unfold spB at h
  simp at h
  rcases h with (h | h) | h <;> subst h <;> exact ⟨by kernel_rfl, by kernel_rfl⟩
end Go.Gl
namespace Go.Proofs
open Go.RowKit Go.Gl
/-- What the document's 'Compile' answers. -/
def Tryd.RefOk (o : Option (List P)) (e : Ending) (w' : World) : Prop :=
  match o with
  | none => e = .returned (.tuple #[.pointer none, .int .i64 30])
  | some l => ∃ x, e = .returned (.tuple #[.pointer (some ⟨x, 0, none⟩), .int .i64 0]) ∧ Tryd.Rg w' 0 x l ∧ l.length ≤ 100
set_option maxRecDepth 100000 in
set_option maxHeartbeats 8000000 in
theorem Tryd.refCompile_any (s : ByteArray) (w : World) (hs : s.size ≤ 140737488351232) :
    Calls Tryd.prog 19 #[.string s] w fun e w' => Tryd.RefOk (rawc s) e w' ∧ Below w.heap.size w w' := by
  have qv := fun W => Tryd.refValid_any s W (by omega)
  cases hv : Sg.valid s with
  | false =>
    have hr : rawc s = none := by unfold rawc; rw [if_neg (by rw [hv]; simp)]
    rw [hr]
    rw [hv] at qv
    clear hr
    go_enter Tryd.func19, Tryd.ntmps19
    go_wp2_with (first | (go_at_call 32; refine (qv _).mono ?_; clear qv; rintro e1 w1 ⟨rfl, hw1⟩; obtain rfl := hw1.symm) | fail)
    go_ret2
    exact ⟨rfl, Below.refl _ _⟩
  | true =>
    rw [hv] at qv
    by_cases h1 : 100 < s.size
    · have hr : rawc s = none := by unfold rawc; rw [if_neg (by omega)]
      rw [hr]
      have b1 : (100 : Int) < (s.size : Int) := by omega
      clear hr
      go_enter Tryd.func19, Tryd.ntmps19
      go_wp2_with (first | (go_at_call 32; refine (qv _).mono ?_; clear qv; rintro e1 w1 ⟨rfl, hw1⟩; obtain rfl := hw1.symm) | fail)
      go_ret2
      exact ⟨rfl, Below.refl _ _⟩
    · have hr : rawc s = raw false (rns (Sg.fold s)) := by unfold rawc; rw [if_pos ⟨by omega, hv⟩]
      rw [hr]
      have b1 : ¬ (100 : Int) < (s.size : Int) := by omega
      obtain ⟨i0, hi0, hz0, hz1, hz2⟩ := info_parts Tryd.info_rpart
      have hR0 : Tryd.Rg (w.alloc (.cells #[.slice none 0 0] 51)) w.heap.size w.heap.size [] := ⟨.slice none 0 0, Nat.le_refl _, heap_alloc_new w _, World.ownsRow_nil _ _ _ _, by simp [Value.ownBlock]⟩
      have HR0 : Hid _ := hR0
      have HV : Hid (Sg.valid s = true) := hv
      have hs100 : s.size ≤ 100 := by omega
      clear hr hR0 hv h1 hs
      go_enter Tryd.func19, Tryd.ntmps19
      go_wp2_with (first | (go_at_call 32; refine (qv _).mono ?_; clear qv; rintro e1 w1 ⟨rfl, hw1⟩; obtain rfl := hw1.symm) | fail)
      clear b1
      go_loopw [6] (fun i wr => ∃ (n : Nat) (l : List P), i = .int .i64 (Sg.posn s n) ∧ Tryd.Rg wr w.heap.size w.heap.size l ∧ Below w.heap.size w wr ∧ raw false (rns (Sg.fold s)) = (raw false ((rns (Sg.fold s)).drop n)).map (l ++ ·) ∧ l.length ≤ Sg.posn s n) (fun i _ => s.size - (intOf i).toNat)
      case atStart =>
        refine ⟨0, [], rfl, HR0.out, (Below.refl _ w).alloc (Nat.le_refl _) _, ?_, Nat.zero_le _⟩
        rw [List.drop_zero]
        cases raw false (rns (Sg.fold s)) <;> simp
      case round =>
        obtain ⟨n, l, rfl, hRg, hbw, hacc, hll⟩ := hrel
        have hple := Sg.posn_le s n
        obtain ⟨v, -, hx, hown, hvx⟩ := hRg
        have hxl := (Array.getElem?_eq_some_iff.1 hx).1
        have hvb := row_block hown
        by_cases hp : Sg.posn s n < s.size
        · have hsp := Sg.posn_step s n hp
          have hnle := Sg.posn_le s (n + 1)
          have hwpos := Sg.wd_pos s (Sg.posn s n)
          have hsg := fun W => Tryd.refSign_any s (Sg.posn s n) hp (by omega) W
          have hdf := drop_fold HV.out n hp
          obtain ⟨-, hfp⟩ := sign_piece HV.out n hp
          have hrb := rune_byte s (Sg.posn s n)
          have c0 : wr.cell? ⟨w.heap.size, 0, none⟩ = some v := by simp [World.cell?, hx]
          have e0 : (Sg.posn s n : Int) < (s.size : Int) := by omega
          by_cases hc : (Utf8.decode s (Sg.posn s n)).1 = 42
          · have hlow := low_piece s (Sg.posn s n) hp (by omega)
            obtain ⟨hw1, hgb, hex⟩ := hlow
            have hb : s.get! (Sg.posn s n) = 42 := UInt8.toNat_inj.1 (by rw [hgb, hc]; rfl)
            rw [hb] at hex
            have hk1 : (Utf8.decode s (Sg.posn s n)).2 = 1 := hw1
            have hsm : (Sg.small ((Utf8.decode s (Sg.posn s n)).1 : Int)).toNat = 42 := by rw [hc]; kernel_rfl
            rw [hsm] at hdf
            have hacc' := map_snoc hacc (p := .any) (Y := raw false ((rns (Sg.fold s)).drop (n + 1))) (by rw [hdf, raw_any])
            rw [hk1] at hsg
            rw [hw1] at hsp
            have Hacc : Hid _ := hacc'
            have Hsp : Hid _ := hsp
            clear hacc hacc' hdf hsm hfp hw1 hgb hk1 hsp hb hc
            generalize Sg.posn s n = p at *
            have e1 : (p : Int) + 1 ≤ (s.size : Int) := by omega
            go_wp2_with (first
              | (go_at_call 38; refine (hsg _).mono ?_; clear hsg; rintro e1 w1 ⟨rfl, hw1⟩; obtain rfl := hw1.symm)
              | (at_builtin; refine wpList_append_lies _ rfl _ _ 49 rfl w.heap.size 53 i0 _ 2 24 Tryd.underlying49 hi0 hz0 hz1 hz2 rfl (by omega) v l.length (cellsR l) rfl (Gl.row_alloc hown _) ⟨wr.heap.size, 0, none⟩ 1 1 (cellsR [.any]) rfl rfl (World.news_of_block (cs := #[.int .i64 2, .string ⟨#[]⟩]) (t := 53) (fr := (0, 0)) (heap_alloc_new wr _)) (cellsR_one _) (by omega) (by unfold maxLen; omega) (by omega) (by simp; omega) (wr.heap.size + 1) (by simp) ?_; intro g cap w' hown' hg hat hlt; obtain ⟨d0, d1, d2, d3⟩ := Tryd.rg_next (p := .any) (Nat.le_refl _) hx hvx hvb rfl hown' hg hat)
              | fail)
            go_roundw
            case rel => exact ⟨n + 1, l ++ [.any], by rw [Hsp.out]; go_num, d2, hbw.trans d3, Hacc.out, by rw [Hsp.out, List.length_append]; simp; omega⟩
            case measure => simp [intOf]; omega
          · by_cases hc' : (Utf8.decode s (Sg.posn s n)).1 = 63
            · clear hc
              have hc := hc'
              clear hc'
              have hlow := low_piece s (Sg.posn s n) hp (by omega)
              obtain ⟨hw1, hgb, hex⟩ := hlow
              have hb : s.get! (Sg.posn s n) = 63 := UInt8.toNat_inj.1 (by rw [hgb, hc]; rfl)
              rw [hb] at hex
              have hk1 : (Utf8.decode s (Sg.posn s n)).2 = 1 := hw1
              have hsm : (Sg.small ((Utf8.decode s (Sg.posn s n)).1 : Int)).toNat = 63 := by rw [hc]; kernel_rfl
              rw [hsm] at hdf
              have hacc' := map_snoc hacc (p := .one) (Y := raw false ((rns (Sg.fold s)).drop (n + 1))) (by rw [hdf, raw_one])
              rw [hk1] at hsg
              rw [hw1] at hsp
              have Hacc : Hid _ := hacc'
              have Hsp : Hid _ := hsp
              clear hacc hacc' hdf hsm hfp hw1 hgb hk1 hsp hb hc
              generalize Sg.posn s n = p at *
              have e1 : (p : Int) + 1 ≤ (s.size : Int) := by omega
              go_wp2_with (first
                | (go_at_call 38; refine (hsg _).mono ?_; clear hsg; rintro e1 w1 ⟨rfl, hw1⟩; obtain rfl := hw1.symm)
                | (at_builtin; refine wpList_append_lies _ rfl _ _ 49 rfl w.heap.size 53 i0 _ 2 24 Tryd.underlying49 hi0 hz0 hz1 hz2 rfl (by omega) v l.length (cellsR l) rfl (Gl.row_alloc hown _) ⟨wr.heap.size, 0, none⟩ 1 1 (cellsR [.one]) rfl rfl (World.news_of_block (cs := #[.int .i64 1, .string ⟨#[]⟩]) (t := 53) (fr := (0, 0)) (heap_alloc_new wr _)) (cellsR_one _) (by omega) (by unfold maxLen; omega) (by omega) (by simp; omega) (wr.heap.size + 1) (by simp) ?_; intro g cap w' hown' hg hat hlt; obtain ⟨d0, d1, d2, d3⟩ := Tryd.rg_next (p := .one) (Nat.le_refl _) hx hvx hvb rfl hown' hg hat)
                | fail)
              go_roundw
              case rel => exact ⟨n + 1, l ++ [.one], by rw [Hsp.out]; go_num, d2, hbw.trans d3, Hacc.out, by rw [Hsp.out, List.length_append]; simp; omega⟩
              case measure => simp [intOf]; omega
            · by_cases hc'' : (Utf8.decode s (Sg.posn s n)).1 = 92
              · clear hc hc'
                have hc := hc''
                clear hc''
                obtain ⟨hw1, hgb, hex⟩ := low_piece s (Sg.posn s n) hp (by omega)
                have hb : s.get! (Sg.posn s n) = 92 := UInt8.toNat_inj.1 (by rw [hgb, hc]; rfl)
                rw [hb] at hex
                have hk1 : (Utf8.decode s (Sg.posn s n)).2 = 1 := hw1
                have hsm : (Sg.small ((Utf8.decode s (Sg.posn s n)).1 : Int)).toNat = 92 := by rw [hc]; kernel_rfl
                rw [hsm] at hdf
                rw [hk1] at hsg
                rw [hw1] at hsp
                clear hsm hfp hw1 hgb hk1 hb hc hrb
                by_cases hp2 : Sg.posn s (n + 1) < s.size
                · have hdf2 := drop_fold HV.out (n + 1) hp2
                  have hrb2 := rune_byte s (Sg.posn s (n + 1))
                  cases hsb : spB (s.get! (Sg.posn s (n + 1))) with
                  | false =>
                    rw [hsb] at hrb2
                    have hnone : raw false (rns (Sg.fold s)) = none := by
                      rw [hacc, hdf, raw_back, hdf2, raw_bad (by rw [small_special]; exact hrb2)]; rfl
                    have HN : Hid _ := hnone
                    clear hacc hnone hdf hdf2 hrb2
                    generalize hB : s.get! (Sg.posn s (n + 1)) = B at *
                    have hne : B ≠ 42 ∧ B ≠ 63 ∧ B ≠ 92 := by
                      unfold spB at hsb
                      simp at hsb
                      exact ⟨hsb.1.1, hsb.1.2, hsb.2⟩
                    have n1 : ((B.toNat : Int) != 42) = true := by rw [bne_iff_ne]; intro h; exact hne.1 (UInt8.toNat_inj.1 (by show B.toNat = 42; omega))
                    have n2 : ((B.toNat : Int) != 63) = true := by rw [bne_iff_ne]; intro h; exact hne.2.1 (UInt8.toNat_inj.1 (by show B.toNat = 63; omega))
                    have n3 : ((B.toNat : Int) != 92) = true := by rw [bne_iff_ne]; intro h; exact hne.2.2 (UInt8.toNat_inj.1 (by show B.toNat = 92; omega))
                    clear hne hsb
                    rw [hsp] at hp2 hB
                    clear hsp hnle
                    generalize Sg.posn s n = p at *
                    have hgi : s[p + 1]'hp2 = B := (Utf8W.get!_of_lt s (p + 1) hp2).symm.trans hB
                    clear hB
                    have e1 : (p : Int) + 1 ≤ (s.size : Int) := by omega
                    have e2 : (p : Int) + 1 < (s.size : Int) := by omega
                    have e4 : ¬ (s.size : Int) ≤ (p : Int) + 1 := by omega
                    go_wp2_with (first
                      | (go_at_call 38; refine (hsg _).mono ?_; clear hsg; rintro e1 w1 ⟨rfl, hw1⟩; obtain rfl := hw1.symm)
                      | fail)
                    go_ret2
                    rw [HN.out]
                    exact ⟨rfl, hbw⟩
                  | true =>
                    rw [hsb] at hrb2
                    have hc2l : (Utf8.decode s (Sg.posn s (n + 1))).1 < 128 := by
                      have h3 := hrb2
                      unfold special at h3
                      simp at h3
                      omega
                    obtain ⟨hw2, hgb2, hex2⟩ := low_piece s (Sg.posn s (n + 1)) hp2 hc2l
                    have hsp2 := Sg.posn_step s (n + 1) hp2
                    rw [hw2] at hsp2
                    have hnle2 := Sg.posn_le s (n + 1 + 1)
                    clear hw2 hc2l hrb2
                    generalize hB : s.get! (Sg.posn s (n + 1)) = B at *
                    have hbb3 : B = 42 ∨ B = 63 ∨ B = 92 := by
                      unfold spB at hsb
                      simp at hsb
                      rcases hsb with (h | h) | h
                      · exact .inl h
                      · exact .inr (.inl h)
                      · exact .inr (.inr h)
                    clear hsb
                    rcases hbb3 with hbb | hbb | hbb
                    · subst hbb
                      have hfo := fun W => Tryd.refFold_any ⟨#[42]⟩ W (by decide)
                      rw [(fold_byte (b := 42) (by rfl)).1] at hfo
                      have hc2 : (Utf8.decode s (Sg.posn s (n + 1))).1 = 42 := by rw [← hgb2]; rfl
                      have hsm2 : (Sg.small ((Utf8.decode s (Sg.posn s (n + 1))).1 : Int)).toNat = 42 := by rw [hc2]; kernel_rfl
                      rw [hsm2] at hdf2
                      have hacc' := map_snoc hacc (p := .fix 42) (Y := raw false ((rns (Sg.fold s)).drop (n + 1 + 1))) (by rw [hdf, raw_back, hdf2, raw_esc (by rfl)])
                      have Hacc : Hid _ := hacc'
                      have hS2 : Sg.posn s (n + 1 + 1) = Sg.posn s n + 1 + 1 := by rw [hsp2, hsp]
                      have Hsp2 : Hid _ := hS2
                      rw [hsp] at hex2 hB hp2
                      rw [hS2] at hnle2
                      clear hacc hacc' hdf hdf2 hsm2 hc2 hgb2 hsp hsp2 hS2 hnle
                      generalize Sg.posn s n = p at *
                      have hgi := (Utf8W.get!_of_lt s (p + 1) hp2).symm.trans hB
                      clear hB
                      have e1 : (p : Int) + 1 ≤ (s.size : Int) := by omega
                      have e2 : (p : Int) + 1 < (s.size : Int) := by omega
                      have e3 : (p : Int) + 1 + 1 ≤ (s.size : Int) := by omega
                      have e4 : ¬ (s.size : Int) ≤ (p : Int) + 1 := by omega
                      go_wp2_with (first
                        | (go_at_call 38; refine (hsg _).mono ?_; clear hsg; rintro e1 w1 ⟨rfl, hw1⟩; obtain rfl := hw1.symm)
                        | (go_at_call 34; refine (hfo _).mono ?_; clear hfo; rintro e5 w5 ⟨rfl, b5⟩; have hown5 := Gl.row_below hown b5; have hx5 : w5.heap[w.heap.size]? = some (.cells #[v] 51) := (b5.block _ hxl).trans hx; have c5 : w5.cell? ⟨w.heap.size, 0, none⟩ = some v := (b5.cell (p := ⟨w.heap.size, 0, none⟩) hxl).trans c0; have hs5 := b5.size)
                        | (at_builtin; refine wpList_append_lies _ rfl _ _ 49 rfl w.heap.size 53 i0 _ 2 24 Tryd.underlying49 hi0 hz0 hz1 hz2 rfl (by omega) v l.length (cellsR l) rfl (Gl.row_alloc hown5 _) ⟨w5.heap.size, 0, none⟩ 1 1 (cellsR [.fix 42]) rfl rfl (World.news_of_block (cs := #[.int .i64 0, .string ⟨#[42]⟩]) (t := 53) (fr := (0, 0)) (heap_alloc_new w5 _)) (cellsR_one _) (by omega) (by unfold maxLen; omega) (by omega) (by simp; omega) (w5.heap.size + 1) (by simp) ?_; intro g cap w' hown' hg hat hlt; obtain ⟨d0, d1, d2, d3⟩ := Tryd.rg_next (p := .fix 42) (Nat.le_refl _) hx5 hvx hvb rfl hown' hg hat)
                        | fail)
                      go_roundw
                      case rel => exact ⟨n + 1 + 1, l ++ [.fix 42], by rw [Hsp2.out]; go_num, d2, hbw.trans ((b5.mono (by omega)).trans d3), Hacc.out, by rw [Hsp2.out, List.length_append]; simp; omega⟩
                      case measure => simp [intOf]; omega

                    · subst hbb
                      have hfo := fun W => Tryd.refFold_any ⟨#[63]⟩ W (by decide)
                      rw [(fold_byte (b := 63) (by rfl)).1] at hfo
                      have hc2 : (Utf8.decode s (Sg.posn s (n + 1))).1 = 63 := by rw [← hgb2]; rfl
                      have hsm2 : (Sg.small ((Utf8.decode s (Sg.posn s (n + 1))).1 : Int)).toNat = 63 := by rw [hc2]; kernel_rfl
                      rw [hsm2] at hdf2
                      have hacc' := map_snoc hacc (p := .fix 63) (Y := raw false ((rns (Sg.fold s)).drop (n + 1 + 1))) (by rw [hdf, raw_back, hdf2, raw_esc (by rfl)])
                      have Hacc : Hid _ := hacc'
                      have hS2 : Sg.posn s (n + 1 + 1) = Sg.posn s n + 1 + 1 := by rw [hsp2, hsp]
                      have Hsp2 : Hid _ := hS2
                      rw [hsp] at hex2 hB hp2
                      rw [hS2] at hnle2
                      clear hacc hacc' hdf hdf2 hsm2 hc2 hgb2 hsp hsp2 hS2 hnle
                      generalize Sg.posn s n = p at *
                      have hgi := (Utf8W.get!_of_lt s (p + 1) hp2).symm.trans hB
                      clear hB
                      have e1 : (p : Int) + 1 ≤ (s.size : Int) := by omega
                      have e2 : (p : Int) + 1 < (s.size : Int) := by omega
                      have e3 : (p : Int) + 1 + 1 ≤ (s.size : Int) := by omega
                      have e4 : ¬ (s.size : Int) ≤ (p : Int) + 1 := by omega
                      go_wp2_with (first
                        | (go_at_call 38; refine (hsg _).mono ?_; clear hsg; rintro e1 w1 ⟨rfl, hw1⟩; obtain rfl := hw1.symm)
                        | (go_at_call 34; refine (hfo _).mono ?_; clear hfo; rintro e5 w5 ⟨rfl, b5⟩; have hown5 := Gl.row_below hown b5; have hx5 : w5.heap[w.heap.size]? = some (.cells #[v] 51) := (b5.block _ hxl).trans hx; have c5 : w5.cell? ⟨w.heap.size, 0, none⟩ = some v := (b5.cell (p := ⟨w.heap.size, 0, none⟩) hxl).trans c0; have hs5 := b5.size)
                        | (at_builtin; refine wpList_append_lies _ rfl _ _ 49 rfl w.heap.size 53 i0 _ 2 24 Tryd.underlying49 hi0 hz0 hz1 hz2 rfl (by omega) v l.length (cellsR l) rfl (Gl.row_alloc hown5 _) ⟨w5.heap.size, 0, none⟩ 1 1 (cellsR [.fix 63]) rfl rfl (World.news_of_block (cs := #[.int .i64 0, .string ⟨#[63]⟩]) (t := 53) (fr := (0, 0)) (heap_alloc_new w5 _)) (cellsR_one _) (by omega) (by unfold maxLen; omega) (by omega) (by simp; omega) (w5.heap.size + 1) (by simp) ?_; intro g cap w' hown' hg hat hlt; obtain ⟨d0, d1, d2, d3⟩ := Tryd.rg_next (p := .fix 63) (Nat.le_refl _) hx5 hvx hvb rfl hown' hg hat)
                        | fail)
                      go_roundw
                      case rel => exact ⟨n + 1 + 1, l ++ [.fix 63], by rw [Hsp2.out]; go_num, d2, hbw.trans ((b5.mono (by omega)).trans d3), Hacc.out, by rw [Hsp2.out, List.length_append]; simp; omega⟩
                      case measure => simp [intOf]; omega

                    · subst hbb
                      have hfo := fun W => Tryd.refFold_any ⟨#[92]⟩ W (by decide)
                      rw [(fold_byte (b := 92) (by rfl)).1] at hfo
                      have hc2 : (Utf8.decode s (Sg.posn s (n + 1))).1 = 92 := by rw [← hgb2]; rfl
                      have hsm2 : (Sg.small ((Utf8.decode s (Sg.posn s (n + 1))).1 : Int)).toNat = 92 := by rw [hc2]; kernel_rfl
                      rw [hsm2] at hdf2
                      have hacc' := map_snoc hacc (p := .fix 92) (Y := raw false ((rns (Sg.fold s)).drop (n + 1 + 1))) (by rw [hdf, raw_back, hdf2, raw_esc (by rfl)])
                      have Hacc : Hid _ := hacc'
                      have hS2 : Sg.posn s (n + 1 + 1) = Sg.posn s n + 1 + 1 := by rw [hsp2, hsp]
                      have Hsp2 : Hid _ := hS2
                      rw [hsp] at hex2 hB hp2
                      rw [hS2] at hnle2
                      clear hacc hacc' hdf hdf2 hsm2 hc2 hgb2 hsp hsp2 hS2 hnle
                      generalize Sg.posn s n = p at *
                      have hgi := (Utf8W.get!_of_lt s (p + 1) hp2).symm.trans hB
                      clear hB
                      have e1 : (p : Int) + 1 ≤ (s.size : Int) := by omega
                      have e2 : (p : Int) + 1 < (s.size : Int) := by omega
                      have e3 : (p : Int) + 1 + 1 ≤ (s.size : Int) := by omega
                      have e4 : ¬ (s.size : Int) ≤ (p : Int) + 1 := by omega
                      go_wp2_with (first
                        | (go_at_call 38; refine (hsg _).mono ?_; clear hsg; rintro e1 w1 ⟨rfl, hw1⟩; obtain rfl := hw1.symm)
                        | (go_at_call 34; refine (hfo _).mono ?_; clear hfo; rintro e5 w5 ⟨rfl, b5⟩; have hown5 := Gl.row_below hown b5; have hx5 : w5.heap[w.heap.size]? = some (.cells #[v] 51) := (b5.block _ hxl).trans hx; have c5 : w5.cell? ⟨w.heap.size, 0, none⟩ = some v := (b5.cell (p := ⟨w.heap.size, 0, none⟩) hxl).trans c0; have hs5 := b5.size)
                        | (at_builtin; refine wpList_append_lies _ rfl _ _ 49 rfl w.heap.size 53 i0 _ 2 24 Tryd.underlying49 hi0 hz0 hz1 hz2 rfl (by omega) v l.length (cellsR l) rfl (Gl.row_alloc hown5 _) ⟨w5.heap.size, 0, none⟩ 1 1 (cellsR [.fix 92]) rfl rfl (World.news_of_block (cs := #[.int .i64 0, .string ⟨#[92]⟩]) (t := 53) (fr := (0, 0)) (heap_alloc_new w5 _)) (cellsR_one _) (by omega) (by unfold maxLen; omega) (by omega) (by simp; omega) (w5.heap.size + 1) (by simp) ?_; intro g cap w' hown' hg hat hlt; obtain ⟨d0, d1, d2, d3⟩ := Tryd.rg_next (p := .fix 92) (Nat.le_refl _) hx5 hvx hvb rfl hown' hg hat)
                        | fail)
                      go_roundw
                      case rel => exact ⟨n + 1 + 1, l ++ [.fix 92], by rw [Hsp2.out]; go_num, d2, hbw.trans ((b5.mono (by omega)).trans d3), Hacc.out, by rw [Hsp2.out, List.length_append]; simp; omega⟩
                      case measure => simp [intOf]; omega
                · have hnone : raw false (rns (Sg.fold s)) = none := by
                    rw [hacc, hdf, raw_back, drop_end HV.out (n + 1) hp2]; rfl
                  have HN : Hid _ := hnone
                  clear hacc hnone hdf
                  rw [hsp] at hp2
                  clear hsp hnle
                  generalize Sg.posn s n = p at *
                  have e1 : (p : Int) + 1 ≤ (s.size : Int) := by omega
                  have e4 : (s.size : Int) ≤ (p : Int) + 1 := by omega
                  go_wp2_with (first
                    | (go_at_call 38; refine (hsg _).mono ?_; clear hsg; rintro e1 w1 ⟨rfl, hw1⟩; obtain rfl := hw1.symm)
                    | fail)
                  go_ret2
                  rw [HN.out]
                  exact ⟨rfl, hbw⟩
              · have hnsp : special (Utf8.decode s (Sg.posn s n)).1 = false := by unfold special; simp; omega
                rw [hnsp] at hrb
                have hne : s.get! (Sg.posn s n) ≠ 42 ∧ s.get! (Sg.posn s n) ≠ 63 ∧ s.get! (Sg.posn s n) ≠ 92 := by
                  have h3 := hrb.symm
                  unfold spB at h3
                  simp at h3
                  exact ⟨h3.1.1, h3.1.2, h3.2⟩
                have hkk : (Utf8.decode s (Sg.posn s n)).2 = Sg.wd s (Sg.posn s n) := rfl
                rw [hkk] at hsg
                have m1 := piece_ne s (Sg.posn s n) hp (Sg.posn s n + Sg.wd s (Sg.posn s n)) (by omega) 42 hne.1
                have m2 := piece_ne s (Sg.posn s n) hp (Sg.posn s n + Sg.wd s (Sg.posn s n)) (by omega) 63 hne.2.1
                have m3 := piece_ne s (Sg.posn s n) hp (Sg.posn s n + Sg.wd s (Sg.posn s n)) (by omega) 92 hne.2.2
                have hpsz : (s.extract (Sg.posn s n) (Sg.posn s n + Sg.wd s (Sg.posn s n))).size ≤ 140737488355324 := by rw [ByteArray.size_extract]; omega
                have hfo := fun W => Tryd.refFold_any (s.extract (Sg.posn s n) (Sg.posn s n + Sg.wd s (Sg.posn s n))) W hpsz
                rw [hfp] at hfo
                have hsps := small_special (Utf8.decode s (Sg.posn s n)).1
                rw [hnsp] at hsps
                generalize (Sg.small ((Utf8.decode s (Sg.posn s n)).1 : Int)).toNat = R at *
                have hacc' := map_snoc hacc (p := .fix R) (Y := raw false ((rns (Sg.fold s)).drop (n + 1))) (by rw [hdf, raw_other hsps])
                have Hacc : Hid _ := hacc'
                have Hsp : Hid _ := hsp
                generalize hwk : Sg.wd s (Sg.posn s n) = K at *
                have hle2 : Sg.posn s n + K ≤ s.size := by rw [← hsp]; exact hnle
                clear hacc hacc' hdf hfp hkk hsp hnle hne hrb hnsp hc hc' hc'' hsps hwk
                generalize Sg.posn s n = p at *
                generalize (Utf8.decode s p).1 = C at *
                have e1 : (p : Int) + (K : Int) ≤ (s.size : Int) := by omega
                go_wp2_with (first
                  | (go_at_call 38; refine (hsg _).mono ?_; clear hsg; rintro e1 w1 ⟨rfl, hw1⟩; obtain rfl := hw1.symm)
                  | (go_at_call 34; refine (hfo _).mono ?_; clear hfo; rintro e5 w5 ⟨rfl, b5⟩; have hown5 := Gl.row_below hown b5; have hx5 : w5.heap[w.heap.size]? = some (.cells #[v] 51) := (b5.block _ hxl).trans hx; have c5 : w5.cell? ⟨w.heap.size, 0, none⟩ = some v := (b5.cell (p := ⟨w.heap.size, 0, none⟩) hxl).trans c0; have hs5 := b5.size)
                  | (at_builtin; refine wpList_append_lies _ rfl _ _ 49 rfl w.heap.size 53 i0 _ 2 24 Tryd.underlying49 hi0 hz0 hz1 hz2 rfl (by omega) v l.length (cellsR l) rfl (Gl.row_alloc hown5 _) ⟨w5.heap.size, 0, none⟩ 1 1 (cellsR [.fix R]) rfl rfl (World.news_of_block (cs := #[.int .i64 0, .string (Gl.T (Lib.encodeRune (R : Int)))]) (t := 53) (fr := (0, 0)) (heap_alloc_new w5 _)) (cellsR_one _) (by omega) (by unfold maxLen; omega) (by omega) (by simp; omega) (w5.heap.size + 1) (by simp) ?_; intro g cap w' hown' hg hat hlt; obtain ⟨d0, d1, d2, d3⟩ := Tryd.rg_next (p := .fix R) (Nat.le_refl _) hx5 hvx hvb rfl hown' hg hat)
                  | fail)
                go_roundw
                case rel => exact ⟨n + 1, l ++ [.fix R], by rw [Hsp.out]; go_num, d2, hbw.trans ((b5.mono (by omega)).trans d3), Hacc.out, by rw [Hsp.out, List.length_append]; simp; omega⟩
                case measure => simp [intOf]; omega
        · have hsome : raw false (rns (Sg.fold s)) = some l := by
            rw [hacc, drop_end HV.out n hp]
            simp [raw]
          have HS : Hid _ := hsome
          have hRg : Tryd.Rg wr w.heap.size w.heap.size l := ⟨v, Nat.le_refl _, hx, hown, hvx⟩
          have HRG : Hid _ := hRg
          clear hacc hsome hRg
          generalize Sg.posn s n = p at *
          have e1 : ¬ (p : Int) < (s.size : Int) := by omega
          go_wp2
          go_ret2
          rw [HS.out]
          exact ⟨⟨_, rfl, Tryd.Rg.down HRG.out (Nat.zero_le _), by omega⟩, hbw⟩
end Go.Proofs
