/-
  'object', walked; 'value' and 'Parse', whole.
-/
import Derived.Test.YtejibjeidklnkaaGreatDoorJm
import Derived.Test.YtejibjeidklnkaaGreatDoorJb
import Derived.Test.YtejibjeidklnkaaGreatDoorJe
namespace Go.Proofs
open Go.RowKit Go.Jv
theorem Tryz.key_yes {w : World} {b : Nat} {t : ByteArray} {p o lo : Nat} {kv : Value} {ks : List ByteArray} {k : ByteArray} {q : Nat} (he : key t p ks = .ok (k, q)) (h : Rd w b t p o) (hT : Tryz.Tb w) (hbg : 8 ≤ b) (hrow : w.ownsRow lo 9 1 kv ks.length (ks.map Value.string)) (hlo : b < lo) (hks : ks.length ≤ 64) :
    Calls Tryz.prog 48 #[.pointer (some ⟨b, 0, none⟩), kv] w fun en w' => en = .returned (.tuple #[.string k, .int .i64 (place ks k : Nat)]) ∧ Rd w' b t q o ∧ Wk b w w' := by
  refine (Tryz.key_any h hT hbg hrow hlo hks).mono fun e w' hq => ?_
  rcases hq with ⟨k', q', hm, hV⟩ | ⟨p', e', hm, _⟩
  · rw [he] at hm; injection hm with hm; injection hm with h1 h2; subst h1; subst h2; exact hV
  · rw [he] at hm; cases hm
theorem Tryz.key_no {w : World} {b : Nat} {t : ByteArray} {p o lo : Nat} {kv : Value} {ks : List ByteArray} {p1 e1 : Nat} (he : key t p ks = .bad p1 e1) (h : Rd w b t p o) (hT : Tryz.Tb w) (hbg : 8 ≤ b) (hrow : w.ownsRow lo 9 1 kv ks.length (ks.map Value.string)) (hlo : b < lo) (hks : ks.length ≤ 64) :
    Calls Tryz.prog 48 #[.pointer (some ⟨b, 0, none⟩), kv] w fun en w' => Bad 40 p1 e1 en w' ∧ Wk b w w' := by
  refine (Tryz.key_any h hT hbg hrow hlo hks).mono fun e w' hq => ?_
  rcases hq with ⟨k', q', hm, _⟩ | ⟨p', e', hm, hB, hW⟩
  · rw [he] at hm; cases hm
  · rw [he] at hm; injection hm with h1 h2; subst h1; subst h2; exact ⟨hB, hW⟩
theorem Jv.row_alloc {w : World} {B : Nat} {e : TypeId} {size : Nat} {v : Value} {n : Nat} {xs : List Value} (h : w.ownsRow B e size v n xs) (o : Obj) : (w.alloc o).ownsRow B e size v n xs :=
  Jv.row_kept h fun g _ h2 => Below.heap_alloc w o g h2
theorem Jv.ptrs_len (xs : List Nat) : (Jv.ptrs xs).length = xs.length := by simp [Jv.ptrs]
set_option maxHeartbeats 8000000 in
set_option maxRecDepth 10000 in
theorem Tryz.object_any {d : Nat} (hv : Tryz.ValOk d) : Tryz.ObjOk d := by
  intro w b t p o h hT hbg hod hlt
  have hbeg := Tryz.begin_ok h hlt (by omega)
  have hb0 := h.hb
  clear h
  go_enter Tryz.func32, Tryz.ntmps32
  go_wp2_with (first | (go_at_call 45; refine hbeg.mono ?_; rintro e1 w1 ⟨rfl, hR1, hW1⟩) | fail)
  go_loopg [] 66 (fun k wr => ∃ q ks had kv sv xs, objFrom t (value t d) k q ks had = objFrom t (value t d) 66 (p + 1) [] [] ∧ k + had.length = 66 ∧ had.length ≤ 64 ∧ ks.length = had.length ∧ Tryz.Oc b t q (o + 1) w w1.heap.size ks had kv sv xs none wr)
  case atStart =>
    have hB1 : Below w1.heap.size w1 (w1.alloc (.cells #[.int .i64 5, .bool false, .int .i64 0, .string emp, Jv.nilS, Jv.nilS] 55)) := (Below.refl _ _).alloc (Nat.le_refl _) _
    refine ⟨p + 1, [], [], Jv.nilS, Jv.nilS, [], rfl, rfl, by simp, rfl, Jv.Vb.new w1 5 false 0 emp Jv.nilS Jv.nilS _, ⟨rfl, .inl ⟨rfl, rfl⟩⟩, ⟨rfl, .inl ⟨rfl, rfl⟩⟩, (fun m e => by cases e), rfl, (fun v y e => by cases e), hR1.below hB1, hW1.below hB1 hW1.size, ?_, hW1.size, hb0, hbg⟩
    exact (hT.wk hW1 hbg).below hB1 (hT.wk hW1 hbg).size
  case round =>
    obtain ⟨q, ks, had, kv, sv, xs, he, hkk, h64, hkl, hO⟩ := hrel
    obtain ⟨ag, cg, hsv⟩ := Jv.row_form hO.row
    have hxl : xs.length = had.length := Tryz.Trs_len had xs hO.trs
    have hle : Calls Tryz.prog 47 #[.pointer (some ⟨w1.heap.size, 0, none⟩)] wr fun e w'' => e = .returned (.int .i64 had.length) ∧ w'' = wr := by
      have hvb := hO.vb
      rw [hsv, hxl] at hvb
      exact Tryz.len_any hvb
    obtain ⟨k, hk⟩ : ∃ k, gk = k + 1 := ⟨gk - 1, by omega⟩
    have hstep : objFrom t (value t d) gk q ks had = (more t q 125 had.length).bind fun m => if m.1 = false then .ok (.obj ks had, m.2) else (key t m.2 ks).bind fun kk => (value t d kk.2).bind fun x => objFrom t (value t d) k x.2 (insertAt ks (place ks kk.1) kk.1) (insertAt had (place ks kk.1) x.1) := by rw [hk]; rfl
    have HE : Hid (objFrom t (value t d) gk q ks had = objFrom t (value t d) 66 (p + 1) [] []) := he
    have HO : Hid (Tryz.Oc b t q (o + 1) w w1.heap.size ks had kv sv xs none wr) := hO
    have HK : Hid (gk = k + 1) := hk
    have HKK : Hid (gk + had.length = 66) := hkk
    have HKL : Hid (ks.length = had.length) := hkl
    have HXL : Hid (xs.length = had.length) := hxl
    clear he hk hkk hkl hxl hsv hbeg hR1
    cases hm : more t q 125 had.length with
    | bad p1 e1 =>
      have HX : Hid (objFrom t (value t d) 66 (p + 1) [] [] = .bad p1 e1) := HE.out.symm.trans (by rw [hstep, hm]; rfl)
      have hmo : Calls Tryz.prog 46 #[.pointer (some ⟨b, 0, none⟩), .int .u8 125, .int .i64 had.length] wr fun en w' => Bad 40 p1 e1 en w' ∧ Wk b wr w' := Tryz.more_no (x := 125) hm hO.rd (by omega) (by omega)
      clear hm hstep hO
      go_wp2_with (first | (go_at_call 47; refine hle.mono ?_; rintro e2 w2 ⟨rfl, rfl⟩) | (go_at_call 46; refine hmo.mono ?_; rintro e3 w3 ⟨⟨y, hy, rfl, hy0, hy1⟩, hk3⟩) | fail)
      exact ⟨rfl, Or.inr ⟨_, _, HX.out, ⟨y, hy, rfl, hy0, hy1⟩, HO.out.wk.trans hk3⟩⟩
    | ok m =>
      obtain ⟨mb, q1⟩ := m
      cases mb with
      | false =>
        have HX : Hid (objFrom t (value t d) 66 (p + 1) [] [] = .ok (.obj ks had, q1)) := HE.out.symm.trans (by rw [hstep, hm]; rfl)
        have hmo : Calls Tryz.prog 46 #[.pointer (some ⟨b, 0, none⟩), .int .u8 125, .int .i64 had.length] wr fun en w' => en = .returned (.bool false) ∧ Rd w' b t q1 (o + 1 - 1) ∧ Wk b wr w' := Tryz.more_end (x := 125) hm hO.rd (by omega) (by omega)
        clear hm hstep hO
        go_wp2_with (first | (go_at_call 47; refine hle.mono ?_; rintro e2 w2 ⟨rfl, rfl⟩) | (go_at_call 46; refine hmo.mono ?_; rintro e3 w3 ⟨rfl, hR3, hW3⟩) | fail)
        go_ret
        have hO3 := HO.out.wk_on hW3 hR3
        have hmo : ∀ g, Jv.okp w1.heap.size kv sv g → g < w3.heap.size → w.heap.size ≤ g := fun g hg _ => by have h1 := hg.1; have h2 := hO3.hx; omega
        refine Or.inl ⟨.obj ks had, q1, HX.out, w1.heap.size, rfl, ⟨hO3.hx, kv, sv, xs, hO3.vb, ⟨?_, fun k hk => ?_⟩, ⟨?_, fun k hk => ?_⟩, Tryz.Trs_mono hmo had xs hO3.trs, by rw [HKL.out, HXL.out]⟩, hR3, hO3.wk⟩
        · rw [List.length_map]; exact Jv.row_move hO3.krow fun g _ => ⟨Nat.zero_le _, rfl⟩
        · have h1 := (Jv.row_lt hO3.krow k hk).1; have h2 := hO3.hx; show w.heap.size ≤ k; omega
        · have hl : (Jv.ptrs xs).length = xs.length := by simp [Jv.ptrs]
          rw [hl]; exact Jv.row_move hO3.row fun g _ => ⟨Nat.zero_le _, rfl⟩
        · have h1 := (Jv.row_lt hO3.row k hk).1; have h2 := hO3.hx; show w.heap.size ≤ k; omega
      | true =>
        have hmo : Calls Tryz.prog 46 #[.pointer (some ⟨b, 0, none⟩), .int .u8 125, .int .i64 had.length] wr fun en w' => en = .returned (.bool true) ∧ q1 < t.size ∧ Rd w' b t q1 (o + 1) ∧ Wk b wr w' := Tryz.more_yes (x := 125) hm hO.rd (by omega) (by omega)
        have hn64 := Jv.more_had hm
        have HST : Hid (objFrom t (value t d) 66 (p + 1) [] [] = (key t q1 ks).bind fun kk => (value t d kk.2).bind fun x => objFrom t (value t d) k x.2 (insertAt ks (place ks kk.1) kk.1) (insertAt had (place ks kk.1) x.1)) := HE.out.symm.trans (by rw [hstep, hm]; rfl)
        have hck : ∀ w3, Wk b wr w3 → w3.cell? ⟨w1.heap.size, 4, none⟩ = some kv := fun w3 hW => (Jv.vb_wk HO.out.vb hW (by have h1 := HO.out.hx; omega)).c4
        clear hm hstep hO
        cases hke : key t q1 ks with
        | bad p1 e1 =>
          have HX : Hid (objFrom t (value t d) 66 (p + 1) [] [] = .bad p1 e1) := HST.out.trans (by rw [hke]; rfl)
          go_wp2_with (first | (go_at_call 47; refine hle.mono ?_; rintro e2 w2 ⟨rfl, rfl⟩) | (go_at_call 46; refine hmo.mono ?_; rintro e3 w3 ⟨rfl, hq1, hR3, hW3⟩; have hc3 := hck w3 hW3) | fail)
          have hO3 := HO.out.wk_on hW3 hR3
          refine (Tryz.key_no hke hR3 hO3.tb hbg hO3.krow (by have h1 := hO3.hx; omega) (by rw [HKL.out]; omega)).mono ?_
          rintro e4 w4 ⟨⟨y, hy, rfl, hy0, hy1⟩, hk3⟩
          exact ⟨rfl, Or.inr ⟨_, _, HX.out, ⟨y, hy, rfl, hy0, hy1⟩, hO3.wk.trans hk3⟩⟩
        | ok kq =>
          obtain ⟨kk, q2⟩ := kq
          have HST2 : Hid (objFrom t (value t d) 66 (p + 1) [] [] = (value t d q2).bind fun x => objFrom t (value t d) k x.2 (insertAt ks (place ks kk) kk) (insertAt had (place ks kk) x.1)) := HST.out.trans (by rw [hke]; rfl)
          go_wp2_with (first | (go_at_call 47; refine hle.mono ?_; rintro e2 w2 ⟨rfl, rfl⟩) | (go_at_call 46; refine hmo.mono ?_; rintro e3 w3 ⟨rfl, hq1, hR3, hW3⟩; have hc3 := hck w3 hW3) | fail)
          have hO3 := HO.out.wk_on hW3 hR3
          refine (Tryz.key_yes hke hR3 hO3.tb hbg hO3.krow (by have h1 := hO3.hx; omega) (by rw [HKL.out]; omega)).mono ?_
          rintro e4 w4 ⟨rfl, hR4, hW4⟩
          have hO4 := hO3.wk_on hW4 hR4
          clear hO3 hc3 hle hmo hck HST hke
          go_wp2_with fail
          cases hva : value t d q2 with
          | bad p1 e1 =>
            have HX : Hid (objFrom t (value t d) 66 (p + 1) [] [] = .bad p1 e1) := HST2.out.trans (by rw [hva]; rfl)
            refine (Tryz.val_no hv hR4 hO4.tb hbg (by omega) hva).mono ?_
            rintro e5 w5 ⟨⟨y, hy, rfl, hy0, hy1⟩, hk3⟩
            exact ⟨rfl, Or.inr ⟨_, _, HX.out, ⟨y, hy, rfl, hy0, hy1⟩, hO4.wk.trans hk3⟩⟩
          | ok vq =>
            obtain ⟨v, q3⟩ := vq
            have HX : Hid (objFrom t (value t d) k q3 (insertAt ks (place ks kk) kk) (insertAt had (place ks kk) v) = objFrom t (value t d) 66 (p + 1) [] []) := (HST2.out.trans (by rw [hva]; rfl)).symm
            refine (Tryz.val_yes hv hR4 hO4.tb hbg (by omega) hva).mono ?_
            rintro e5 w5 ⟨y, rfl, htr, hR5, hW5⟩
            have hO5 := hO4.ready hW5 hR5 htr
            have HO5 : Hid (Tryz.Oc b t q3 (o + 1) w w1.heap.size ks had kv sv xs (some (v, y)) w5) := hO5
            have hc54 := hO5.vb.c4
            have hpl := Jv.place_le ks kk
            have hx5 := hO5.vb.lt
            have hins := Tryz.ins_any_str (w1.heap.size + 1) kv (ks.map Value.string) (w5.alloc (.cells #[.string kk] 9)) (by rw [List.length_map]; exact Jv.row_alloc hO5.krow _) (by simp; omega) (place ks kk) (by rw [List.length_map]; exact hpl) (by rw [List.length_map, HKL.out]; exact h64) (.string kk) rfl (by simp [Value.oneCell']) w5.heap.size (heap_alloc_new w5 _) (fun e => by have := (Jv.row_lt hO5.krow _ e).2; omega)
            rw [List.length_map] at hins
            clear hva hO4 hO5 hR5 htr HST2 hR4
            go_wp2_with (first
              | (go_at_call 49; refine hins.mono ?_; clear hins; rintro e6 w6 ⟨g6, cap6, rfl, hrow6, hgr6, hat6⟩; have hxx := (HO5.out.rest (f := 4) (u := (.slice (some ⟨g6, 0, none⟩) (ks.length + 1) cap6)) hgr6 (fun m e => Jv.row_lt HO5.out.krow m e)).2.2.2.2.2; have hs6 : w5.heap.size ≤ w6.heap.size := (by have := hgr6.size; simp at this; omega); have hvb6 := HO5.out.vb.keep hxx hs6; have HO6 : Hid (Tryz.Oc b t q3 (o + 1) w w1.heap.size (insertAt ks (place ks kk) kk) had (.slice (some ⟨g6, 0, none⟩) (ks.length + 1) cap6) sv xs (some (v, y)) (w6.setCell ⟨w1.heap.size, 4, none⟩ (.slice (some ⟨g6, 0, none⟩) (ks.length + 1) cap6))) := HO5.out.key hgr6 hrow6 (hat6.imp id (fun h => (by simpa using h))); have h64c := hvb6.c4; have h65c := hvb6.c5; have h64f := hvb6.f4; have h65f := hvb6.f5; have hins2 := Tryz.ins_any_ptr (w1.heap.size + 1) sv (Jv.ptrs xs) ((w6.setCell ⟨w1.heap.size, 4, none⟩ (.slice (some ⟨g6, 0, none⟩) (ks.length + 1) cap6)).alloc (.cells #[.pointer (some ⟨y, 0, none⟩)] 27)) (by rw [Jv.ptrs_len]; exact Jv.row_alloc HO6.out.row _) (by simp; omega) (place ks kk) (by rw [Jv.ptrs_len, HXL.out, ← HKL.out]; exact hpl) (by rw [Jv.ptrs_len, HXL.out]; exact h64) (.pointer (some ⟨y, 0, none⟩)) rfl (by simp [Jv.ptrs, Value.oneCell']) w6.heap.size (by have h9 := heap_alloc_new (w6.setCell ⟨w1.heap.size, 4, none⟩ (.slice (some ⟨g6, 0, none⟩) (ks.length + 1) cap6)) (.cells #[.pointer (some ⟨y, 0, none⟩)] 27); simpa using h9) (fun e => by have h9 := (Jv.row_lt HO6.out.row _ e).2; simp at h9); rw [Jv.ptrs_len] at hins2; clear hvb6)
              | (go_at_call 50; refine hins2.mono ?_; clear hins2; rintro e8 w8 ⟨g8, cap8, rfl, hrow8, hgr8, hat8⟩; have hxx8 := (HO6.out.rest (f := 5) (u := (.slice (some ⟨g8, 0, none⟩) (xs.length + 1) cap8)) hgr8 (fun m e => Jv.row_lt HO6.out.row m e)).2.2.2.2.2; have hs8 : (w6.setCell ⟨w1.heap.size, 4, none⟩ (.slice (some ⟨g6, 0, none⟩) (ks.length + 1) cap6)).heap.size ≤ w8.heap.size := (by have := hgr8.size; simp at this ⊢; omega); have hvb8 := HO6.out.vb.keep hxx8 hs8; have h85c := hvb8.c5; have h85f := hvb8.f5; clear hvb8)
              | fail)
            go_roundg k
            case measure => have := HK.out; omega
            case rel =>
              have h1 := HK.out
              have h2 := HKK.out
              have h3 := HKL.out
              refine ⟨q3, insertAt ks (place ks kk) kk, insertAt had (place ks kk) v, .slice (some ⟨g6, 0, none⟩) (ks.length + 1) cap6, .slice (some ⟨g8, 0, none⟩) (xs.length + 1) cap8, insertAt xs (place ks kk) y, HX.out, by rw [insertAt_len]; omega, by rw [insertAt_len]; omega, by rw [insertAt_len, insertAt_len]; omega, ?_⟩
              exact HO6.out.item (by omega) hgr8 hrow8 (hat8.imp id (fun h => (by simpa using h)))
/-- 'number', as 'value' takes it. -/
theorem Tryz.num_ok : Tryz.NumOk := fun _ _ _ _ _ h hT hbg => Tryz.number_any h hT hbg
theorem Tryz.value_ok : ∀ d, Tryz.ValOk d := Tryz.value_all Tryz.num_ok (fun _ h => Tryz.object_any h)
/-- 'Parse', at every text. -/
theorem Tryz.parse_any (t : ByteArray) (a : Option Addr) (c : Nat) (w : World) (hs : t.size ≤ 140737488355328) (hT : Tryz.Tb w)
    (hcv : ∀ W : World, Below w.heap.size w W → (convert 32 9 (.slice a t.size c)).run Tryz.prog W = .ok (.string t) W) :
    Calls Tryz.prog 8 #[.slice a t.size c] w fun en w' => Tryz.ParseOk t w en w' := by
  by_cases h : 4096 < t.size
  · exact Tryz.parse_long t a c w h hs
  · exact Tryz.parse_short (Tryz.value_ok 10) t a c w (by omega) hT hcv
end Go.Proofs
