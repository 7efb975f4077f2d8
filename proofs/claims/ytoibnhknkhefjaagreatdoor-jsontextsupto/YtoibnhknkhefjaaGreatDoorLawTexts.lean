/-
  JsonTexts, walked.
-/
import Derived.Test.YtoibnhknkhefjaaGreatDoorJsm
import Derived.Test.YtoibnhknkhefjaaGreatDoorJpb
import Derived.Test.YtoibnhknkhefjaaGreatDoorJrt
namespace Go.Jv
theorem qBytes_len : ∀ l : List UInt8, (qBytes l).length ≤ 6 * l.length
  | [] => by simp [qBytes]
  | c :: l => by
    have h1 := (qByte_len c).2
    have h2 := qBytes_len l
    rw [show c :: l = [c] ++ l from rfl, qBytes_app, List.length_append, List.length_append]
    have h3 : (qBytes [c]).length = (qByte c).length := by simp [qBytes]
    simp; omega
theorem qText_len6 (s : ByteArray) : (qText s).length ≤ 6 * s.size + 2 := by
  have h := qBytes_len s.data.toList
  rw [Lib.size_eq]
  unfold qText
  simp at h ⊢
  omega
end Go.Jv
namespace Go.Proofs
open Go.RowKit Go.Jv
set_option maxRecDepth 100000 in
set_option maxHeartbeats 4000000 in
theorem Tryz.jsonTextsWalk (s : ByteArray) (hs : s.size ≤ 1048576) (w : World) (hT : Tryz.Tb w) :
    Calls Tryz.prog 4 #[.string s] w fun e w' => e = .returned (.bool true) ∧ Below w.heap.size w w' := by
  have ha := Tryz.awake_any w hT
  have ho1 := fun W => Tryz.ofText_any s (by omega) W
  have hrr := fun W => Tryz.refRight_any s (by omega) W
  have hsz := rightB_size s
  have ho2 := fun W => Tryz.ofText_any (rightB s) (by omega) W
  have hgd : Gd 10 (.text (rightB s)) := by unfold Gd; exact rightB_valid s
  have hpl := qText_len6 (rightB s)
  have hpr : pr (.text (rightB s)) = qText (rightB s) := by rw [pr]
  rw [← hpr] at hpl
  rw [rightB_twice] at ho2
  have hprint := fun W x hx hW => Tryz.print_any (.text (rightB s)) W x hx hW (by omega)
  have hTr : ∀ W x, Jv.Vb W x 3 false 0 (rightB s) Jv.nilS Jv.nilS → Tryz.Tr W (fun g => g < W.heap.size) (.text (rightB s)) x := fun W x h => by unfold Tryz.Tr; exact ⟨h.lt, h⟩
  have hps : (⟨(pr (.text (rightB s))).toArray⟩ : ByteArray).size = (pr (.text (rightB s))).length := by simp [ByteArray.size]
  have hpp := fun h => parse_pr hgd h
  have hUn : ∀ W ok x, Tryz.Tr W ok (.text (rightB s)) x → ok x ∧ Jv.Vb W x 3 false 0 (rightB s) Jv.nilS Jv.nilS := fun W ok x h => by unfold Tryz.Tr at h; exact h
  generalize hP : (⟨(pr (.text (rightB s))).toArray⟩ : ByteArray) = P at *
  generalize (pr (.text (rightB s))).length = n at *
  generalize hV : V.text (rightB s) = V0 at *
  generalize rightB s = t at *
  have HTr : Hid _ := hTr
  have HUn : Hid _ := hUn
  have HT : Hid _ := hT
  clear hTr hUn hT hP hV hpr hgd hpl hsz
  by_cases hbig : 4096 < n
  · have q0 : (4096 : Int) < (P.size : Int) := by omega
    clear hpp
    go_enter Tryz.func4, Tryz.ntmps4
    go_wp2_with (first
      | (go_at_call 8; refine ha.mono ?_; clear ha; rintro e1 w1 ⟨rfl, hb1⟩; have hT1 := HT.out.below hb1 HT.out.size)
      | (go_at_call 11; refine (ho1 _).mono ?_; clear ho1; rintro e2 w2 ⟨x, rfl, htx, hhx, hb2⟩; have hx2 := (HUn.out _ _ _ htx).2; clear htx; have htxt := Tryz.text_of hx2)
      | (go_at_call 12; refine htxt.mono ?_; clear htxt; rintro e3 w3 ⟨rfl, rfl⟩)
      | (go_at_call 13; refine (hrr _).mono ?_; clear hrr; rintro e4 w4 ⟨rfl, hb4⟩; have hx4 := hx2.keep (hb4.block x hx2.lt) hb4.size; clear hx2)
      | (go_at_call 11; refine (ho2 _).mono ?_; clear ho2; rintro e5 w5 ⟨y, rfl, hty, -, hb5⟩; have hy5 := (HUn.out _ _ _ hty).2; clear hty; have hx5 := hx4.keep (hb5.block x hx4.lt) hb5.size; clear hx4; have hty := Tryz.text_of hy5; have hkx := Tryz.kind_any hx5; have hpx := hprint _ x (HTr.out _ _ hx5) ((hT1.below hb2 hT1.size).below (Jv.bthen0 hb4 hb5) (hT1.below hb2 hT1.size).size); clear hprint)
      | (go_at_call 12; refine hty.mono ?_; clear hty; rintro e6 w6 ⟨rfl, rfl⟩)
      | (go_at_call 14; refine hkx.mono ?_; clear hkx; rintro e7 w7 ⟨rfl, rfl⟩)
      | (go_at_call 15; refine hpx.mono ?_; clear hpx; rintro e8 w8 ⟨rfl, hb8⟩)
      | fail)
    go_ret
    exact ⟨rfl, Jv.bthen0 (Jv.bthen0 (Jv.bthen0 (Jv.bthen0 hb1 hb2) hb4) hb5) hb8⟩
  · have q0 : ¬ (4096 : Int) < (P.size : Int) := by omega
    have hpa := fun c W hW => Tryz.parse_ok P V0 (hpp (by omega)) c W (by omega) hW
    have hsb := Tryz.conv_sb P
    clear hpp hps hbig
    go_enter Tryz.func4, Tryz.ntmps4
    go_wp2_with (first
      | (go_at_call 8; refine ha.mono ?_; clear ha; rintro e1 w1 ⟨rfl, hb1⟩; have hT1 := HT.out.below hb1 HT.out.size)
      | (go_at_call 11; refine (ho1 _).mono ?_; clear ho1; rintro e2 w2 ⟨x, rfl, htx, hhx, hb2⟩; have hx2 := (HUn.out _ _ _ htx).2; clear htx; have htxt := Tryz.text_of hx2)
      | (go_at_call 12; refine htxt.mono ?_; clear htxt; rintro e3 w3 ⟨rfl, rfl⟩)
      | (go_at_call 13; refine (hrr _).mono ?_; clear hrr; rintro e4 w4 ⟨rfl, hb4⟩; have hx4 := hx2.keep (hb4.block x hx2.lt) hb4.size; have hhx4 := (hb4.block x hx2.lt).trans hhx; clear hx2 hhx)
      | (go_at_call 11; refine (ho2 _).mono ?_; clear ho2; rintro e5 w5 ⟨y, rfl, hty, -, hb5⟩; have hy5 := (HUn.out _ _ _ hty).2; clear hty; have hx5 := hx4.keep (hb5.block x hx4.lt) hb5.size; have hhx5 := (hb5.block x hx4.lt).trans hhx4; clear hx4 hhx4; have hty := Tryz.text_of hy5; have hkx := Tryz.kind_any hx5; have hT5 := (hT1.below hb2 hT1.size).below (Jv.bthen0 hb4 hb5) (hT1.below hb2 hT1.size).size; have hpx := hprint _ x (HTr.out _ _ hx5) hT5; clear hprint)
      | (go_at_call 12; refine hty.mono ?_; clear hty; rintro e6 w6 ⟨rfl, rfl⟩)
      | (go_at_call 14; refine hkx.mono ?_; clear hkx; rintro e7 w7 ⟨rfl, rfl⟩)
      | (go_at_call 15; refine hpx.mono ?_; clear hpx; rintro e8 w8 ⟨rfl, hb8⟩; have hT8 := hT5.below hb8 hT5.size; have hx8 := hx5.keep (hb8.block x hx5.lt) hb8.size; have hhx8 := (hb8.block x hx5.lt).trans hhx5; clear hhx5)
      | (go_at_call 16; refine (hpa _ _ hT8).mono ?_; clear hpa; rintro e9 w9 ⟨z, rfl, htz, hb9⟩; obtain ⟨hzl, hz9⟩ := HUn.out _ _ _ htz; clear htz; have hx9 := hx8.keep (hb9.block x hx8.lt) hb9.size; have hhx9 := (hb9.block x hx8.lt).trans hhx8; have hsm := Tryz.same_text hhx9 hx9 hz9 (by have := hx8.lt; omega))
      | (go_at_call 17; refine hsm.mono ?_; clear hsm; rintro e10 w10 ⟨rfl, hb10⟩)
      | fail)
    go_ret
    exact ⟨rfl, Jv.bthen0 (Jv.bthen0 (Jv.bthen0 (Jv.bthen0 (Jv.bthen0 (Jv.bthen0 hb1 hb2) hb4) hb5) hb8) hb9) hb10⟩
end Go.Proofs
