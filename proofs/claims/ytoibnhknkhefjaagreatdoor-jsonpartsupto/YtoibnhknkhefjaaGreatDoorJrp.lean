/-
  The document's 'Path', at every text.
-/
import Derived.Test.YtoibnhknkhefjaaGreatDoorJsr
namespace Go.Proofs
open Go.RowKit Go.Jv
theorem Jv.sqn_tail (s : ByteArray) (p : Nat) : sqn (s.extract p s.size) = if 128 ≤ (s.get! p).toNat ∧ (Utf8.decode s p).2 = 1 then 0 else (Utf8.decode s p).2 := by
  unfold sqn
  rw [Lib.tail_get!, Lib.tail_decode, Nat.add_zero]
/-- What the document's 'Path' leaves. -/
def Tryz.RefPathOk (s : ByteArray) (w : World) (en : Ending) (w' : World) : Prop :=
  (∃ l v, path s = .ok l ∧ en = .returned (.tuple #[v, .int .i64 0, .int .i64 0]) ∧ w'.ownsRow w.heap.size 9 1 v l.length (Jv.txts l) ∧ Below w.heap.size w w') ∨
  (∃ p e : Nat, path s = .bad p e ∧ en = .returned (.tuple #[.slice none 0 0, .int .i64 p, .int .i64 e]) ∧ Below w.heap.size w w')
set_option maxRecDepth 100000 in
set_option maxHeartbeats 4000000 in
theorem Tryz.refPath_any (s : ByteArray) (hs : s.size ≤ 140737488355328) (w : World) :
    Calls Tryz.prog 29 #[.string s] w fun en w' => Tryz.RefPathOk s w en w' := by
  by_cases h200 : 200 < s.size
  · have h1 : (200 : Int) < (s.size : Int) := by omega
    have hP : path s = .bad 200 22 := by unfold path; rw [if_pos h200]
    have HP : Hid (path s = .bad 200 22) := hP
    clear hP
    clear h200
    go_enter Tryz.func29, Tryz.ntmps29
    go_wp2
    go_ret3
    exact .inr ⟨200, 22, HP.out, rfl, Below.refl _ _⟩
  · have h1 : ¬ (200 : Int) < (s.size : Int) := by omega
    have hP : path s = pathF s (s.size + 1) 0 [] [] := by unfold path; rw [if_neg h200]
    have HP : Hid _ := hP
    clear hP
    go_enter Tryz.func29, Tryz.ntmps29
    go_wp2
    go_loopw [5, 6, 7] (fun pv bv i wr => ∃ (n p : Nat) (parts : List ByteArray) (part : List UInt8), i = .int .i64 p ∧ Tryz.Ph s w n p parts part pv bv wr) (fun _ _ i _ => s.size - (intOf i).toNat)
    case atStart => exact ⟨s.size + 1, 0, [], [], rfl, by omega, by omega, ⟨rfl, .inl ⟨rfl, rfl⟩⟩, ⟨rfl, .inl ⟨rfl, rfl⟩⟩, Below.refl _ _, by simp, by simp, rfl⟩
    case round =>
      obtain ⟨n, p, parts, part, rfl, hH⟩ := hrel
      have HH : Hid _ := hH
      have hcv1 : (convert 39 9 u6).run Tryz.prog wr = .ok (.string ⟨part.toArray⟩) wr := Tryz.gathered hH.rb
      have hlp := hH.lp
      have hlb := hH.lb
      have hsr := hH.bl.size
      have hps := hH.hp
      by_cases hlt : p < s.size
      · obtain ⟨m, rfl⟩ : ∃ m, n = m + 1 := ⟨n - 1, by have := hH.hn; omega⟩
        have q1 : (p : Int) < (s.size : Int) := by omega
        have hD := Tryz.sequence_any (s.extract p s.size) (by rw [Lib.tail_size]; omega) (by rw [Lib.tail_size]; omega) wr
        rw [Jv.sqn_tail] at hD
        have hdl : p + (Utf8.decode s p).2 ≤ s.size := Sg.decode_in s p hlt
        have hd1 := Lib.width_pos s p
        have hg := Jv.get_eq s p hlt
        have hF := pathF_step s m p parts part hlt
        have hex : (s.extract p (p + (Utf8.decode s p).2)).data.toList.length = (Utf8.decode s p).2 := by
          rw [Array.length_toList]
          show (s.extract p (p + (Utf8.decode s p).2)).size = _
          rw [ByteArray.size_extract]; omega
        have hez : (s.extract p (p + (Utf8.decode s p).2)).size = (Utf8.decode s p).2 := by rw [ByteArray.size_extract]; omega
        have has : (s.get! p).toNat < 128 → (Utf8.decode s p).2 = 1 := fun h => by rw [Lib.decode_at]; simp [Lib.decodeN, h]
        generalize hc : s.get! p = c at *
        generalize hd : Utf8.decode s p = D at *
        obtain ⟨r, z⟩ := D
        simp only at hdl hd1 hF hex hez hD has
        have hzi : (p : Int) + (z : Int) ≤ (s.size : Int) := by omega
        clear hc hd hH
        by_cases hbad : 128 ≤ c.toNat ∧ z = 1
        · rw [if_pos hbad] at hF hD
          have HF : Hid _ := hF
          clear hF hex hez has
          go_wp2_with (first
            | (go_at_call 31; refine hD.mono ?_; clear hD; rintro e1 w1 ⟨cut, rfl, rfl⟩)
            | fail)
          go_ret3
          exact .inr ⟨p, 10, HP.out.trans (HH.out.eq.symm.trans HF.out), rfl, HH.out.bl⟩
        · rw [if_neg hbad] at hF hD
          have hz0 : ¬ (z : Int) = 0 := by omega
          by_cases h46 : c.toNat = 46
          · have b46 : (c.toNat : Int) = 46 := by omega
            rw [if_pos h46] at hF
            have HF : Hid _ := hF
            clear hF hex hez has
            go_wp2_with (first
              | (go_at_call 31; refine hD.mono ?_; clear hD; rintro e1 w1 ⟨cut, rfl, rfl⟩)
              | (at_builtin; refine Tryz.app_txt rfl _ _ rfl w.heap.size u5 parts.length (Jv.txts parts) rfl w1 HH.out.rp hsr ⟨part.toArray⟩ rfl (by omega) ?_; intro v2 w2 hown2 hg2)
              | fail)
            go_roundw
            case rel => exact ⟨m, p + z, parts ++ [⟨part.toArray⟩], [], by go_num, HH.out.part (Below.refl _ _) hd1 hdl hown2 hg2 HF.out⟩
            case measure => simp [intOf]; omega
          · have b46 : ¬ (c.toNat : Int) = 46 := by omega
            rw [if_neg h46] at hF
            by_cases h92 : c.toNat = 92
            · have b92 : (c.toNat : Int) = 92 := by omega
              rw [if_neg (by omega)] at hF
              have hz1 : z = 1 := has (by omega)
              subst hz1
              by_cases hend : p + 1 = s.size
              · rw [if_pos (.inl hend)] at hF
                have HF : Hid _ := hF
                have bend : ((p : Int) + 1 == (s.size : Int)) = true := beq_iff_eq.2 (by omega)
                have bend' : (p : Int) + 1 = (s.size : Int) := by omega
                clear hF hex hez has
                go_wp2_with (first
                  | (go_at_call 31; refine hD.mono ?_; clear hD; rintro e1 w1 ⟨cut, rfl, rfl⟩)
                  | fail)
                go_ret3
                exact .inr ⟨p, 25, HP.out.trans (HH.out.eq.symm.trans HF.out), rfl, HH.out.bl⟩
              · have bend : ((p : Int) + 1 == (s.size : Int)) = false := by rw [beq_eq_false_iff_ne]; omega
                have bend' : ¬ (p : Int) + 1 = (s.size : Int) := by omega
                have bl1 : (p : Int) + 1 < (s.size : Int) := by omega
                have hg1 := Jv.get_eq s (p + 1) (by omega)
                generalize s.get! (p + 1) = d at *
                by_cases d46 : d.toNat = 46
                · have c46 : (d.toNat : Int) = 46 := by omega
                  rw [if_neg (fun h => h.elim hend (fun h => h.1 d46))] at hF
                  have HF : Hid _ := hF
                  clear hF hex hez has
                  go_wp2_with (first
                    | (go_at_call 31; refine hD.mono ?_; clear hD; rintro e1 w1 ⟨cut, rfl, rfl⟩)
                    | (at_builtin; refine Tryz.app_one2 rfl _ _ rfl w.heap.size u6 part.length (Lib.byteCells part) rfl w1 HH.out.rb hsr (.int .u8 46) rfl rfl (by omega) ?_; intro v2 w2 hown2 hg2)
                    | fail)
                  go_roundw
                  case rel => exact ⟨m, p + 2, parts, part ++ [d], by go_num, HH.out.more (Jv.bthen0 (Below.refl _ _) ((Below.refl _ _).alloc (Nat.le_refl _) _)) (by omega) (by omega) (by simp) (by rw [show Lib.byteCells [d] = [.int .u8 46] by simp [Lib.byteCells, d46]]; exact hown2) hg2 HF.out⟩
                  case measure => simp [intOf]; omega
                · have c46 : ¬ (d.toNat : Int) = 46 := by omega
                  by_cases d92 : d.toNat = 92
                  · have c92 : (d.toNat : Int) = 92 := by omega
                    rw [if_neg (fun h => h.elim hend (fun h => h.2 d92))] at hF
                    have HF : Hid _ := hF
                    clear hF hex hez has
                    go_wp2_with (first
                      | (go_at_call 31; refine hD.mono ?_; clear hD; rintro e1 w1 ⟨cut, rfl, rfl⟩)
                      | (at_builtin; refine Tryz.app_one2 rfl _ _ rfl w.heap.size u6 part.length (Lib.byteCells part) rfl w1 HH.out.rb hsr (.int .u8 92) rfl rfl (by omega) ?_; intro v2 w2 hown2 hg2)
                      | fail)
                    go_roundw
                    case rel => exact ⟨m, p + 2, parts, part ++ [d], by go_num, HH.out.more (Jv.bthen0 (Below.refl _ _) ((Below.refl _ _).alloc (Nat.le_refl _) _)) (by omega) (by omega) (by simp) (by rw [show Lib.byteCells [d] = [.int .u8 92] by simp [Lib.byteCells, d92]]; exact hown2) hg2 HF.out⟩
                    case measure => simp [intOf]; omega
                  · have c92 : ¬ (d.toNat : Int) = 92 := by omega
                    have c92b : ((d.toNat : Int) != 92) = true := by simp; omega
                    have c46b : ((d.toNat : Int) != 46) = true := by simp; omega
                    rw [if_pos (.inr ⟨d46, d92⟩)] at hF
                    have HF : Hid _ := hF
                    clear hF hex hez has
                    go_wp2_with (first
                      | (go_at_call 31; refine hD.mono ?_; clear hD; rintro e1 w1 ⟨cut, rfl, rfl⟩)
                      | fail)
                    go_ret3
                    exact .inr ⟨p, 25, HP.out.trans (HH.out.eq.symm.trans HF.out), rfl, HH.out.bl⟩
            · have b92 : ¬ (c.toNat : Int) = 92 := by omega
              rw [if_pos h92] at hF
              have HF : Hid _ := hF
              clear hF has
              go_wp2_with (first
                | (go_at_call 31; refine hD.mono ?_; clear hD; rintro e1 w1 ⟨cut, rfl, rfl⟩)
                | (at_builtin; refine Tryz.app_str2 rfl _ _ rfl w.heap.size u6 part.length (Lib.byteCells part) rfl w1 HH.out.rb hsr (s.extract p (p + z)) (by simp [Act.eval]) (by omega) ?_; intro v2 w2 hown2 hg2)
                | fail)
              go_roundw
              case rel => exact ⟨m, p + z, parts, part ++ (s.extract p (p + z)).data.toList, by go_num, HH.out.more (Below.refl _ _) hd1 hdl (by omega) (by rw [hez] at hown2; rw [hex]; exact hown2) hg2 HF.out⟩
              case measure => simp [intOf]; omega
      · have q1 : ¬ (p : Int) < (s.size : Int) := by omega
        have HF : Hid _ := pathF_end s n p parts part hlt
        clear hH
        go_wp2_with (first
          | (at_builtin; refine Tryz.app_txt rfl _ _ rfl w.heap.size u5 parts.length (Jv.txts parts) rfl wr HH.out.rp hsr ⟨part.toArray⟩ rfl (by omega) ?_; intro v2 w2 hown2 hg2)
          | fail)
        go_ret3
        refine .inl ⟨parts ++ [⟨part.toArray⟩], v2, HP.out.trans (HH.out.eq.symm.trans HF.out), rfl, ?_, HH.out.bl.trans (Jv.below_grown hg2 hsr (Jv.row_block HH.out.rp))⟩
        have e1 : (parts ++ [(⟨part.toArray⟩ : ByteArray)]).length = parts.length + 1 := by simp
        have e2 : Jv.txts (parts ++ [(⟨part.toArray⟩ : ByteArray)]) = Jv.txts parts ++ [.string ⟨part.toArray⟩] := by simp [Jv.txts]
        rw [e1, e2]; exact hown2
end Go.Proofs
