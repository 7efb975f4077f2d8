/-
  Laid together by packg.py of Jsr Jrp Jrl TmR.
-/
import Derived.Test.YtcakkkafanpjaaaGreatDoorQaM
import Derived.Test.YtcakkkafanpjaaaGreatDoorQaL
import Derived.Test.YtcakkkafanpjaaaGreatDoorQaC
import Derived.Lib.MapLaws
import Derived.Lib.ValidLaws
import Derived.Lib.TrimUEq
namespace Go.Proofs
open Go.RowKit Go.Jv
/-- What 'Sequence' leaves. -/
def Tryz.SqOk (n : Nat) (w : World) (en : Ending) (w' : World) : Prop := ∃ b, en = .returned (.tuple #[.int .i64 n, .bool b]) ∧ w' = w
set_option maxRecDepth 100000 in
set_option maxHeartbeats 8000000 in
theorem Tryz.sequence_any (u : ByteArray) (h0 : 0 < u.size) (hs : u.size ≤ 140737488355328) (w : World) :
    Calls Tryz.prog 67 #[.string u] w fun en w' => Tryz.SqOk (sqn u) w en w' := by
  have hg := Jv.get_eq u 0 h0
  have q0 : (0 : Int) < (u.size : Int) := by omega
  have hne : u.toList.isEmpty = false := by
    rw [Lib.toList_data]
    cases h : u.data.toList with
    | nil => exact absurd h0 (by rw [Lib.size_eq, h]; simp)
    | cons _ _ => rfl
  have hbl : (u.get! 0).toNat < 256 := UInt8.toNat_lt _
  by_cases c128 : (u.get! 0).toNat < 128
  · have HS : Hid _ := sq_ascii c128
    generalize u.get! 0 = c at *
    have hwc : wrap64 (c.toNat : Int) = (c.toNat : Int) := by unfold wrap64; omega
    have b128 : (c.toNat : Int) < 128 := by omega
    go_enter Tryz.func67, Tryz.ntmps67
    go_wp2
    go_ret2
    exact ⟨_, by rw [HS.out]; rfl, rfl⟩
  · by_cases hout : (u.get! 0).toNat < 194 ∨ 244 < (u.get! 0).toNat
    · have HS : Hid _ := sq_other (by omega) hout
      generalize u.get! 0 = c at *
      have hwc : wrap64 (c.toNat : Int) = (c.toNat : Int) := by unfold wrap64; omega
      have b128 : ¬ (c.toNat : Int) < 128 := by omega
      have b223 : (194 : Int) ≤ (c.toNat : Int) → ¬ (c.toNat : Int) ≤ 223 := by omega
      by_cases b194 : (194 : Int) ≤ (c.toNat : Int)
      · have f223 : ¬ (c.toNat : Int) ≤ 223 := by omega
        have f224 : (224 : Int) ≤ (c.toNat : Int) := by omega
        have f239 : ¬ (c.toNat : Int) ≤ 239 := by omega
        have f240 : (240 : Int) ≤ (c.toNat : Int) := by omega
        have f244 : ¬ (c.toNat : Int) ≤ 244 := by omega
        clear b223 hout
        go_enter Tryz.func67, Tryz.ntmps67
        go_wp2
        go_ret2
        exact ⟨_, by rw [HS.out]; rfl, rfl⟩
      · have f224 : ¬ (224 : Int) ≤ (c.toNat : Int) := by omega
        have f240 : ¬ (240 : Int) ≤ (c.toNat : Int) := by omega
        clear b223 hout
        go_enter Tryz.func67, Tryz.ntmps67
        go_wp2
        go_ret2
        exact ⟨_, by rw [HS.out]; rfl, rfl⟩
    · have hI : SqI u 1 := ⟨by omega, by omega, by omega, by have := sqL_bound (u.get! 0).toNat; omega, by omega, fun j _ _ => by omega⟩
      have HI : Hid _ := hI
      have hall : ∀ k, SqI u k → (k < sqL (u.get! 0).toNat → k = u.size → sqn u = 0) ∧ (k < sqL (u.get! 0).toNat → ¬ (sqLo2 (u.get! 0).toNat k ≤ (u.get! k).toNat ∧ (u.get! k).toNat ≤ sqHi2 (u.get! 0).toNat k) → sqn u = 0) ∧ (k < sqL (u.get! 0).toNat → k < u.size → (sqLo2 (u.get! 0).toNat k ≤ (u.get! k).toNat ∧ (u.get! k).toNat ≤ sqHi2 (u.get! 0).toNat k) → SqI u (k + 1)) ∧ (¬ k < sqL (u.get! 0).toNat → sqn u = sqL (u.get! 0).toNat) ∧ 1 ≤ k ∧ k ≤ u.size :=
        fun k hk => ⟨fun h1 h2 => sq_short hk h1 h2, fun h1 h2 => sq_wrong hk h1 (fun h => h2 ((sqB_iff _ _ _).1 h)), fun h1 h2 h3 => hk.next h1 h2 ((sqB_iff _ _ _).2 h3), fun h1 => sq_done hk (by have := hk.most; omega), hk.one, hk.size⟩
      have HA : Hid _ := hall
      clear hall hI
      have hcls : ((u.get! 0).toNat ≤ 223 ∧ sqL (u.get! 0).toNat = 2 ∧ sqLo (u.get! 0).toNat = 128 ∧ sqHi (u.get! 0).toNat = 191) ∨ ((u.get! 0).toNat = 224 ∧ sqL (u.get! 0).toNat = 3 ∧ sqLo (u.get! 0).toNat = 160 ∧ sqHi (u.get! 0).toNat = 191) ∨ ((225 ≤ (u.get! 0).toNat ∧ (u.get! 0).toNat ≤ 239 ∧ ¬ (u.get! 0).toNat = 237) ∧ sqL (u.get! 0).toNat = 3 ∧ sqLo (u.get! 0).toNat = 128 ∧ sqHi (u.get! 0).toNat = 191) ∨ ((u.get! 0).toNat = 237 ∧ sqL (u.get! 0).toNat = 3 ∧ sqLo (u.get! 0).toNat = 128 ∧ sqHi (u.get! 0).toNat = 159) ∨ ((u.get! 0).toNat = 240 ∧ sqL (u.get! 0).toNat = 4 ∧ sqLo (u.get! 0).toNat = 144 ∧ sqHi (u.get! 0).toNat = 191) ∨ ((241 ≤ (u.get! 0).toNat ∧ (u.get! 0).toNat ≤ 243) ∧ sqL (u.get! 0).toNat = 4 ∧ sqLo (u.get! 0).toNat = 128 ∧ sqHi (u.get! 0).toNat = 191) ∨ ((u.get! 0).toNat = 244 ∧ sqL (u.get! 0).toNat = 4 ∧ sqLo (u.get! 0).toNat = 128 ∧ sqHi (u.get! 0).toNat = 143) := by
        unfold sqL sqLo sqHi
        repeat' split
        all_goals omega
      have HG : Hid (∀ k : Nat, (hk : k < u.size) → u[k] = u.get! k) := fun k hk => Jv.get_eq u k hk
      generalize u.get! 0 = c at *
      have hwc : wrap64 (c.toNat : Int) = (c.toNat : Int) := by unfold wrap64; omega
      have b128 : ¬ (c.toNat : Int) < 128 := by omega
      have b194 : (194 : Int) ≤ (c.toNat : Int) := by omega
      have b244 : (c.toNat : Int) ≤ 244 := by omega
      generalize hL : sqL c.toNat = L at *
      clear hL
      have HD : Hid (∀ k : Nat, k < L ∨ ¬ k < L) := fun k => by omega
      rcases hcls with ⟨hc, rfl, hlo, hhi⟩ | ⟨hc, rfl, hlo, hhi⟩ | ⟨hc, rfl, hlo, hhi⟩ | ⟨hc, rfl, hlo, hhi⟩ | ⟨hc, rfl, hlo, hhi⟩ | ⟨hc, rfl, hlo, hhi⟩ | ⟨hc, rfl, hlo, hhi⟩
      all_goals
        first | (have f223 : (c.toNat : Int) ≤ 223 := by omega) | (have f223 : ¬ (c.toNat : Int) ≤ 223 := by omega)
        first | (have f224 : (224 : Int) ≤ (c.toNat : Int) := by omega) | (have f224 : ¬ (224 : Int) ≤ (c.toNat : Int) := by omega)
        first | (have f239 : (c.toNat : Int) ≤ 239 := by omega) | (have f239 : ¬ (c.toNat : Int) ≤ 239 := by omega)
        first | (have f240 : (240 : Int) ≤ (c.toNat : Int) := by omega) | (have f240 : ¬ (240 : Int) ≤ (c.toNat : Int) := by omega)
        first | (have e224 : (c.toNat : Int) = 224 := by omega) | (have e224 : ¬ (c.toNat : Int) = 224 := by omega)
        first | (have e237 : (c.toNat : Int) = 237 := by omega) | (have e237 : ¬ (c.toNat : Int) = 237 := by omega)
        first | (have e240 : (c.toNat : Int) = 240 := by omega) | (have e240 : ¬ (c.toNat : Int) = 240 := by omega)
        first | (have e244 : (c.toNat : Int) = 244 := by omega) | (have e244 : ¬ (c.toNat : Int) = 244 := by omega)
        go_enter Tryz.func67, Tryz.ntmps67
        go_wp2
        go_loopw [6, 7, 8] (fun lo hi i wr => ∃ k : Nat, i = .int .i64 k ∧ lo = .int .i64 (sqLo2 c.toNat k : Nat) ∧ hi = .int .i64 (sqHi2 c.toNat k : Nat) ∧ SqI u k ∧ wr = w) (fun _ _ i _ => u.size - (intOf i).toNat)
        case atStart => exact ⟨1, rfl, by simp [sqLo2, hlo], by simp [sqHi2, hhi], HI.out, rfl⟩
        case round =>
          obtain ⟨k, rfl, rfl, rfl, hk, rfl⟩ := hrel
          obtain ⟨k1, k2, k3, k4, k5, k6⟩ := HA.out k hk
          have e1 : sqLo2 c.toNat (k + 1) = 128 := by unfold sqLo2; rw [if_neg (by omega)]
          have e2 : sqHi2 c.toNat (k + 1) = 191 := by unfold sqHi2; rw [if_neg (by omega)]
          have E1 : Hid _ := e1
          have E2 : Hid _ := e2
          clear e1 e2
          rcases HD.out k with d1 | d1
          · first | (have d2 : (k : Int) < 2 := by omega) | (have d2 : (k : Int) < 3 := by omega) | (have d2 : (k : Int) < 4 := by omega)
            by_cases hks : k = u.size
            · have d3 : (k : Int) = (u.size : Int) := by omega
              have HS : Hid _ := k1 d1 hks
              clear k1 k2 k3 k4
              go_wp2
              go_ret2
              exact ⟨_, by rw [HS.out]; rfl, rfl⟩
            · have d3 : ¬ (k : Int) = (u.size : Int) := by omega
              have d4 : (k : Int) < (u.size : Int) := by omega
              have hgk := HG.out k (by omega)
              have hdl : (u.get! k).toNat < 256 := UInt8.toNat_lt _
              generalize u.get! k = d at *
              have hwd : wrap64 (d.toNat : Int) = (d.toNat : Int) := by unfold wrap64; omega
              generalize hx1 : sqLo2 c.toNat k = x1 at *
              generalize hx2 : sqHi2 c.toNat k = x2 at *
              clear hx1 hx2
              by_cases hl : x1 ≤ d.toNat
              · have dl : ¬ (d.toNat : Int) < (x1 : Int) := by omega
                by_cases hh : d.toNat ≤ x2
                · have HN : Hid _ := k3 d1 (by omega) ⟨hl, hh⟩
                  have dh : ¬ (x2 : Int) < (d.toNat : Int) := by omega
                  clear k1 k2 k3 k4
                  go_wp2
                  go_roundw
                  case rel => exact ⟨k + 1, by go_num, by rw [E1.out]; rfl, by rw [E2.out]; rfl, HN.out, by trivial⟩
                  case measure => simp [intOf]; omega
                · have dh : (x2 : Int) < (d.toNat : Int) := by omega
                  have HS : Hid _ := k2 d1 (fun h => hh h.2)
                  clear k1 k2 k3 k4
                  go_wp2
                  go_ret2
                  exact ⟨_, by rw [HS.out]; rfl, rfl⟩
              · have dl : (d.toNat : Int) < (x1 : Int) := by omega
                have HS : Hid _ := k2 d1 (fun h => hl h.1)
                clear k1 k2 k3 k4
                go_wp2
                go_ret2
                exact ⟨_, by rw [HS.out]; rfl, rfl⟩
          · first | (have d2 : ¬ (k : Int) < 4 := by omega) | (have d2 : ¬ (k : Int) < 3 := by omega) | (have d2 : ¬ (k : Int) < 2 := by omega)
            have HS : Hid _ := k4 d1
            clear k1 k2 k3 k4
            go_wp2
            go_ret2
            exact ⟨_, by rw [HS.out]; rfl, rfl⟩
end Go.Proofs
namespace Go.Proofs
open Go.RowKit Go.Jv
theorem Jv.sqn_tail (s : ByteArray) (p : Nat) : sqn (s.extract p s.size) = if 128 ≤ (s.get! p).toNat ∧ (Utf8.decode s p).2 = 1 then 0 else (Utf8.decode s p).2 := by
  unfold sqn
  rw [Lib.tail_get!, Lib.tail_decode, Nat.add_zero]
/-- What the document's 'Path' leaves. -/
def Tryz.RefPathOk (s : ByteArray) (w : World) (en : Ending) (w' : World) : Prop :=
  (∃ l v, path s = .ok l ∧ en = .returned (.tuple #[v, .int .i64 0, .int .i64 0]) ∧ w'.ownsRow w.heap.size 9 1 v l.length (Jv.txts l) ∧ Below w.heap.size w w') ∨
  (∃ p e : Nat, path s = .bad p e ∧ en = .returned (.tuple #[.slice none 0 0, .int .i64 p, .int .i64 e]) ∧ Below w.heap.size w w')
set_option maxRecDepth 100000 in
set_option maxHeartbeats 4000000 in
theorem Tryz.refPath_any (s : ByteArray) (hs : s.size ≤ 140737488355328) (w : World) :
    Calls Tryz.prog 27 #[.string s] w fun en w' => Tryz.RefPathOk s w en w' := by
  by_cases h200 : 200 < s.size
  · have h1 : (200 : Int) < (s.size : Int) := by omega
    have hP : path s = .bad 200 22 := by unfold path; rw [if_pos h200]
    have HP : Hid (path s = .bad 200 22) := hP
    clear hP
    clear h200
    go_enter Tryz.func27, Tryz.ntmps27
    go_wp2
    go_ret3
    exact .inr ⟨200, 22, HP.out, rfl, Below.refl _ _⟩
  · have h1 : ¬ (200 : Int) < (s.size : Int) := by omega
    have hP : path s = pathF s (s.size + 1) 0 [] [] := by unfold path; rw [if_neg h200]
    have HP : Hid _ := hP
    clear hP
    go_enter Tryz.func27, Tryz.ntmps27
    go_wp2
    go_loopw [5, 6, 7] (fun pv bv i wr => ∃ (n p : Nat) (parts : List ByteArray) (part : List UInt8), i = .int .i64 p ∧ Tryz.Ph s w n p parts part pv bv wr) (fun _ _ i _ => s.size - (intOf i).toNat)
    case atStart => exact ⟨s.size + 1, 0, [], [], rfl, by omega, by omega, ⟨rfl, .inl ⟨rfl, rfl⟩⟩, ⟨rfl, .inl ⟨rfl, rfl⟩⟩, Below.refl _ _, by simp, by simp, rfl⟩
    case round =>
      obtain ⟨n, p, parts, part, rfl, hH⟩ := hrel
      have HH : Hid _ := hH
      have hcv1 : (convert 22 9 u6).run Tryz.prog wr = .ok (.string ⟨part.toArray⟩) wr := Tryz.gathered hH.rb
      have hlp := hH.lp
      have hlb := hH.lb
      have hsr := hH.bl.size
      have hps := hH.hp
      by_cases hlt : p < s.size
      · obtain ⟨m, rfl⟩ : ∃ m, n = m + 1 := ⟨n - 1, by have := hH.hn; omega⟩
        have q1 : (p : Int) < (s.size : Int) := by omega
        have hD := Tryz.sequence_any (s.extract p s.size) (by rw [Lib.tail_size]; omega) (by rw [Lib.tail_size]; omega) wr
        rw [Jv.sqn_tail] at hD
        have hdl : p + (Utf8.decode s p).2 ≤ s.size := Sg.decode_in s p hlt
        have hd1 := Lib.width_pos s p
        have hg := Jv.get_eq s p hlt
        have hF := pathF_step s m p parts part hlt
        have hex : (s.extract p (p + (Utf8.decode s p).2)).data.toList.length = (Utf8.decode s p).2 := by
          rw [Array.length_toList]
          show (s.extract p (p + (Utf8.decode s p).2)).size = _
          rw [ByteArray.size_extract]; omega
        have hez : (s.extract p (p + (Utf8.decode s p).2)).size = (Utf8.decode s p).2 := by rw [ByteArray.size_extract]; omega
        have has : (s.get! p).toNat < 128 → (Utf8.decode s p).2 = 1 := fun h => by rw [Lib.decode_at]; simp [Lib.decodeN, h]
        generalize hc : s.get! p = c at *
        generalize hd : Utf8.decode s p = D at *
        obtain ⟨r, z⟩ := D
        simp only at hdl hd1 hF hex hez hD has
        have hzi : (p : Int) + (z : Int) ≤ (s.size : Int) := by omega
        clear hc hd hH
        by_cases hbad : 128 ≤ c.toNat ∧ z = 1
        · rw [if_pos hbad] at hF hD
          have HF : Hid _ := hF
          clear hF hex hez has
          go_wp2_with (first
            | (go_at_call 67; refine hD.mono ?_; clear hD; rintro e1 w1 ⟨cut, rfl, rfl⟩)
            | fail)
          go_ret3
          exact .inr ⟨p, 10, HP.out.trans (HH.out.eq.symm.trans HF.out), rfl, HH.out.bl⟩
        · rw [if_neg hbad] at hF hD
          have hz0 : ¬ (z : Int) = 0 := by omega
          by_cases h46 : c.toNat = 46
          · have b46 : (c.toNat : Int) = 46 := by omega
            rw [if_pos h46] at hF
            have HF : Hid _ := hF
            clear hF hex hez has
            go_wp2_with (first
              | (go_at_call 67; refine hD.mono ?_; clear hD; rintro e1 w1 ⟨cut, rfl, rfl⟩)
              | (at_builtin; refine Tryz.app_txt rfl _ _ rfl w.heap.size u5 parts.length (Jv.txts parts) rfl w1 HH.out.rp hsr ⟨part.toArray⟩ rfl (by omega) ?_; intro v2 w2 hown2 hg2)
              | fail)
            go_roundw
            case rel => exact ⟨m, p + z, parts ++ [⟨part.toArray⟩], [], by go_num, HH.out.part (Below.refl _ _) hd1 hdl hown2 hg2 HF.out⟩
            case measure => simp [intOf]; omega
          · have b46 : ¬ (c.toNat : Int) = 46 := by omega
            rw [if_neg h46] at hF
            by_cases h92 : c.toNat = 92
            · have b92 : (c.toNat : Int) = 92 := by omega
              rw [if_neg (by omega)] at hF
              have hz1 : z = 1 := has (by omega)
              subst hz1
              by_cases hend : p + 1 = s.size
              · rw [if_pos (.inl hend)] at hF
                have HF : Hid _ := hF
                have bend : ((p : Int) + 1 == (s.size : Int)) = true := beq_iff_eq.2 (by omega)
                have bend' : (p : Int) + 1 = (s.size : Int) := by omega
                clear hF hex hez has
                go_wp2_with (first
                  | (go_at_call 67; refine hD.mono ?_; clear hD; rintro e1 w1 ⟨cut, rfl, rfl⟩)
                  | fail)
                go_ret3
                exact .inr ⟨p, 25, HP.out.trans (HH.out.eq.symm.trans HF.out), rfl, HH.out.bl⟩
              · have bend : ((p : Int) + 1 == (s.size : Int)) = false := by rw [beq_eq_false_iff_ne]; omega
                have bend' : ¬ (p : Int) + 1 = (s.size : Int) := by omega
                have bl1 : (p : Int) + 1 < (s.size : Int) := by omega
                have hg1 := Jv.get_eq s (p + 1) (by omega)
                generalize s.get! (p + 1) = d at *
                by_cases d46 : d.toNat = 46
                · have c46 : (d.toNat : Int) = 46 := by omega
                  rw [if_neg (fun h => h.elim hend (fun h => h.1 d46))] at hF
                  have HF : Hid _ := hF
                  clear hF hex hez has
                  go_wp2_with (first
                    | (go_at_call 67; refine hD.mono ?_; clear hD; rintro e1 w1 ⟨cut, rfl, rfl⟩)
                    | (at_builtin; refine Tryz.app_one2 rfl _ _ rfl w.heap.size u6 part.length (Lib.byteCells part) rfl w1 HH.out.rb hsr (.int .u8 46) rfl rfl (by omega) ?_; intro v2 w2 hown2 hg2)
                    | fail)
                  go_roundw
                  case rel => exact ⟨m, p + 2, parts, part ++ [d], by go_num, HH.out.more (Jv.bthen0 (Below.refl _ _) ((Below.refl _ _).alloc (Nat.le_refl _) _)) (by omega) (by omega) (by simp) (by rw [show Lib.byteCells [d] = [.int .u8 46] by simp [Lib.byteCells, d46]]; exact hown2) hg2 HF.out⟩
                  case measure => simp [intOf]; omega
                · have c46 : ¬ (d.toNat : Int) = 46 := by omega
                  by_cases d92 : d.toNat = 92
                  · have c92 : (d.toNat : Int) = 92 := by omega
                    rw [if_neg (fun h => h.elim hend (fun h => h.2 d92))] at hF
                    have HF : Hid _ := hF
                    clear hF hex hez has
                    go_wp2_with (first
                      | (go_at_call 67; refine hD.mono ?_; clear hD; rintro e1 w1 ⟨cut, rfl, rfl⟩)
                      | (at_builtin; refine Tryz.app_one2 rfl _ _ rfl w.heap.size u6 part.length (Lib.byteCells part) rfl w1 HH.out.rb hsr (.int .u8 92) rfl rfl (by omega) ?_; intro v2 w2 hown2 hg2)
                      | fail)
                    go_roundw
                    case rel => exact ⟨m, p + 2, parts, part ++ [d], by go_num, HH.out.more (Jv.bthen0 (Below.refl _ _) ((Below.refl _ _).alloc (Nat.le_refl _) _)) (by omega) (by omega) (by simp) (by rw [show Lib.byteCells [d] = [.int .u8 92] by simp [Lib.byteCells, d92]]; exact hown2) hg2 HF.out⟩
                    case measure => simp [intOf]; omega
                  · have c92 : ¬ (d.toNat : Int) = 92 := by omega
                    have c92b : ((d.toNat : Int) != 92) = true := by simp; omega
                    have c46b : ((d.toNat : Int) != 46) = true := by simp; omega
                    rw [if_pos (.inr ⟨d46, d92⟩)] at hF
                    have HF : Hid _ := hF
                    clear hF hex hez has
                    go_wp2_with (first
                      | (go_at_call 67; refine hD.mono ?_; clear hD; rintro e1 w1 ⟨cut, rfl, rfl⟩)
                      | fail)
                    go_ret3
                    exact .inr ⟨p, 25, HP.out.trans (HH.out.eq.symm.trans HF.out), rfl, HH.out.bl⟩
            · have b92 : ¬ (c.toNat : Int) = 92 := by omega
              rw [if_pos h92] at hF
              have HF : Hid _ := hF
              clear hF has
              go_wp2_with (first
                | (go_at_call 67; refine hD.mono ?_; clear hD; rintro e1 w1 ⟨cut, rfl, rfl⟩)
                | (at_builtin; refine Tryz.app_str2 rfl _ _ rfl w.heap.size u6 part.length (Lib.byteCells part) rfl w1 HH.out.rb hsr (s.extract p (p + z)) (by simp [Act.eval]) (by omega) ?_; intro v2 w2 hown2 hg2)
                | fail)
              go_roundw
              case rel => exact ⟨m, p + z, parts, part ++ (s.extract p (p + z)).data.toList, by go_num, HH.out.more (Below.refl _ _) hd1 hdl (by omega) (by rw [hez] at hown2; rw [hex]; exact hown2) hg2 HF.out⟩
              case measure => simp [intOf]; omega
      · have q1 : ¬ (p : Int) < (s.size : Int) := by omega
        have HF : Hid _ := pathF_end s n p parts part hlt
        clear hH
        go_wp2_with (first
          | (at_builtin; refine Tryz.app_txt rfl _ _ rfl w.heap.size u5 parts.length (Jv.txts parts) rfl wr HH.out.rp hsr ⟨part.toArray⟩ rfl (by omega) ?_; intro v2 w2 hown2 hg2)
          | fail)
        go_ret3
        refine .inl ⟨parts ++ [⟨part.toArray⟩], v2, HP.out.trans (HH.out.eq.symm.trans HF.out), rfl, ?_, HH.out.bl.trans (Jv.below_grown hg2 hsr (Jv.row_block HH.out.rp))⟩
        have e1 : (parts ++ [(⟨part.toArray⟩ : ByteArray)]).length = parts.length + 1 := by simp
        have e2 : Jv.txts (parts ++ [(⟨part.toArray⟩ : ByteArray)]) = Jv.txts parts ++ [.string ⟨part.toArray⟩] := by simp [Jv.txts]
        rw [e1, e2]; exact hown2
end Go.Proofs
namespace Go.Jv
open Go.Lib
def RL (l : List UInt8) : List UInt8 := mapD (fun r => r) l
theorem RL_nil : RL [] = [] := rfl
theorem enc_mark : encodeRune ((65533 : Nat) : Int) = [239, 191, 189] := by kernel_rfl
theorem RL_bad {l : List UInt8} (hne : l ≠ []) (hb : (decodeL l).1 = 65533 ∧ (decodeL l).2 = 1) : RL l = [239, 191, 189] ++ RL (l.drop 1) := by
  unfold RL
  rw [mapD_step _ l hne, hb.1, hb.2, if_pos (by omega), enc_mark]
theorem RL_ok {l : List UInt8} (hne : l ≠ []) (hv : ¬ ((decodeL l).1 = 65533 ∧ (decodeL l).2 = 1)) : RL l = l.take (decodeL l).2 ++ RL (l.drop (decodeL l).2) := mapD_same _ l hne rfl hv
theorem decL_pos (l : List UInt8) : 1 ≤ (decodeL l).2 := by rw [decodeL_N]; exact decodeN_ge1 _ _ _ _ _
theorem RL_len : ∀ (n : Nat) (l : List UInt8), l.length ≤ n → (RL l).length ≤ 3 * l.length := by
  intro n
  induction n with
  | zero =>
    intro l hl
    have : l = [] := List.eq_nil_of_length_eq_zero (by omega)
    subst this; simp [RL_nil]
  | succ n ih =>
    intro l hl
    by_cases hne : l = []
    · subst hne; simp [RL_nil]
    · have hpos : 0 < l.length := List.length_pos_iff.2 hne
      by_cases hb : (decodeL l).1 = 65533 ∧ (decodeL l).2 = 1
      · rw [RL_bad hne hb]
        have := ih (l.drop 1) (by simp; omega)
        simp at this ⊢; omega
      · rw [RL_ok hne hb]
        have h1 := decL_pos l
        have h2 := decodeL_le l hne
        have := ih (l.drop (decodeL l).2) (by simp; omega)
        simp at this ⊢; omega
theorem decL_mark (r : List UInt8) : decodeL ([239, 191, 189] ++ r) = (65533, 3) := by
  rw [decodeL_N]
  simp only [List.cons_append, List.nil_append, List.getD_cons_zero, List.getD_cons_succ]
  simp [decodeN]
theorem decL_take {l r : List UInt8} (hne : l ≠ []) (hv : ¬ ((decodeL l).1 = 65533 ∧ (decodeL l).2 = 1)) : decodeL (l.take (decodeL l).2 ++ r) = decodeL l := by
  have hle := decodeL_le l hne
  have hpos := decL_pos l
  rw [decodeL_N (l.take (decodeL l).2 ++ r)]
  have hN := decodeL_N l
  have hg : ∀ j, j < (decodeL l).2 → (l.take (decodeL l).2 ++ r).getD j 0 = l.getD j 0 := fun j hj => by
    rw [List.getD_eq_getElem?_getD, List.getD_eq_getElem?_getD, List.getElem?_append_left (by rw [List.length_take]; omega), List.getElem?_take, if_pos hj]
  rw [hN] at hv hg hle ⊢
  have e0 := hg 0 (by rw [← hN]; omega)
  rw [e0]
  exact decN_same _ _ _ _ _ _ _ _ _ hv (by rw [List.length_append, List.length_take]; omega) (fun hk => by rw [hg 1 hk]) (fun hk => by rw [hg 2 hk]) (fun hk => by rw [hg 3 hk])
theorem RL_valid : ∀ (n : Nat) (l : List UInt8), l.length ≤ n → validD (RL l) = true := by
  intro n
  induction n with
  | zero =>
    intro l hl
    have : l = [] := List.eq_nil_of_length_eq_zero (by omega)
    subst this; exact validD_nil
  | succ n ih =>
    intro l hl
    by_cases hne : l = []
    · subst hne; exact validD_nil
    · have hpos : 0 < l.length := List.length_pos_iff.2 hne
      by_cases hb : (decodeL l).1 = 65533 ∧ (decodeL l).2 = 1
      · rw [RL_bad hne hb, validD_step _ (by simp), decL_mark, if_neg (by simp)]
        exact ih _ (by simp; omega)
      · have h1 := decL_pos l
        have h2 := decodeL_le l hne
        have h3 : (l.take (decodeL l).2).length = (decodeL l).2 := by rw [List.length_take]; omega
        rw [RL_ok hne hb, validD_step _ (by intro e; have := congrArg List.length e; rw [List.length_append, h3] at this; simp at this; omega), decL_take hne hb, if_neg hb, List.drop_left' h3]
        exact ih _ (by simp; omega)
theorem RL_id : ∀ (n : Nat) (l : List UInt8), l.length ≤ n → validD l = true → RL l = l := by
  intro n
  induction n with
  | zero =>
    intro l hl _
    have : l = [] := List.eq_nil_of_length_eq_zero (by omega)
    subst this; exact RL_nil
  | succ n ih =>
    intro l hl hv
    by_cases hne : l = []
    · subst hne; exact RL_nil
    · have hpos : 0 < l.length := List.length_pos_iff.2 hne
      rw [validD_step _ hne] at hv
      by_cases hb : (decodeL l).1 = 65533 ∧ (decodeL l).2 = 1
      · rw [if_pos hb] at hv; cases hv
      · rw [if_neg hb] at hv
        have h1 := decL_pos l
        rw [RL_ok hne hb, ih _ (by simp; omega) hv, List.take_append_drop]
/-- Of a text. -/
def rightB (s : ByteArray) : ByteArray := ⟨(RL s.data.toList).toArray⟩
theorem rightB_list (s : ByteArray) : (rightB s).data.toList = RL s.data.toList := by simp [rightB]
theorem rightB_valid (s : ByteArray) : validD (rightB s).data.toList = true := by rw [rightB_list]; exact RL_valid _ _ (Nat.le_refl _)
theorem rightB_id {s : ByteArray} (h : validD s.data.toList = true) : rightB s = s := by
  unfold rightB; rw [RL_id _ _ (Nat.le_refl _) h]
theorem rightB_twice (s : ByteArray) : rightB (rightB s) = rightB s := rightB_id (rightB_valid s)
theorem rightB_size (s : ByteArray) : (rightB s).size ≤ 3 * s.size := by
  have h := RL_len _ s.data.toList (Nat.le_refl _)
  rw [← rightB_list] at h
  rw [Lib.size_eq, Lib.size_eq]
  simpa using h
/-- From a place on. -/
theorem drop_ne {s : ByteArray} {p : Nat} (h : p < s.size) : s.data.toList.drop p ≠ [] := by
  intro e
  have := congrArg List.length e
  rw [sx_len] at this
  simp at this
  omega
theorem RL_at_bad {s : ByteArray} {p : Nat} (h : p < s.size) (hb : 128 ≤ (s.get! p).toNat) (hw : (Utf8.decode s p).2 = 1) : RL (s.data.toList.drop p) = [239, 191, 189] ++ RL (s.data.toList.drop (p + 1)) := by
  have hd : decodeL (s.data.toList.drop p) = Utf8.decode s p := decodeL_drop s p
  rw [RL_bad (drop_ne h) (by
    rw [hd]
    refine ⟨?_, hw⟩
    rw [Lib.decode_at] at hw ⊢
    revert hw
    unfold Lib.decodeN
    repeat' split
    all_goals first | (exfalso; omega) | (intro _; rfl) | (intro h; simp at h)), List.drop_drop]
theorem RL_at_ok {s : ByteArray} {p : Nat} (h : p < s.size) (hb : ¬ (128 ≤ (s.get! p).toNat ∧ (Utf8.decode s p).2 = 1)) : RL (s.data.toList.drop p) = (s.extract p (p + (Utf8.decode s p).2)).data.toList ++ RL (s.data.toList.drop (p + (Utf8.decode s p).2)) := by
  have hd : decodeL (s.data.toList.drop p) = Utf8.decode s p := decodeL_drop s p
  rw [RL_ok (drop_ne h) (by
    rw [hd]
    rintro ⟨h1, h2⟩
    apply hb
    refine ⟨?_, h2⟩
    rw [Lib.decode_at] at h1
    by_cases h128 : (s.get! p).toNat < 128
    · rw [Lib.decodeN_ascii _ _ _ _ _ h128] at h1
      simp at h1; omega
    · omega), hd, List.drop_drop]
  congr 1
  simp [List.take_drop]
end Go.Jv
namespace Go.Jv
open Go.RowKit Go.Lib
theorem sign_doc (t : ByteArray) (q : Nat) (hq : q < t.size) :
    (sqn (t.extract q t.size) = 0 ∧ sqF (t.extract q t.size) = false ∧ signAt t q = .bad t.size eSyntax) ∨
    (sqn (t.extract q t.size) = 0 ∧ sqF (t.extract q t.size) = true ∧ signAt t q = .bad q eUtf8) ∨
    (0 < sqn (t.extract q t.size) ∧ ∃ r, signAt t q = .ok (r, q + sqn (t.extract q t.size)) ∧ (t.extract q (q + sqn (t.extract q t.size))).data.toList = encodeRune (r : Int) ∧ q + sqn (t.extract q t.size) ≤ t.size) := by
  have hF : sqF (t.extract q t.size) = fullAt t q := Go.Proofs.Jv.fullAt_eq t q hq
  have hn := Go.Proofs.Jv.sqn_tail t q
  rw [hF, hn]
  have hd : decodeL (t.data.toList.drop q) = Utf8.decode t q := decodeL_drop t q
  by_cases hb : 128 ≤ (t.get! q).toNat ∧ (Utf8.decode t q).2 = 1
  · rw [if_pos hb]
    have h1 : Utf8.decode t q = (65533, 1) := by
      have h2 : (Utf8.decode t q).1 = 65533 := by
        have hw := hb.2
        have hb0 := hb.1
        rw [Lib.decode_at] at hw ⊢
        revert hw
        unfold Lib.decodeN
        repeat' split
        all_goals first | (exfalso; omega) | (intro _; rfl) | (intro h; simp at h)
      exact Prod.ext h2 hb.2
    unfold signAt
    cases hf : fullAt t q with
    | false => left; exact ⟨rfl, rfl, by rw [if_pos rfl]⟩
    | true => right; left; exact ⟨rfl, rfl, by rw [if_neg (by decide), if_pos h1]⟩
  · rw [if_neg hb]
    have hne : ¬ ((Utf8.decode t q).1 = 65533 ∧ (Utf8.decode t q).2 = 1) := by
      rintro ⟨h1, h2⟩
      apply hb
      refine ⟨?_, h2⟩
      rw [Lib.decode_at] at h1
      by_cases h128 : (t.get! q).toNat < 128
      · rw [Lib.decodeN_ascii _ _ _ _ _ h128] at h1
        simp at h1; omega
      · omega
    have hne2 : ¬ Utf8.decode t q = (65533, 1) := fun e => hne (by rw [e]; exact ⟨rfl, rfl⟩)
    have hin := Sg.decode_in t q hq
    have hfull : fullAt t q = true := by
      unfold fullAt fullN
      by_cases h128 : (t.get! q).toNat < 128
      · have e : Lib.firstT (t.get! q).toNat = 240 := if_pos h128
        rw [e, if_pos (Nat.zero_le _)]
      · have h2 := hne
        rw [Lib.decode_at] at h2
        have h3 := (decN_full _ _ _ _ _ (UInt8.toNat_lt _) (UInt8.toNat_lt _) (UInt8.toNat_lt _) (UInt8.toNat_lt _) (by omega) h2).1
        rw [← Lib.decode_at] at h3
        rw [h3, if_pos (by omega)]
    right; right
    have hpos := decL_pos (t.data.toList.drop q)
    rw [hd] at hpos
    refine ⟨hpos, (Utf8.decode t q).1, ?_, ?_, hin⟩
    · unfold signAt
      rw [if_neg (by rw [hfull]; decide), if_neg hne2]
    · have h4 := encode_decode (t.data.toList.drop q) (drop_ne hq) (by rw [hd]; exact hne)
      rw [hd] at h4
      rw [h4]
      simp [List.take_drop]
end Go.Jv
