/-
  JsonTwice, walked.
-/
import Derived.Test.YtaogkleinbgceaaGreatDoorJtw
import Derived.Deep.DeepCutAuto
import Derived.BigQuiet
namespace Go.Jv
theorem pathF_len (s : ByteArray) : ∀ (n p : Nat) (parts : List ByteArray) (part : List UInt8) (l : List ByteArray), pathF s n p parts part = .ok l → 0 < l.length ∧ l.length ≤ parts.length + n + 1 := by
  intro n
  induction n with
  | zero =>
    intro p parts part l h
    rw [pathF] at h; injection h with h; subst h; simp
  | succ n ih =>
    intro p parts part l h
    by_cases hp : p < s.size
    · rw [pathF_step s n p parts part hp] at h
      split at h
      · cases h
      · split at h
        · have := ih _ _ _ _ h; simp at this ⊢; omega
        · split at h
          · have := ih _ _ _ _ h; omega
          · split at h
            · cases h
            · have := ih _ _ _ _ h; omega
    · rw [pathF_end s (n + 1) p parts part hp] at h; injection h with h; subst h; simp
/-- The parts of a path, none where it is wrong. -/
def lst (s : ByteArray) : List ByteArray := match path s with
  | .ok l => l
  | .bad _ _ => []
theorem lst_ok {s : ByteArray} {l : List ByteArray} (h : path s = .ok l) : lst s = l ∧ 0 < l.length ∧ l.length ≤ 1000 := by
  refine ⟨by unfold lst; rw [h], ?_⟩
  unfold path at h
  split at h
  · cases h
  · have := pathF_len s _ _ _ _ _ h
    simp at this; omega
theorem lst_bad {s : ByteArray} {p e : Nat} (h : path s = .bad p e) : lst s = [] := by unfold lst; rw [h]
end Go.Jv
namespace Go.Proofs
open Go.RowKit Go.Jv
def Tryz.EvOk (l : List ByteArray) (ev : Value) : Prop := (0 < l.length ∧ ev = .nilIface) ∨ (l.length = 0 ∧ ∃ y, ev = .iface 50 (.pointer (some ⟨y, 0, none⟩)))
theorem Tryz.path_own (s : ByteArray) (hs : s.size ≤ 140737488355328) (w : World) (hT : Tryz.Tb w) :
    Calls Tryz.prog 19 #[.string s] w fun en w' => ∃ a c ev, en = .returned (.tuple #[.slice a (lst s).length c, ev]) ∧ Tryz.Own w' (.slice a (lst s).length c) w.heap.size w'.heap.size (lst s) ∧ (lst s = [] → Value.slice a (lst s).length c = .slice none 0 0) ∧ (lst s).length ≤ 1000 ∧ Below w.heap.size w w' ∧ Tryz.EvOk (lst s) ev := by
  refine (Tryz.path_any s hs w hT).mono fun en w' h => ?_
  rcases h with ⟨l, v, h1, h2, h3, h4⟩ | ⟨p, e, y, h1, h2, -, -, -, h4⟩
  · obtain ⟨e1, e2, e3⟩ := lst_ok h1
    rw [e1]
    obtain ⟨g, c, rfl, hb, hlt⟩ := h3.form e2
    exact ⟨_, c, _, h2, ⟨h3, fun k hk => by simp [Value.ownBlock] at hk; omega, Nat.le_refl _⟩, fun e => by rw [e] at e2; simp at e2, e3, h4, .inl ⟨e2, rfl⟩⟩
  · rw [lst_bad h1]
    exact ⟨none, 0, _, h2, ⟨⟨rfl, .inl ⟨rfl, rfl⟩⟩, fun k hk => by simp [Value.ownBlock] at hk, Nat.le_refl _⟩, fun _ => rfl, by simp, h4, .inr ⟨rfl, y, rfl⟩⟩
theorem Jv.same_below {w W : World} (h1 : W.heap = w.heap) (h2 : W.os = w.os) (h3 : W.tape = w.tape) (h4 : W.output = w.output) : Below w.heap.size w W :=
  ⟨h2, h3, h4, by rw [h1]; exact Nat.le_refl _, fun k _ => by rw [h1]⟩
theorem Jv.same0 {w w' : World} (h : Jv.Off 0 0 w w') : Below w.heap.size w w' := ⟨h.os, h.tape, h.output, by rw [h.size]; exact Nat.le_refl _, fun k _ => h.block k (by omega)⟩
def Jv.tw1 : ByteArray := ⟨#[116, 104, 101, 32, 102, 105, 114, 115, 116, 32, 111, 110, 101, 39, 115]⟩
def Jv.tw2 : ByteArray := ⟨#[116, 104, 101, 32, 115, 101, 99, 111, 110, 100, 32, 111, 110, 101, 39, 115]⟩
def Jv.tw3 : ByteArray := ⟨#[116, 104, 101, 32, 116, 104, 105, 114, 100, 32, 111, 110, 101, 39, 115]⟩
def Jv.tw8 : List ByteArray := [⟨#[111, 110, 101]⟩, ⟨#[116, 119, 111]⟩, ⟨#[116, 104, 114, 101, 101]⟩, ⟨#[102, 111, 117, 114]⟩, ⟨#[102, 105, 118, 101]⟩, ⟨#[115, 105, 120]⟩, ⟨#[115, 101, 118, 101, 110]⟩, ⟨#[101, 105, 103, 104, 116]⟩]
def Jv.tw11 : List ByteArray := [⟨#[110, 105, 110, 101]⟩, ⟨#[116, 101, 110]⟩, ⟨#[101, 108, 101, 118, 101, 110]⟩]
set_option maxRecDepth 100000 in
set_option maxHeartbeats 8000000 in
theorem Tryz.jsonTwiceWalk (s : ByteArray) (hs : s.size ≤ 140737488351232) (t : ByteArray) (ht : t.size ≤ 140737488351232) (w : World) (hT : Tryz.Tb w) :
    Calls Tryz.prog 7 #[.string s, .string t] w fun e w' => e = .returned (.bool true) ∧ Below w.heap.size w w' := by
  have ha := Tryz.awake_any w hT
  have hps := fun W hW => Tryz.path_own s (by omega) W hW
  have hpt := fun W hW => Tryz.path_own t (by omega) W hW
  have HT : Hid _ := hT
  clear hT
  generalize lst s = ls at *
  generalize lst t = lt at *
  go_enter Tryz.func7, Tryz.ntmps7
  go_upto_region 5 with (first
    | (go_at_call 9; refine ha.mono ?_; clear ha; rintro e1 w1 ⟨rfl, hb1⟩; have hT1 := HT.out.below hb1 HT.out.size)
    | (go_at_call 19; refine (hps _ hT1).mono ?_; rintro e2 w2 ⟨aa, ca, ea, rfl, oa, na, hls, hb2, va⟩; have hT2 := hT1.below hb2 hT1.size; clear hT1)
    | (go_at_call 19; refine (hpt _ hT2).mono ?_; rintro e3 w3 ⟨ab, cb, eb, rfl, ob, nb, hlt, hb3, vb⟩; have hT3 := hT2.below hb3 hT2.size; clear hT2)
    | (go_at_call 19; refine (hps _ hT3).mono ?_; rintro e4 w4 ⟨ac, cc, ec, rfl, oc, nc, -, hb4, vc⟩; clear hT3)
    | fail)
  clear hps hpt
  have oa4 := (oa.keep (fun g _ h => hb3.block g h) hb3.size).keep (fun g _ h => hb4.block g (Nat.lt_of_lt_of_le h hb3.size)) hb4.size
  have ob4 := ob.keep (fun g _ h => hb4.block g h) hb4.size
  have z2 := hb2.size
  have z3 := hb3.size
  have z4 := hb4.size
  have HZ1 : Hid (w.heap.size ≤ w1.heap.size) := hb1.size
  have hb14 := Jv.bthen0 (Jv.bthen0 (Jv.bthen0 hb1 hb2) hb3) hb4
  clear oa ob hb1 hb2 hb3 hb4
  have OA : Hid _ := oa4
  have OB : Hid _ := ob4
  have OC : Hid _ := oc
  have NA : Hid _ := na
  have NB : Hid _ := nb
  have VB : Hid _ := vb
  clear oa4 ob4 oc na nb nc vb
  go_cut [52] (fun c wx => c = .bool false ∧ wx.heap = w4.heap ∧ wx.os = w4.os ∧ wx.tape = w4.tape ∧ wx.output = w4.output)
  case first =>
    rcases va with ⟨v1, rfl⟩ | ⟨v1, ya, rfl⟩
    · rcases vc with ⟨v2, rfl⟩ | ⟨v2, yc, rfl⟩
      · go_quiet (fail)
        go_wp2_with fail
        go_meet
        exact ⟨rfl, rfl, rfl, rfl, rfl⟩
      · omega
    · rcases vc with ⟨v2, rfl⟩ | ⟨v2, yc, rfl⟩
      · omega
      · go_quiet (fail)
        go_wp2_with fail
        go_meet
        exact ⟨rfl, rfl, rfl, rfl, rfl⟩
  case rest =>
    obtain ⟨rfl, hx1, hx2, hx3, hx4⟩ := hcut
    have hbc : Below w4.heap.size w4 wc := Jv.same_below hx1 hx2 hx3 hx4
    have hsc : wc.heap.size = w4.heap.size := by rw [hx1]
    have oa5 := OA.out.keep (w' := wc) (fun g _ _ => by rw [hx1]) (by rw [hx1]; exact Nat.le_refl _)
    have ob5 := OB.out.keep (w' := wc) (fun g _ _ => by rw [hx1]) (by rw [hx1]; exact Nat.le_refl _)
    have oc5 := OC.out.keep (w' := wc) (fun g _ _ => by rw [hx1]) (by rw [hx1]; exact Nat.le_refl _)
    have hbb := Jv.bthen0 hb14 hbc
    have hw0 := hbb.size
    rw [← hsc] at oc5 z4
    clear OA OB OC va vc hb14 hbc hx1 hx2 hx3 hx4 hsc
    have z1 : w.heap.size ≤ w1.heap.size := HZ1.out
    generalize w1.heap.size = n0 at *
    generalize w2.heap.size = n1 at *
    generalize w3.heap.size = n2 at *
    have OA : Hid _ := oa5
    have OB : Hid _ := ob5
    have OC : Hid _ := oc5
    clear oa5 ob5 oc5
    go_wp2_with (first
      | (at_builtin; refine Tryz.app_copy' rfl _ _ rfl wc rfl (.slice aa ls.length ca) rfl n0 n1 ls OA.out NA.out (by omega) ?_; intro ax cx w5 hx5 hb5; have z5 := hb5.size)
      | (at_builtin; refine Tryz.app_copy' rfl _ _ rfl w5 rfl (.slice ab lt.length cb) rfl n1 n2 lt (OB.out.keep (fun g _ h => hb5.block g (by omega)) hb5.size) NB.out (by omega) ?_; intro ay cy w6 hy6 hb6; have z6 := hb6.size)
      | fail)
    have hx6 := hx5.keep (fun g _ h => hb6.block g h) hb6.size
    have hb56 := Jv.bthen0 hb5 hb6
    have oa6 := OA.out.keep (fun g _ h => hb56.block g (by omega)) hb56.size
    have ob6 := OB.out.keep (fun g _ h => hb56.block g (by omega)) hb56.size
    have oc6 := OC.out.keep (fun g _ h => hb56.block g (by omega)) hb56.size
    have hbb6 := Jv.bthen0 hbb hb56
    have hx6' := hx6.mono (ok' := fun g => wc.heap.size ≤ g) (fun g h _ => h)
    have hy6' := hy6.mono (ok' := fun g => wc.heap.size ≤ g) (fun g h _ => Nat.le_trans z5 h)
    generalize wc.heap.size = n3 at *
    clear OA OB OC hx5 hb5 hb6 hb56 hx6 hy6 hbb
    have OA : Hid _ := oa6
    have OB : Hid _ := ob6
    have OC : Hid _ := oc6
    have RX : Hid _ := hx6'
    have RY : Hid _ := hy6'
    clear oa6 ob6 oc6 hx6' hy6'
    go_loopw [14] (fun i wr => ∃ k : Nat, k ≤ ls.length ∧ i = .int .i64 k ∧ Tryz.Own wr (.slice aa ls.length ca) n0 n1 (List.replicate k Jv.tw1 ++ ls.drop k) ∧ Jv.Off n0 n1 w6 wr) (fun i _ => ls.length - (intOf i).toNat)
    case atStart => exact ⟨0, by omega, rfl, OA.out, Jv.Off.refl _ _ _⟩
    case round =>
      obtain ⟨k, hk, rfl, ho, hoff⟩ := hrel
      by_cases hlk : k < ls.length
      · have q0 : (k : Int) < (ls.length : Int) := by omega
        obtain ⟨X, hX⟩ : ∃ X, ls[k]? = some X := ⟨_, List.getElem?_eq_getElem hlk⟩
        obtain ⟨ga, rfl, -, hg1, hg2, hg3, c1, f1⟩ := ho.at ((Jv.rep_at Jv.tw1 hlk).trans hX)
        obtain ⟨gc, rfl, -, -, -, -, c2, -⟩ := (OC.out.off hoff (.inr (by omega))).at hX
        have HO : Hid _ := ho
        have HF : Hid _ := hoff
        clear ho hoff hX
        go_wp2_with fail
        go_quiet (fail)
        go_wp2
        go_roundw
        case rel =>
          refine ⟨k + 1, by omega, by go_num, ?_, (HF.out.same (by rfl) (by rfl) (by rfl) (by rfl)).set hg1 hg2⟩
          rw [← Jv.rep_set Jv.tw1 hlk]
          exact (HO.out.keep (w' := wr.drewN _) (fun _ _ _ => rfl) (Nat.le_refl _)).set (Jv.rep_len Jv.tw1 hk).symm k Jv.tw1
        case measure => simp [intOf]; omega
      · have q0 : ¬ (k : Int) < (ls.length : Int) := by omega
        rw [Jv.rep_full Jv.tw1 (by omega)] at ho
        have OB2 := OB.out.off hoff (.inr (Nat.le_refl _))
        have OC2 := OC.out.off hoff (.inr (by omega))
        have RX2 := RX.out.off hoff (fun g h1 h2 => by omega)
        have RY2 := RY.out.off hoff (fun g h1 h2 => by omega)
        have hbb61 := hbb6.trans (hoff.below.mono z1)
        have zo7 := Nat.le_of_eq hoff.size.symm
        have OA2 := ho
        clear OA OB OC RX RY hbb6 hoff ho
        have OA : Hid _ := OA2
        have OB : Hid _ := OB2
        have OC : Hid _ := OC2
        have RX : Hid _ := RX2
        have RY : Hid _ := RY2
        clear OA2 OB2 OC2 RX2 RY2
        obtain ⟨W7, hW⟩ : ∃ W : World, W = wr := ⟨_, rfl⟩
        subst hW
        go_wp2_with (first
          | (at_builtin; refine Tryz.app_more' rfl _ _ rfl W7 (.slice aa ls.length ca) rfl 8 rfl n0 n1 (List.replicate ls.length Jv.tw1) Jv.tw8 ls.length (by simp) OA.out (by omega) rfl (by omega) (by omega) ?_ (by omega); intro am cm w8 rm oa8 hb8 hk8)
          | fail)
        have z8 := hb8.size
        have OB2 := OB.out.keep (fun g h1 h2 => hk8 g (by omega) (by omega)) z8
        have OC2 := OC.out.keep (fun g h1 h2 => hk8 g (by omega) (by omega)) z8
        have RX2 := RX.out.keep (fun g h1 h2 => hk8 g h2 (by omega)) z8
        have RY2 := RY.out.keep (fun g h1 h2 => hk8 g h2 (by omega)) z8
        have RM2 := rm.mono (ok' := fun g => (n0 ≤ g ∧ g < n1) ∨ n3 ≤ g) (fun g h _ => by omega)
        have hbb7 := hbb61.trans (hb8.mono z1)
        clear OA OB OC RX RY hbb61 hb8 hk8 rm
        have OA : Hid _ := oa8
        have OB : Hid _ := OB2
        have OC : Hid _ := OC2
        have RX : Hid _ := RX2
        have RY : Hid _ := RY2
        have RM : Hid _ := RM2
        clear oa8 OB2 OC2 RX2 RY2 RM2
        go_loopw [16] (fun i wr => ∃ k : Nat, k ≤ ls.length ∧ i = .int .i64 k ∧ Tryz.Own wr (.slice ac ls.length cc) n2 n3 (List.replicate k Jv.tw3 ++ ls.drop k) ∧ Jv.Off n2 n3 w8 wr) (fun i _ => ls.length - (intOf i).toNat)
        case atStart => exact ⟨0, by omega, rfl, OC.out, Jv.Off.refl _ _ _⟩
        case round =>
          obtain ⟨k, hk, rfl, ho, hoff⟩ := hrel
          by_cases hlk : k < ls.length
          · have q0 : (k : Int) < (ls.length : Int) := by omega
            obtain ⟨X, hX⟩ : ∃ X, ls[k]? = some X := ⟨_, List.getElem?_eq_getElem hlk⟩
            obtain ⟨ga, rfl, -, hg1, hg2, hg3, c1, f1⟩ := ho.at ((Jv.rep_at Jv.tw3 hlk).trans hX)
            obtain ⟨gy, rfl, -, -, c2⟩ := (RX.out.off hoff (fun g h1 h2 => by omega)).at hX
            have HO : Hid _ := ho
            have HF : Hid _ := hoff
            clear ho hoff hX
            go_wp2_with fail
            go_quiet (fail)
            go_wp2
            go_roundw
            case rel =>
              refine ⟨k + 1, by omega, by go_num, ?_, (HF.out.same (by rfl) (by rfl) (by rfl) (by rfl)).set hg1 hg2⟩
              rw [← Jv.rep_set Jv.tw3 hlk]
              exact (HO.out.keep (w' := wr.drewN _) (fun _ _ _ => rfl) (Nat.le_refl _)).set (Jv.rep_len Jv.tw3 hk).symm k Jv.tw3
            case measure => simp [intOf]; omega
          · have q0 : ¬ (k : Int) < (ls.length : Int) := by omega
            rw [Jv.rep_full Jv.tw3 (by omega)] at ho
            have OA2 := OA.out.off hoff (.inl (by omega))
            have OB2 := OB.out.off hoff (.inl (by omega))
            have RM2 := RM.out.off hoff (fun g h1 h2 => by omega)
            have RY2 := RY.out.off hoff (fun g h1 h2 => by omega)
            have hbb8 := hbb7.trans (hoff.below.mono (by omega))
            have zo9 := Nat.le_of_eq hoff.size.symm
            have OC2 := ho
            clear OA OB OC RM RX RY hbb7 hoff ho
            have OA : Hid _ := OA2
            have OB : Hid _ := OB2
            have OC : Hid _ := OC2
            have RM : Hid _ := RM2
            have RY : Hid _ := RY2
            clear OA2 OB2 OC2 RM2 RY2
            obtain ⟨W9, hW⟩ : ∃ W : World, W = wr := ⟨_, rfl⟩
            subst hW
            go_wp2
            go_loopw [17] (fun i wr => ∃ k : Nat, k ≤ lt.length ∧ i = .int .i64 k ∧ Tryz.Own wr (.slice ab lt.length cb) n1 n2 (List.replicate k Jv.tw2 ++ lt.drop k) ∧ Jv.Off n1 n2 W9 wr) (fun i _ => lt.length - (intOf i).toNat)
            case atStart => exact ⟨0, by omega, rfl, OB.out, Jv.Off.refl _ _ _⟩
            case round =>
              obtain ⟨k, hk, rfl, ho, hoff⟩ := hrel
              by_cases hlk : k < lt.length
              · have q0 : (k : Int) < (lt.length : Int) := by omega
                obtain ⟨X, hX⟩ : ∃ X, lt[k]? = some X := ⟨_, List.getElem?_eq_getElem hlk⟩
                obtain ⟨ga, rfl, -, hg1, hg2, hg3, c1, f1⟩ := ho.at ((Jv.rep_at Jv.tw2 hlk).trans hX)
                obtain ⟨gy, rfl, -, -, c2⟩ := (RY.out.off hoff (fun g h1 h2 => by omega)).at hX
                have HO : Hid _ := ho
                have HF : Hid _ := hoff
                clear ho hoff hX
                go_wp2_with fail
                go_quiet (fail)
                go_wp2
                go_roundw
                case rel =>
                  refine ⟨k + 1, by omega, by go_num, ?_, (HF.out.same (by rfl) (by rfl) (by rfl) (by rfl)).set hg1 hg2⟩
                  rw [← Jv.rep_set Jv.tw2 hlk]
                  exact (HO.out.keep (w' := wr.drewN _) (fun _ _ _ => rfl) (Nat.le_refl _)).set (Jv.rep_len Jv.tw2 hk).symm k Jv.tw2
                case measure => simp [intOf]; omega
              · have q0 : ¬ (k : Int) < (lt.length : Int) := by omega
                rw [Jv.rep_full Jv.tw2 (by omega)] at ho
                have OA2 := OA.out.off hoff (.inl (by omega))
                have OC2 := OC.out.off hoff (.inr (by omega))
                have RM2 := RM.out.off hoff (fun g h1 h2 => by omega)
                have hbb10 := hbb8.trans (hoff.below.mono (by omega))
                have zo := Nat.le_of_eq hoff.size.symm
                have OB2 := ho
                clear OA OB OC RM RY hbb8 hoff ho
                have OA : Hid _ := OA2
                have OB : Hid _ := OB2
                have OC : Hid _ := OC2
                have RM : Hid _ := RM2
                clear OA2 OB2 OC2 RM2
                obtain ⟨W10, hW⟩ : ∃ W : World, W = wr := ⟨_, rfl⟩
                subst hW
                go_wp2_with (first
                  | (at_builtin; refine Tryz.app_more' rfl _ _ rfl W10 (.slice ac ls.length cc) rfl 3 rfl n2 n3 (List.replicate ls.length Jv.tw3) Jv.tw11 ls.length (by simp) OC.out (by omega) rfl (by omega) (by omega) ?_ (by omega); intro ag cg w11 rg oc11 hb11 hk11)
                  | fail)
                have z11 := hb11.size
                have OA2 := OA.out.keep (fun g h1 h2 => hk11 g (by omega) (by omega)) z11
                have OB2 := OB.out.keep (fun g h1 h2 => hk11 g (by omega) (by omega)) z11
                have RM2 := RM.out.keep (fun g h1 h2 => hk11 g h2 (by omega)) z11
                have hbb11 := hbb10.trans (hb11.mono (by omega))
                clear OA OB OC RM hbb10 hb11 hk11
                have OA : Hid _ := OA2
                have OB : Hid _ := OB2
                have OC : Hid _ := oc11
                have RM : Hid _ := RM2
                have RG : Hid _ := rg
                clear OA2 OB2 RM2 rg oc11
                go_loopw [19] (fun i wr => ∃ k : Nat, k ≤ ls.length ∧ i = .int .i64 k ∧ Jv.Off 0 0 w11 wr) (fun i _ => ls.length - (intOf i).toNat)
                case atStart => exact ⟨0, by omega, rfl, Jv.Off.refl _ _ _⟩
                case round =>
                  obtain ⟨k, hk, rfl, hoff⟩ := hrel
                  by_cases hlk : k < ls.length
                  · have q0 : (k : Int) < (ls.length : Int) := by omega
                    obtain ⟨ga, rfl, -, -, -, -, c1, -⟩ := (OA.out.off hoff (.inr (Nat.zero_le _))).at (Jv.rep_get Jv.tw1 hlk)
                    obtain ⟨gc, rfl, -, -, -, -, c2, -⟩ := (OC.out.off hoff (.inr (Nat.zero_le _))).at (Jv.rep_get Jv.tw3 hlk)
                    obtain ⟨gm, rfl, -, -, c3⟩ := (RM.out.off hoff (fun g _ h => by omega)).at (i := k) (X := Jv.tw1) (by rw [List.getElem?_append_left (by simpa using hlk)]; exact Jv.rep_get Jv.tw1 hlk)
                    obtain ⟨gg, rfl, -, -, c4⟩ := (RG.out.off hoff (fun g _ h => by omega)).at (i := k) (X := Jv.tw3) (by rw [List.getElem?_append_left (by simpa using hlk)]; exact Jv.rep_get Jv.tw3 hlk)
                    have q1 : (k : Int) < (ls.length : Int) + 8 := by omega
                    have q2 : (k : Int) < (ls.length : Int) + 3 := by omega
                    have HF : Hid _ := hoff
                    unfold Jv.tw1 at c1 c3
                    unfold Jv.tw3 at c2 c4
                    clear hoff
                    go_wp2_with fail
                    go_quiet (fail)
                    go_wp2
                    go_roundw
                    case rel => exact ⟨k + 1, by omega, by go_num, HF.out.same (by rfl) (by rfl) (by rfl) (by rfl)⟩
                    case measure => simp [intOf]; omega
                  · have q0 : ¬ (k : Int) < (ls.length : Int) := by omega
                    have OA2 := OA.out.off hoff (.inr (Nat.zero_le _))
                    have OB2 := OB.out.off hoff (.inr (Nat.zero_le _))
                    have RM2 := RM.out.off hoff (fun g _ h => by omega)
                    have RG2 := RG.out.off hoff (fun g _ h => by omega)
                    have hbb12 := Jv.bthen0 hbb11 (Jv.same0 hoff)
                    clear OA OB OC RM RG hbb11 hoff
                    have OB : Hid _ := OB2
                    have RM : Hid _ := RM2
                    have RG : Hid _ := RG2
                    clear OA2 OB2 RM2 RG2
                    obtain ⟨W12, hW⟩ : ∃ W : World, W = wr := ⟨_, rfl⟩
                    subst hW
                    go_wp2
                    go_loopw [20] (fun i wr => ∃ k : Nat, k ≤ lt.length ∧ i = .int .i64 k ∧ Jv.Off 0 0 W12 wr) (fun i _ => lt.length - (intOf i).toNat)
                    case atStart => exact ⟨0, by omega, rfl, Jv.Off.refl _ _ _⟩
                    case round =>
                      obtain ⟨k, hk, rfl, hoff⟩ := hrel
                      by_cases hlk : k < lt.length
                      · have q0 : (k : Int) < (lt.length : Int) := by omega
                        obtain ⟨gb, rfl, -, -, -, -, c1, -⟩ := (OB.out.off hoff (.inr (Nat.zero_le _))).at (Jv.rep_get Jv.tw2 hlk)
                        unfold Jv.tw2 at c1
                        go_wp2
                        go_roundw
                        case rel => exact ⟨k + 1, by omega, by go_num, hoff⟩
                        case measure => simp [intOf]; omega
                      · have q0 : ¬ (k : Int) < (lt.length : Int) := by omega
                        obtain ⟨gm, rfl, -, -, c1⟩ := (RM.out.off hoff (fun g _ h => by omega)).at (i := ls.length) (X := ⟨#[111, 110, 101]⟩) (by rw [List.getElem?_append_right (by simp)]; simp [Jv.tw8])
                        obtain ⟨gg, rfl, -, -, c2⟩ := (RG.out.off hoff (fun g _ h => by omega)).at (i := ls.length) (X := ⟨#[110, 105, 110, 101]⟩) (by rw [List.getElem?_append_right (by simp)]; simp [Jv.tw11])
                        have hbz := Jv.bthen0 hbb12 (Jv.same0 hoff)
                        have e1 : (ls.length : Int) < (ls.length : Int) + 8 := by omega
                        have e2 : (ls.length : Int) < (ls.length : Int) + 3 := by omega
                        rcases VB.out with ⟨v1, rfl⟩ | ⟨v1, yb, rfl⟩
                        · have e3 : (0 : Int) < (lt.length : Int) := by omega
                          have e4 : decide ((0 : Int) < (lt.length : Int)) = true := decide_eq_true e3
                          go_wp2
                          go_ret
                          exact ⟨rfl, hbz⟩
                        · have e3 : ¬ (0 : Int) < (lt.length : Int) := by omega
                          have e4 : decide ((0 : Int) < (lt.length : Int)) = false := decide_eq_false e3
                          go_wp2
                          go_ret
                          exact ⟨rfl, hbz⟩
end Go.Proofs
