/-
  Laid together by packg.py of LawJLooks.
-/
import Derived.Test.YtcakkkafanpjaaaGreatDoorQcC
import Derived.Deep.DeepCutAuto
namespace Go.Proofs
open Go.RowKit Go.Jv
set_option maxRecDepth 100000 in
set_option maxHeartbeats 8000000 in
theorem Tryz.jsonLooksWalk (bv pv : Value) (t : ByteArray) (l : List ByteArray) (s : ByteArray) (w : World) (hB : Jv.By w bv t) (hP : Jv.Pa w pv l) (ht : t.size ≤ 140737488351232) (hl : l.length * 16 ≤ 140737488351232) (hs : s.size ≤ 140737488351232) (hT : Tryz.Tb w) :
    Calls Tryz.prog 5 #[bv, pv, .string s] w fun e w' => e = .returned (.bool true) ∧ Below w.heap.size w w' := by
  obtain ⟨-, adp, capp, rfl, -⟩ := hP.ex
  have ha := Tryz.awake_any w hT
  have hr := fun W (hW : Below w.heap.size w W) => Tryz.read_o bv t W (hB.up hW) ht (hT.below hW hT.size)
  have hp := fun mk W (hW : Below w.heap.size w W) => Tryz.paths_more s hs mk W (hT.below hW hT.size)
  have hq : (lst s).length ≤ 9223372036854775807 := by
    cases h : path s with
    | ok l => obtain ⟨e, -, h2⟩ := lst_ok h; rw [e]; omega
    | bad p e => rw [lst_bad h]; exact Nat.zero_le _
  have hql := fun (W : World) v (h : Jv.Rr W v (lst s) (fun _ => True)) => h.pa hq
  have HP : Hid (Jv.Pa w (.slice adp l.length capp) l) := hP
  have hlm : l.length ≤ 9223372036854775807 := by omega
  clear hB hT hP hq
  generalize lst s = L at *
  generalize Jv.optV t = o at *
  go_enter Tryz.func5, Tryz.ntmps5
  obtain ⟨N, hN⟩ : ∃ N : Nat, N = l.length + 4 := ⟨_, rfl⟩
  have e1 : IntKind.i64.wrap ((l.length : Int) + 4) = (N : Int) := by rw [IntKind.wrap_i64]; omega
  have HN : Hid (N = l.length + 4) := hN
  have hN2 : N ≤ 8796093022208 := by omega
  have hN3 : l.length ≤ N := by omega
  have hN0 : 0 < N := by omega
  have HML : Hid (l.length ≤ 9223372036854775807) := hlm
  clear hN hlm hl
  go_wp2_with (first
    | (go_at_call 8; refine ha.mono ?_; clear ha; rintro e1 w1 ⟨rfl, hb1⟩; have hc1 := hr w1 hb1; have HB1 : Hid (Below w.heap.size w w1) := hb1; clear hr hb1)
    | (go_at_call 9; refine hc1.mono ?_; clear hc1; rintro e2 w2 ⟨p1, q1, rfl, hpo, hdo, hb2⟩
       have hb12 : Below w.heap.size w w2 := HB1.out.trans (hb2.mono HB1.out.size)
       have hc2 := fun mk => hp mk w2 hb12
       have HPO : Hid (Tryz.Po w2 (fun g => g < w2.heap.size) o p1) := hpo
       have HDO : Hid (Tryz.Do w2 (fun g => g < w2.heap.size) o q1) := hdo
       have HB2 : Hid (Below w.heap.size w w2) := hb12
       clear hp hpo hdo hb2 hb12)
    | (go_at_call 13; refine (hc2 _).mono ?_; clear hc2; rintro e3 w3 ⟨rv, gf, rfl, -, hb3, hrr⟩
       have hb13 : Below w.heap.size w w3 := HB2.out.trans (hb3.mono HB2.out.size)
       have HPO3 : Hid (Tryz.Po w3 (fun g => g < w2.heap.size) o p1) := HPO.out.keep (fun g _ hl => hb3.block g hl) hb3.size
       have HDO3 : Hid (Tryz.Do w3 (fun g => g < w2.heap.size) o q1) := HDO.out.keep (fun g _ hl => hb3.block g hl) hb3.size
       have HS3 : Hid (w2.heap.size ≤ w3.heap.size) := hb3.size
       have HL3 : Hid (Jv.Pa w3 rv L) := hql w3 rv hrr
       have HP3 : Hid (Jv.Pa w3 (.slice adp l.length capp) l) := HP.out.up hb13
       have HB3 : Hid (Below w.heap.size w w3) := hb13
       clear hrr hb3 hb13 hql HPO HDO HP)
    | (refine Tryz.makeRs rfl _ _ rfl _ N rfl rfl rfl hN2 ?_ hN0; intro w4 ho1 hb1; obtain ⟨w5, hcp, hr2, hb2⟩ := Tryz.copyRs ho1 (HP3.out.up hb1) hN3 w3.heap.size w3 hb1 (Nat.le_refl _); have HR2 : Hid (Jv.Rs w5 w3.heap.size N (fun j => if j < l.length then l.getD j emp else ⟨#[]⟩)) := hr2; have HBB : Hid (Below w3.heap.size w3 w5) := hb2; clear ho1 hb1 hr2 hb2)
    | fail)
  clear hcp
  go_loopw [15] (fun iv wr => ∃ i : Nat, iv = .int .i64 i ∧ l.length ≤ i ∧ i ≤ N ∧ Jv.Hn w3 wr l N i) (fun iv _ => N - (intOf iv).toNat)
  case atStart => exact ⟨l.length, rfl, Nat.le_refl _, hN3, ⟨⟨_, HR2.out, fun j hj => by simp only [hj, if_true]; simp [List.getD_eq_getElem?_getD, hj], fun j h1 h2 => by omega⟩, HBB.out⟩⟩
  case round =>
    clear HR2 HBB
    obtain ⟨i, rfl, h1, h2, hL⟩ := hrel
    have HL : Hid (Jv.Hn w3 wr l N i) := hL
    clear hL
    by_cases hlt : i < N
    · have q : (i : Int) < (N : Int) := by omega
      obtain ⟨v0, c0⟩ : ∃ v, wr.cell? ⟨w3.heap.size, i, none⟩ = some v := by obtain ⟨f, g1, -⟩ := HL.out.ex; exact ⟨_, g1.cell i hlt⟩
      have f0 : wr.frozen? ⟨w3.heap.size, i, none⟩ = false := by obtain ⟨f, g1, -⟩ := HL.out.ex; exact g1.fz i hlt
      go_wp2
      go_roundw
      case rel => exact ⟨i + 1, by simp, by omega, by omega, HL.out.step hlt h1⟩
      case measure => simp [intOf]; omega
    · have q : ¬ (i : Int) < (N : Int) := by omega
      have HL2 : Hid (Jv.Hn w3 wr l N N) := by
        have e : i = N := by omega
        subst e; exact HL.out
      have q3 : (l.length : Int) ≤ (N : Int) := by omega
      have hbr := HL2.out.be
      have hpo := Tryz.Po.keep (w' := wr) (fun g hg _ => hbr.block g (by have := HS3.out; omega)) hbr.size HPO3.out
      have hlk1 := Tryz.look_p hpo (HL2.out.pa hN3 HML.out N)
      clear HL hlt h1 h2 hpo hbr
      obtain ⟨wa, hwa⟩ : ∃ wa, wa = wr := ⟨_, rfl⟩
      subst hwa
      go_wp2_with (first
        | (go_at_call 14; refine hlk1.mono ?_; clear hlk1; rintro e6 w6 ⟨px, rfl, ⟨n6, rfl⟩, hpx⟩
           have HPX : Hid (Tryz.Po wa (fun g => g < w2.heap.size) (lookO o l) px) := hpx
           clear hpx)
        | fail)
      have HLo : Hid (Jv.Hz wa w3 (wa.drewN n6) l N 0) := ⟨HL2.out.over n6, Nat.le_refl _⟩
      go_loopw [17] (fun iv wx => ∃ i : Nat, iv = .int .i64 i ∧ i ≤ N ∧ Jv.Hz wa w3 wx l N i) (fun iv _ => N - (intOf iv).toNat)
      case atStart => exact ⟨0, rfl, Nat.zero_le _, HLo.out⟩
      case round =>
        clear HLo q q3
        obtain ⟨i, rfl, h2, hLo⟩ := hrel
        have HLo : Hid (Jv.Hz wa w3 wr l N i) := hLo
        clear hLo
        by_cases hlt : i < N
        · have q : (i : Int) < (N : Int) := by omega
          have f0 : wr.frozen? ⟨w3.heap.size, i, none⟩ = false := by obtain ⟨f, k1, -⟩ := HLo.out.ho.ex; exact k1.fz i hlt
          by_cases hin : i < l.length
          · obtain ⟨gb, o', rfl, hgb, hbc⟩ := HP3.out.at hin
            have cb : wr.cell? ⟨gb, o' + i, none⟩ = some (.string l[i]) := (HLo.out.ho.be.cell (p := ⟨gb, o' + i, none⟩) hgb).trans hbc
            have co : wr.cell? ⟨w3.heap.size, i, none⟩ = some (.string l[i]) := by obtain ⟨f, k1, k2, -⟩ := HLo.out.ho.ex; rw [k1.cell i hlt, k2 i hin (Nat.le_refl _)]
            obtain ⟨c, hc⟩ : ∃ c, c = l[i] := ⟨_, rfl⟩
            rw [← hc] at cb co
            have q1 : (i : Int) < (l.length : Int) := by omega
            have q2 : decide ((i : Int) < (l.length : Int)) = true := decide_eq_true q1
            have q3 : decide ((l.length : Int) ≤ (i : Int)) = false := decide_eq_false (by omega)
            have q4 : decide (l.length ≤ i) = false := decide_eq_false (by omega)
            have q5 : decide (i < l.length) = true := decide_eq_true hin
            clear hbc hc hgb
            go_upto_region 16 with (fail)
            go_quiet (fail)
            go_wp2
            go_roundw
            case rel => exact ⟨i + 1, by simp, by omega, HLo.out.step hlt _⟩
            case measure => simp [intOf]; omega
          · have co : wr.cell? ⟨w3.heap.size, i, none⟩ = some (.string ⟨#[98, 101, 104, 105, 110, 100]⟩) := by obtain ⟨f, k1, -, k3⟩ := HLo.out.ho.ex; rw [k1.cell i hlt, k3 i (by omega) (Nat.le_refl _) hlt]; rfl
            have q1 : ¬ (i : Int) < (l.length : Int) := by omega
            have q2 : decide ((i : Int) < (l.length : Int)) = false := decide_eq_false q1
            have q3 : decide ((l.length : Int) ≤ (i : Int)) = true := decide_eq_true (by omega)
            have q4 : decide (l.length ≤ i) = true := decide_eq_true (by omega)
            have q5 : decide (i < l.length) = false := decide_eq_false hin
            clear hin
            go_upto_region 16 with (fail)
            go_quiet (fail)
            go_wp2
            go_roundw
            case rel => exact ⟨i + 1, by simp, by omega, HLo.out.step hlt _⟩
            case measure => simp [intOf]; omega
        · have q : ¬ (i : Int) < (N : Int) := by omega
          have hbr := HLo.out.ho.be
          have HBR : Hid (Below w3.heap.size w3 wr) := hbr
          have hs3 := HS3.out
          have hba := HL2.out.be
          have hxr : Tryz.Po wr (fun g => g < w2.heap.size) (lookO o l) px := Tryz.Po.keep (fun g hg _ => (hbr.block g (by omega)).trans (hba.block g (by omega)).symm) HLo.out.sz HPX.out
          have hdo := Tryz.Do.keep (w' := wr) (fun g hg _ => hbr.block g (by omega)) hbr.size HDO3.out
          have hpo := Tryz.Po.keep (w' := wr) (fun g hg _ => hbr.block g (by omega)) hbr.size HPO3.out
          have hlk2 := Tryz.look_d hdo (HP3.out.up hbr)
          have hlk3 := Tryz.look_p hpo (HL3.out.up hbr)
          have hlk4 := fun n => Tryz.look_d (Tryz.Do.keep (w := wr) (w' := wr.drewN n) (fun _ _ _ => rfl) (Nat.le_refl _) hdo) ((HL3.out.up hbr).up (Jv.belowN (Below.refl wr.heap.size wr) n))
          have HXR : Hid (Tryz.Po wr (fun g => g < w2.heap.size) (lookO o l) px) := hxr
          clear hxr hdo hpo hbr hba hs3
          go_upto_region 22 with (first
            | (go_at_call 15; refine hlk2.mono ?_; clear hlk2; rintro e7 w7 ⟨py, rfl, h7, hpy⟩; have h7 := h7.symm; subst h7; have HPY : Hid (Tryz.Do wr (fun g => g < w2.heap.size) (lookO o l) py) := hpy
               clear hpy)
            | (go_at_call 14; refine hlk3.mono ?_; clear hlk3; rintro e8 w8 ⟨pz, rfl, ⟨n8, rfl⟩, hpz⟩; have HPZ : Hid (Tryz.Po wr (fun g => g < w2.heap.size) (lookO o L) pz) := hpz
               have hlk5 := hlk4 n8
               clear hpz hlk4)
            | (go_at_call 15; refine hlk5.mono ?_; clear hlk5; rintro e9 w9 ⟨pw, rfl, h9, hpw⟩; have h9 := h9.symm; subst h9; have HPW : Hid (Tryz.Do (wr.drewN n8) (fun g => g < w2.heap.size) (lookO o L) pw) := hpw
               clear hpw)
            | fail)
          obtain ⟨i1, hk1⟩ := Tryz.like_o (w := wr.drewN n8) (Tryz.Po.keep (w := wr) (w' := wr.drewN n8) (fun _ _ _ => rfl) (Nat.le_refl _) HXR.out) (Tryz.Do.keep (w := wr) (w' := wr.drewN n8) (fun _ _ _ => rfl) (Nat.le_refl _) HPY.out)
          have hlk6 := fun (W : World) (hW : Below (wr.drewN n8).heap.size (wr.drewN n8) W) => Tryz.like_o (w := W) (Tryz.Po.keep (fun g _ hl => hW.block g hl) hW.size (Tryz.Po.keep (w := wr) (w' := wr.drewN n8) (fun _ _ _ => rfl) (Nat.le_refl _) HPZ.out)) (Tryz.Do.keep (fun g _ hl => hW.block g hl) hW.size HPW.out)
          have i2 := (hlk6 _ (Below.refl _ _)).1
          have y1 : py.isNone = px.isNone := by cases px <;> cases py <;> simp_all
          have y2 : pw.isNone = pz.isNone := by cases pz <;> cases pw <;> simp_all
          have hqv := fun (W : World) => Tryz.eql_nil_v W px
          have hqz := fun (W : World) => Tryz.eql_nil_v W pz
          have hqy : ∀ W : World, (binOp .eql 25 (.pointer py) (.pointer none)).run Tryz.prog W = .ok (.bool px.isNone) W := fun W => by rw [Tryz.eql_nil_d, y1]
          have hqw : ∀ W : World, (binOp .eql 25 (.pointer pw) (.pointer none)).run Tryz.prog W = .ok (.bool pz.isNone) W := fun W => by rw [Tryz.eql_nil_d, y2]
          clear i1 i2 y1 y2
          have HBW : Hid (Below w.heap.size w (wr.drewN n8)) := below_drewN (HB3.out.trans (HBR.out.mono HB3.out.size)) n8
          go_wp2_with (first
            | (go_at_call 16; refine hk1.mono ?_; clear hk1; rintro e10 w10 ⟨rfl, hb10⟩; have hk2 := (hlk6 w10 hb10).2; have HB10 : Hid (Below (wr.drewN n8).heap.size (wr.drewN n8) w10) := hb10
               clear hb10 hlk6)
            | (go_at_call 16; refine hk2.mono ?_; clear hk2; rintro e11 w11 ⟨rfl, hb11⟩; have HB11 : Hid (Below w10.heap.size w10 w11) := hb11
               clear hb11)
            | fail)
          go_ret
          exact ⟨rfl, (HBW.out.trans (HB10.out.mono HBW.out.size)).trans (HB11.out.mono (Nat.le_trans HBW.out.size HB10.out.size))⟩
end Go.Proofs
