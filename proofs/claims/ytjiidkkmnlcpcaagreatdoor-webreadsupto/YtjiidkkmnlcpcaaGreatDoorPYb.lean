/-
  Laid together by packg.py of Yb.
-/
import Derived.Test.YtjiidkkmnlcpcaaGreatDoorPYa
namespace Go.Proofs
open Go.RowKit Go.Wi Go.Wb
set_option maxRecDepth 20000 in
set_option maxHeartbeats 2000000 in
theorem Tryz.read_any {T : TypeId} {w : World} {own : Nat → Prop} {b : Nat} {m : Msg} (h : Tryz.Ms T w own b m) (hG : Wb.Good m) {V : Value} {l : List UInt8} (hV : Bs w V l) (hVo : ∀ k, V.ownBlock = some k → ¬ own k) (hat : m.at_ + (rd m l).2 ≤ 140737488355328) (hl62 : l.length ≤ 4611686018427387904) :
    Calls Tryz.prog 19 #[.pointer (some ⟨b, 0, none⟩), V] w fun e w' => e = .returned (.int .i64 (rd m l).2) ∧ Tryz.MChg T own w w' b (rd m l).1 := by
  obtain ⟨ad, cap, rfl, hcap, hnil, hx⟩ := hV.ex
  have HX : Hid (l = [] ∨ ∃ g o, ad = some ⟨g, o, none⟩ ∧ g < w.heap.size ∧ ∀ (j : Nat) (u : Value), (Lib.byteCells l)[j]? = some u → w.cell? ⟨g, o + j, none⟩ = some u) := hx
  have HVO : Hid (∀ k, (Value.slice ad l.length cap).ownBlock = some k → ¬ own k) := hVo
  have HAT : Hid (m.at_ + (rd m l).2 ≤ 140737488355328) := hat
  have H0 : Hid (Tryz.MChg T own w w b m) := Tryz.MChg.refl h
  have HG0 : Hid (Wb.Good m) := hG
  have hl63 : l.length ≤ 9223372036854775807 := by omega
  clear hV hx hVo hat h hnil hG
  go_enter Tryz.func19, Tryz.ntmps19
  go_wp2
  go_loopw [5] (fun nv wr => ∃ (k : Nat) (mk : Msg), nv = .int .i64 k ∧ k ≤ l.length ∧ rd m l = ((rd mk (l.drop k)).1, k + (rd mk (l.drop k)).2) ∧ Wb.Good mk ∧ mk.at_ ≤ m.at_ + k ∧ Tryz.MChg T own w wr b mk) (fun nv _ => l.length - (intOf nv).toNat)
  case atStart => exact ⟨0, m, rfl, Nat.zero_le _, by simp, HG0.out, Nat.le_refl _, H0.out⟩
  case round =>
    obtain ⟨k, mk, rfl, hk, hrd, hG, hmat, hC⟩ := hrel
    have HRD : Hid (rd m l = ((rd mk (l.drop k)).1, k + (rd mk (l.drop k)).2)) := hrd
    have HG : Hid (Wb.Good mk) := hG
    have HC : Hid (Tryz.MChg T own w wr b mk) := hC
    have HMA : Hid (mk.at_ ≤ m.at_ + k) := hmat
    obtain ⟨own1, hm1, ho1⟩ := hC.ex
    have ko := Tryz.over_any hm1
    have HM1 : Hid (Tryz.Ms T wr own1 b mk) := hm1
    have HO1 : Hid (∀ k, own1 k → own k ∨ w.heap.size ≤ k) := ho1
    have c18 : wr.cell? ⟨b, 18, none⟩ = some (.int .i64 mk.left) := by
      obtain ⟨aw, cw, ah, ch, ab, cb, hmw⟩ := hm1.ex
      exact (cell_of_row _ _ 18 _ _ _ hmw.blk).trans rfl
    clear hrd hG hC hmat hm1 ho1
    by_cases hlt : k < l.length
    · have q : (k : Int) < (l.length : Int) := by omega
      obtain ⟨g, o, rfl, hgl, hcs⟩ : ∃ g o, ad = some ⟨g, o, none⟩ ∧ g < w.heap.size ∧ ∀ (j : Nat) (u : Value), (Lib.byteCells l)[j]? = some u → wr.cell? ⟨g, o + j, none⟩ = some u := by
        rcases HX.out with e | ⟨g, o, e, hg, hc⟩
        · rw [e] at hlt; cases hlt
        · refine ⟨g, o, e, hg, fun j u hu => ?_⟩
          have hno : ¬ own g := HVO.out g (by rw [e]; rfl)
          exact (World.cell?_of_block (w := w) (a := ⟨g, o + j, none⟩) (HC.out.wo.block g hg hno)).trans (hc j u hu)
      cases hov : Wb.over mk with
      | true =>
        rw [hov] at ko
        have HR : Hid (rd m l = (mk, k)) := (by show rd m l = (mk, k); have := HRD.out; rw [rd_over hov] at this; simpa using this)
        clear hov
        go_wp2_with (first | (go_at_call 27; refine ko.mono ?_; clear ko; rintro e w1 ⟨rfl, rfl⟩) | fail)
        go_ret
        exact ⟨by rw [HR.out]; rfl, by rw [HR.out]; exact HC.out⟩
      | false =>
        rw [hov] at ko
        by_cases hlf : 0 < mk.left
        · have q2 : (0 : Int) < (mk.left : Int) := by omega
          obtain ⟨j, hj⟩ : ∃ j, min mk.left (l.length - k) = j := ⟨_, rfl⟩
          have hj0 : 0 < j := by omega
          have hjl : ((l.drop k).take j).length = j := by rw [List.length_take, List.length_drop]; omega
          have hml := HG.out.fit.ok.ok.left
          have hmb := HG.out.fit.ok.ok.body
          have h1 := HMA.out
          have h2 := HAT.out
          have h3 := congrArg Prod.snd HRD.out
          have h4 : j ≤ (rd mk (l.drop k)).2 := by
            have e := rd_fill ((l.drop k).take j) ((l.drop k).drop j) mk hlf (by rw [hjl]; omega) (by intro e; rw [e] at hjl; simp at hjl; omega)
            rw [List.take_append_drop] at e
            have e2 := congrArg Prod.snd e
            rw [hjl] at e2
            simp only at e2
            omega
          simp only at h3
          have kf := Tryz.fill_any HM1.out (gv := g) (ov := o + k) (n := l.length - k) (cap := cap - k) (k := j) (by omega) ((l.drop k).take j) hj hjl hj0 (fun i u hu => by
            have hi : i < j := by have := (List.getElem?_eq_some_iff.1 hu).1; rw [byteCells_len, hjl] at this; exact this
            rw [show o + k + i = o + (k + i) by omega]
            refine hcs (k + i) u ?_
            rw [← hu]
            simp only [Lib.byteCells, List.getElem?_map, List.getElem?_take, List.getElem?_drop, if_pos hi]) (by omega) (by omega) hml (by omega)
          have HF : Hid (rd mk (l.drop k) = _) := (by
            have e := rd_fill ((l.drop k).take j) ((l.drop k).drop j) mk hlf (by rw [hjl]; omega) (by intro e; rw [e] at hjl; simp at hjl; omega)
            rw [List.take_append_drop] at e
            exact e)
          rw [hjl] at kf HF
          have HGF : Hid (Wb.Good { mk with body := mk.body ++ (l.drop k).take j, left := mk.left - j, at_ := mk.at_ + j }) := (by
            have := HG.out.fill ((l.drop k).take j) hlf
            rw [hjl] at this
            exact this)
          generalize hmf : ({ mk with body := mk.body ++ (l.drop k).take j, left := mk.left - j, at_ := mk.at_ + j } : Msg) = mf at *
          have HAF : Hid (mf.at_ = mk.at_ + j) := (by show mf.at_ = _; rw [← hmf])
          rw [List.drop_drop] at HF
          have hjk : j ≤ l.length - k := by omega
          clear hov hmf hj hjl h1 h2 h3 h4 hml hmb hcs
          go_wp2_with (first
            | (go_at_call 27; refine ko.mono ?_; clear ko; rintro e w1 ⟨rfl, rfl⟩)
            | (go_at_call 45; refine kf.mono ?_; clear kf; rintro e w2 ⟨rfl, hC2⟩)
            | fail)
          go_roundw
          case rel =>
            refine ⟨k + j, mf, by simp, by omega, ?_, HGF.out, by have := HMA.out; have := HAF.out; omega, Tryz.MChg.trans HC.out.wo HO1.out hC2⟩
            rw [HRD.out, HF.out]
            simp only [Nat.add_assoc]
          case measure => simp [intOf]; omega
        · have q2 : ¬ (0 : Int) < (mk.left : Int) := by omega
          have htk : mk.tk ≠ .no := fun e => by
            unfold Wb.over at hov
            rw [e, show mk.left = 0 by omega] at hov
            cases hov
          have h1 := HMA.out
          have h2 := HAT.out
          have h3 := congrArg Prod.snd HRD.out
          simp only at h3
          have cc : wr.cell? ⟨g, o + k, none⟩ = some (.int .u8 (l[k].toNat : Nat)) := hcs k _ (byteCell hlt)
          have ks := Tryz.step_any HM1.out l[k] HG.out (by omega) htk
          have HF : Hid (rd mk (l.drop k) = ((rd (Wb.step mk l[k]) (l.drop (k + 1))).1, (rd (Wb.step mk l[k]) (l.drop (k + 1))).2 + 1)) := (by
            show rd mk (l.drop k) = _
            rw [List.drop_eq_getElem_cons hlt, rd_cons hov, show bite mk l[k] = Wb.step mk l[k] by unfold bite; rw [if_neg hlf]])
          have HGF : Hid (Wb.Good (Wb.step mk l[k])) := HG.out.step l[k] (by omega)
          have HAF : Hid ((Wb.step mk l[k]).at_ ≤ mk.at_ + 1) := step_at mk l[k]
          generalize Wb.step mk l[k] = mf at *
          clear hov h1 h2 h3 hcs htk
          go_wp2_with (first
            | (go_at_call 27; refine ko.mono ?_; clear ko; rintro e w1 ⟨rfl, rfl⟩)
            | (go_at_call 46; refine ks.mono ?_; clear ks; rintro e w2 ⟨⟨v2, rfl⟩, hC2⟩)
            | fail)
          go_roundw
          case rel =>
            refine ⟨k + 1, mf, by simp, by omega, ?_, HGF.out, by have := HMA.out; have := HAF.out; omega, Tryz.MChg.trans HC.out.wo HO1.out hC2⟩
            rw [HRD.out, HF.out]
            simp only [Nat.add_assoc, Nat.add_comm 1]
          case measure => simp [intOf]; omega
    · have q : ¬ (k : Int) < (l.length : Int) := by omega
      have HR : Hid (rd m l = (mk, k)) := (by show rd m l = (mk, k); have := HRD.out; rw [List.drop_of_length_le (by omega)] at this; simpa [rd] using this)
      go_wp2
      go_ret
      exact ⟨by rw [HR.out]; rfl, by rw [HR.out]; exact HC.out⟩
end Go.Proofs
