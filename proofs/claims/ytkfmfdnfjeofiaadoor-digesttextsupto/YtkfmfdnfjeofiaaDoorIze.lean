/-
  The law's decodes.
-/
import Derived.Test.YtkfmfdnfjeofiaaDoorIzd
namespace Go.Proofs
open Go.RowKit Go.Wi Go.Dg
theorem Dg.Ov.cell {w : World} {B g n cap : Nat} {l : List Value} (h : Ov w B (.slice (some ⟨g, 0, none⟩) n cap) l) {j : Nat} {u : Value} (hj : l[j]? = some u) : w.cell? ⟨g, j, none⟩ = some u := by
  rcases h with ⟨e, _⟩ | ⟨g', cap', e, _, _, _, h4, _⟩
  · cases e
  · cases e
    exact h4 j u hj
theorem Tryd.dec_got {w w' : World} {t : ByteArray} {e : Ending} (h : Tryd.DecOk w t.toList e w') : ∃ ad C ev, e = .returned (.tuple #[.slice ad (Dg.got t).length C, ev]) ∧ Ob w' w.heap.size (.slice ad (Dg.got t).length C) (Dg.got t) ∧ Below w.heap.size w w' := by
  rcases h.r with ⟨o, C, h1, rfl, h2⟩ | ⟨g, h1, rfl, _⟩
  · have e1 : Dg.got t = o := by unfold Dg.got; rw [h1]; rfl
    rw [e1]
    exact ⟨_, C, _, rfl, h2, h.b⟩
  · have e1 : Dg.got t = [] := by unfold Dg.got; rw [h1]; rfl
    rw [e1]
    exact ⟨none, 0, _, rfl, .inl ⟨rfl, rfl⟩, h.b⟩
theorem Dg.ref_got (t : ByteArray) : ∃ p q : Int, decV (dec t.toList) = .tuple #[.string ⟨(Dg.got t).toArray⟩, .int .i64 p, .int .i64 q] := by
  unfold Dg.got
  rcases dec t.toList with ⟨_ | o, k⟩
  · exact ⟨_, _, rfl⟩
  · exact ⟨_, _, rfl⟩
def Dg.mk (j : Nat) : UInt8 := UInt8.ofNat (j % 24 + 1)
theorem Dg.mk_nat (j : Nat) : (Dg.mk j).toNat = j % 24 + 1 := by
  unfold Dg.mk
  rw [UInt8.toNat_ofNat']
  omega
set_option maxRecDepth 20000 in
set_option maxHeartbeats 2000000 in
theorem Tryd.decodes_any (a b : ByteArray) (ha : a.size ≤ 4000000) (hb : b.size ≤ 4000000) (w : World) :
    Calls Tryd.prog 27 #[.string a, .string b] w fun e w' => e = .returned (.bool true) ∧ Below w.heap.size w w' := by
  have Hts : Hid (∀ j, (Dg.tx a b j).size ≤ 4000000) := Dg.tx_size ha hb
  clear ha hb
  go_enter Tryd.func27, Tryd.ntmps27
  go_wp2
  go_loopw [6, 7] (fun tv iv wr => ∃ (i : Nat) (ad : Option Addr) (cap : Nat), iv = .int .i64 (i : Int) ∧ i ≤ 12 ∧ tv = .slice ad (2 * i : Nat) cap ∧ Hid (Ls w (.slice ad (2 * i : Nat) cap) (.slice none 0 0) (Dg.txs a b (2 * i)) [] (fun _ => []) wr)) (fun _ iv _ => 12 - (intOf iv).toNat)
  case atStart => exact ⟨0, none, 0, rfl, by omega, rfl, Ls.start w⟩
  case round =>
    obtain ⟨i, ad, cap, rfl, hi, rfl, HL⟩ := hrel
    by_cases hlt : i < 12
    · have q1 : (i : Int) < 12 := by omega
      have Hsz : Hid (w.heap.size ≤ wr.heap.size) := HL.out.b.size
      go_wp2_with (first | (at_builtin; refine Tryd.appS rfl (.tmp 27) (.tmp 30) rfl (HL.out.t.below ((Below.refl _ wr).alloc (Nat.le_refl _) _) (Nat.le_refl _)) (by have := Hsz.out; simp; omega) rfl [.string a, .string b] 2 _ rfl rfl (by decide) (heap_alloc_new _ _) (by simp [Value.oneCell']) (by rw [Dg.txs_len]; simp only [List.length_cons, List.length_nil]; omega) ?_; intro ad1 cap1 w1 ho1 hc1; rw [Dg.txs_len] at ho1 hc1 ⊢; have HO1 : Hid _ := ho1; have HC1 : Hid _ := hc1; clear ho1 hc1) | fail)
      go_roundw
      case rel =>
        refine ⟨i + 1, ad1, cap1, by go_num, by omega, rfl, ?_⟩
        have h1 := HO1.out
        rw [Dg.txs_next] at h1
        refine HL.out.texts h1 ?_
        have hb0 : Below wr.heap.size wr (wr.alloc (.cells #[.string a, .string b] 9)) := (Below.refl _ wr).alloc (Nat.le_refl _) _
        have hb1 := HL.out.b.trans (hb0.mono HL.out.b.size)
        rcases HC1.out with ⟨g, e1, e2, hw⟩ | ⟨hbb, -⟩
        · exact Wo.toBelow hb1 hw (fun k e => by rw [e]; exact (HL.out.t.lt g (by injection e1 with e3; rw [e3]; rfl)).1) hb1.size
        · exact hb1.trans (hbb.mono hb1.size)
      case measure => simp [intOf]; omega
    · have q1 : ¬ (i : Int) < 12 := by omega
      obtain rfl : i = 12 := by omega
      obtain ⟨gt, capt, et, -⟩ := HL.out.t.at (by rw [Dg.txs_len]; decide)
      rw [Dg.txs_len] at et
      injection et with e1 e2 e3
      subst e1 e3
      clear hlt e2 hi
      rw [show (2 * 12 : Nat) = 24 from rfl]
      change Hid (Ls w (.slice (some ⟨gt, 0, none⟩) 24 cap) (.slice none 0 0) (Dg.txs a b 24) [] (fun _ => []) wr) at HL
      go_wp2
      go_loopw [5, 8] (fun lv iv wr => ∃ (i : Nat) (ad : Option Addr) (c : Nat) (vs : List Value) (bs : Nat → List UInt8), iv = .int .i64 (i : Int) ∧ i ≤ 24 ∧ lv = .slice ad (i : Nat) c ∧ Hid (Ls w (.slice (some ⟨gt, 0, none⟩) 24 cap) (.slice ad (i : Nat) c) (Dg.txs a b 24) vs bs wr) ∧ Hid (vs.length = i) ∧ Hid (∀ j, j < i → bs j = Dg.got (Dg.tx a b j))) (fun _ iv _ => 24 - (intOf iv).toNat)
      case atStart => exact ⟨0, none, 0, [], _, rfl, by omega, rfl, HL, rfl, fun j hj => by omega⟩
      case round =>
        clear HL
        obtain ⟨i, ad, c, vs, bs, rfl, hi, rfl, HL, Hn, Hg⟩ := hrel
        by_cases hlt : i < 24
        · have q1 : (i : Int) < 24 := by omega
          have q2 : (0 : Int) ≤ (i : Int) := by omega
          have c1 := Dg.Ov.cell HL.out.t (Dg.txs_at a b hlt)
          have hd := Tryd.dec_any (Dg.tx a b i) (by have := Hts.out i; omega) wr
          go_upto_region 11 with (first | (go_at_call 11; refine hd.mono ?_; clear hd; rintro z w2 hz2; obtain ⟨ad2, C2, ev2, rfl, ho2, hb2⟩ := Tryd.dec_got hz2; clear hz2; have H2 : Hid (Ob w2 wr.heap.size (.slice ad2 (Dg.got (Dg.tx a b i)).length C2) (Dg.got (Dg.tx a b i)) ∧ Below wr.heap.size wr w2) := ⟨ho2, hb2⟩; clear ho2 hb2) | fail)
          clear c1
          obtain ⟨D, hD⟩ : ∃ D, D = Dg.got (Dg.tx a b i) := ⟨_, rfl⟩
          have HD : Hid (D = Dg.got (Dg.tx a b i)) := hD
          rw [← hD] at H2 ⊢
          clear hD
          generalize hN : D.length = N at *
          have HN : Hid (D.length = N) := hN
          clear hN
          have Hsz : Hid (w.heap.size ≤ wr.heap.size ∧ wr.heap.size ≤ w2.heap.size) := ⟨HL.out.b.size, H2.out.2.size⟩
          go_wp2_with (first | (at_builtin; refine Tryd.appL rfl (.tmp 46) (.tmp 48) rfl ((HL.out.l.below H2.out.2 (Nat.le_refl _)).below ((Below.refl _ w2).alloc (Nat.le_refl _) _) (Nat.le_refl _)) (by have := Hsz.out; simp; omega) rfl (.slice ad2 N C2) _ rfl (heap_alloc_new _ _) rfl (by rw [Hn.out]; omega) ?_; intro ad3 c3 w3 ho3 hc3; rw [Hn.out] at ho3 hc3 ⊢; have H3 : Hid _ := ho3; have HC3 : Hid _ := hc3; clear ho3 hc3) | fail)
          go_roundw
          case rel =>
            have hb0 : Below w2.heap.size w2 (w2.alloc (.cells #[.slice ad2 N C2] 24)) := (Below.refl _ w2).alloc (Nat.le_refl _) _
            have hls := (HL.out.below H2.out.2).below hb0
            have hx := (H2.out.1).below hb0 (Nat.le_refl _)
            have hfr : ∀ k, (Value.slice ad2 N C2).ownBlock = some k → wr.heap.size ≤ k := fun k e => (H2.out.1.lt k e).1
            refine ⟨i + 1, ad3, c3, _, _, by go_num, by omega, rfl, hls.push (hx.mono HL.out.b.size) (fun j v k e _ eo e2 => ?_) (fun k e => ⟨fun e2 => ?_, fun e2 => ?_⟩) ?_ H3.out (by rw [Hn.out]; exact HC3.out), ?_, fun j hj => ?_⟩
            · have h1 := ((HL.out.o j v e).lt k eo).2; have h2 := hfr k e2; omega
            · have h1 := (HL.out.t.lt k e2).2; have h2 := hfr k e; omega
            · have h1 := (HL.out.l.lt k e2).2; have h2 := hfr k e; omega
            · rw [HD.out]; have h1 := Dg.got_len (Dg.tx a b i); have h2 := Hts.out i; omega
            · show _ = _; rw [List.length_append, Hn.out]; rfl
            · rw [Hn.out]
              by_cases e : j = i
              · rw [if_pos e, e, HD.out]
              · rw [if_neg e]; exact Hg.out j (by omega)
          case measure => simp [intOf]; omega
        · have q1 : ¬ (i : Int) < 24 := by omega
          obtain rfl : i = 24 := by omega
          rw [show ((24 : Nat) : Int) = 24 from rfl]
          obtain ⟨gl, cl, el, -⟩ := HL.out.l.at (by rw [Hn.out]; decide)
          injection el with e1 e2 e3
          subst e1 e3
          have Hln : Hid (∀ j, j < 24 → (bs j).length ≤ 4000000) := fun j hj => by
            rw [Hg.out j hj]
            have h1 := Dg.got_len (Dg.tx a b j)
            have h2 := Hts.out j
            omega
          clear q1 hlt e2 hi
          go_wp2
          go_loopw [11] (fun iv wr => ∃ (i : Nat), iv = .int .i64 (i : Int) ∧ i ≤ 24 ∧ Hid (Ls w (.slice (some ⟨gt, 0, none⟩) 24 cap) (.slice (some ⟨gl, 0, none⟩) 24 c) (Dg.txs a b 24) vs bs wr)) (fun iv _ => 24 - (intOf iv).toNat)
          case atStart => exact ⟨0, rfl, by omega, HL⟩
          case round =>
            clear HL
            obtain ⟨i, rfl, hi, HL⟩ := hrel
            by_cases hlt : i < 24
            · have q1 : (i : Int) < 24 := by omega
              have q2 : (0 : Int) ≤ (i : Int) := by omega
              have c1 := Dg.Ov.cell HL.out.t (Dg.txs_at a b hlt)
              have hr := Tryd.refDec_any (Dg.tx a b i) (by have := Hts.out i; omega) wr
              obtain ⟨p, q, hpq⟩ := Dg.ref_got (Dg.tx a b i)
              rw [hpq, ← Hg.out i hlt] at hr
              clear hpq
              obtain ⟨X, hX⟩ : ∃ X : ByteArray, X = ⟨(bs i).toArray⟩ := ⟨_, rfl⟩
              have HX : Hid (X = ⟨(bs i).toArray⟩) := hX
              rw [← hX] at hr
              clear hX
              go_upto_region 16 with (first | (go_at_call 28; refine hr.mono ?_; clear hr; rintro z w2 ⟨rfl, hb2⟩; have H2 : Hid (Ls w (.slice (some ⟨gt, 0, none⟩) 24 cap) (.slice (some ⟨gl, 0, none⟩) 24 c) (Dg.txs a b 24) vs bs w2) := HL.out.below hb2; clear hb2) | fail)
              obtain ⟨v, hv⟩ : ∃ v, vs[i]? = some v := ⟨_, List.getElem?_eq_getElem (by rw [Hn.out]; exact hlt)⟩
              have c2 := Dg.Ov.cell H2.out.l hv
              obtain ⟨ad4, C4, rfl⟩ := (H2.out.o i v hv).is
              have hcb := Tryd.conv_bs (Ob.bs (H2.out.o i _ hv))
              rw [← HX.out] at hcb
              clear hv c1
              go_wp2
              go_roundw
              case rel => exact ⟨i + 1, by go_num, by omega, H2⟩
              case measure => simp [intOf]; omega
            · have q1 : ¬ (i : Int) < 24 := by omega
              obtain rfl : i = 24 := by omega
              rw [show ((24 : Nat) : Int) = 24 from rfl]
              clear hlt hi
              go_wp2
              go_loopw [16] (fun iv wr => ∃ (i : Nat) (bs : Nat → List UInt8), iv = .int .i64 (i : Int) ∧ i ≤ 24 ∧ Hid (Ls w (.slice (some ⟨gt, 0, none⟩) 24 cap) (.slice (some ⟨gl, 0, none⟩) 24 c) (Dg.txs a b 24) vs bs wr) ∧ Hid (∀ j, j < 24 → (bs j).length ≤ 4000000) ∧ Hid (∀ j, j < i → ∀ x ∈ bs j, x = Dg.mk j)) (fun iv _ => 24 - (intOf iv).toNat)
              case atStart => exact ⟨0, bs, rfl, by omega, HL, Hln, fun j hj => by omega⟩
              case round =>
                clear HL Hln Hg
                obtain ⟨i, bs, rfl, hi, HL, Hln, Hm⟩ := hrel
                by_cases hlt : i < 24
                · have q1 : (i : Int) < 24 := by omega
                  have q2 : (0 : Int) ≤ (i : Int) := by omega
                  obtain ⟨v, hv⟩ : ∃ v, vs[i]? = some v := ⟨_, List.getElem?_eq_getElem (by rw [Hn.out]; exact hlt)⟩
                  obtain ⟨ad4, C4, rfl⟩ := (HL.out.o i v hv).is
                  obtain ⟨N, hN⟩ : ∃ N, N = (bs i).length := ⟨_, rfl⟩
                  rw [← hN] at hv
                  have HN : Hid (N = (bs i).length) := hN
                  have hN2 : (N : Int) ≤ 4000000 := by have := Hln.out i hlt; omega
                  have Hv : Hid _ := hv
                  clear hN hv
                  go_wp2
                  go_loopw [17] (fun kv wr => ∃ (k : Nat) (bs : Nat → List UInt8), kv = .int .i64 (k : Int) ∧ k ≤ N ∧ Hid (Ls w (.slice (some ⟨gt, 0, none⟩) 24 cap) (.slice (some ⟨gl, 0, none⟩) 24 c) (Dg.txs a b 24) vs bs wr) ∧ Hid (∀ j, j < 24 → (bs j).length ≤ 4000000) ∧ Hid (∀ j, j < i → ∀ x ∈ bs j, x = Dg.mk j) ∧ Hid ((bs i).length = N) ∧ Hid (∀ c x, c < k → (bs i)[c]? = some x → x = Dg.mk i)) (fun kv _ => N - (intOf kv).toNat)
                  case atStart => exact ⟨0, bs, rfl, by omega, HL, Hln, Hm, HN.out.symm, fun c x hc => by omega⟩
                  case round =>
                    clear HL Hln Hm HN
                    obtain ⟨k, bs, rfl, hk, HL, Hln, Hm, HN, Hk⟩ := hrel
                    have c2 := Dg.Ov.cell HL.out.l Hv.out
                    by_cases hkl : k < N
                    · have r1 : (k : Int) < (N : Int) := by omega
                      have r2 : (0 : Int) ≤ (k : Int) := by omega
                      have hob := HL.out.o i _ Hv.out
                      obtain ⟨g, rfl⟩ : ∃ g, ad4 = some ⟨g, 0, none⟩ := by
                        rcases hob with ⟨_, e0⟩ | ⟨g, cap, e, _⟩
                        · have h1 := HN.out
                          rw [e0] at h1
                          simp at h1
                          omega
                        · injection e with e; exact ⟨g, e⟩
                      obtain ⟨f1, f2⟩ := Ob.cell hob (i := k) (by rw [HN.out]; exact hkl)
                      obtain ⟨M, hM⟩ : ∃ M : Nat, M = i + 1 := ⟨_, rfl⟩
                      have e1 : IntKind.u8.wrap ((i : Int) + 1) = (M : Int) := by rw [IntKind.wrap_u8]; omega
                      have HM : Hid (M = i + 1) := hM
                      clear hM hob
                      go_wp2
                      go_roundw
                      case rel =>
                        refine ⟨k + 1, _, by go_num, by omega, HL.out.set (c := Dg.mk i) (by rw [Hn.out]; omega) Hv.out (by rw [Dg.mk_nat, HM.out, Nat.mod_eq_of_lt hlt]) (by rw [HN.out]; exact hkl), fun j hj => ?_, fun j hj => ?_, ?_, fun c x hc => ?_⟩
                        · split
                          · rw [List.length_set]; exact Hln.out i hlt
                          · exact Hln.out j hj
                        · rw [if_neg (by omega)]
                          exact Hm.out j hj
                        · show _ = _
                          rw [if_pos rfl, List.length_set, HN.out]
                        · rw [if_pos rfl]
                          intro hx
                          by_cases e : c = k
                          · rw [e, List.getElem?_set_self (by rw [HN.out]; exact hkl)] at hx
                            exact (Option.some.inj hx).symm
                          · rw [List.getElem?_set_ne (fun e' => e e'.symm)] at hx
                            exact Hk.out c x (by omega) hx
                      case measure => simp [intOf]; omega
                    · have r1 : ¬ (k : Int) < (N : Int) := by omega
                      go_wp2
                      go_roundw
                      case rel =>
                        refine ⟨i + 1, bs, by go_num, by omega, HL, Hln, fun j hj x hx => ?_⟩
                        by_cases e : j = i
                        · subst e
                          obtain ⟨c, hc⟩ := List.getElem?_of_mem hx
                          exact Hk.out c x (by have h1 := (List.getElem?_eq_some_iff.1 hc).1; have h2 := HN.out; omega) hc
                        · exact Hm.out j (by omega) x hx
                      case measure => simp [intOf]; omega
                · have q1 : ¬ (i : Int) < 24 := by omega
                  obtain rfl : i = 24 := by omega
                  rw [show ((24 : Nat) : Int) = 24 from rfl]
                  clear hlt hi
                  go_wp2
                  go_loopw [5, 18] (fun lv iv wr => ∃ (i L : Nat) (ad : Option Addr) (c : Nat) (vs : List Value) (bs : Nat → List UInt8), iv = .int .i64 (i : Int) ∧ i ≤ 24 ∧ lv = .slice ad L c ∧ Hid (L = 24 + i) ∧ Hid (Ls w (.slice (some ⟨gt, 0, none⟩) 24 cap) (.slice ad L c) (Dg.txs a b 24) vs bs wr) ∧ Hid (vs.length = L) ∧ Hid (∀ j, j < 24 → (bs j).length ≤ 4000000) ∧ Hid (∀ j, j < L → ∀ x ∈ bs j, x = Dg.mk j)) (fun _ iv _ => 24 - (intOf iv).toNat)
                  case atStart => exact ⟨0, 24, _, c, vs, bs, rfl, by omega, rfl, rfl, HL, Hn, Hln, Hm⟩
                  case round =>
                    clear HL Hln Hm Hn
                    obtain ⟨i, L, ad, c, vs, bs, rfl, hi, rfl, HLi, HL, Hn, Hln, Hm⟩ := hrel
                    obtain ⟨gl, cl, el, -⟩ := HL.out.l.at (by rw [Hn.out, HLi.out]; omega)
                    injection el with e1 e2 e3
                    subst e1 e3
                    clear e2
                    by_cases hlt : i < 24
                    · have q1 : (i : Int) < 24 := by omega
                      have q2 : (0 : Int) ≤ (i : Int) := by omega
                      have q3 : (i : Int) < (L : Int) := by have := HLi.out; omega
                      obtain ⟨v, hv⟩ : ∃ v, vs[i]? = some v := ⟨_, List.getElem?_eq_getElem (by rw [Hn.out, HLi.out]; omega)⟩
                      obtain ⟨ad4, C4, rfl⟩ := (HL.out.o i v hv).is
                      obtain ⟨N, hN⟩ : ∃ N, N = (bs i).length := ⟨_, rfl⟩
                      rw [← hN] at hv
                      have HN : Hid (N = (bs i).length) := hN
                      have hN2 : N ≤ 4000000 := by have := Hln.out i hlt; omega
                      have Hv : Hid _ := hv
                      have c2 := Dg.Ov.cell HL.out.l hv
                      clear hN hv
                      go_wp2
                      go_loopw [19, 20] (fun gv kv wr => ∃ (k T : Nat) (ad5 : Option Addr) (c5 : Nat) (gl' : List UInt8), kv = .int .i64 (k : Int) ∧ k ≤ 70 ∧ gv = .slice ad5 T c5 ∧ Hid (Gr w (.slice (some ⟨gt, 0, none⟩) 24 cap) (.slice (some ⟨gl, 0, none⟩) L c) (Dg.txs a b 24) vs bs i (.slice ad5 T c5) gl' wr) ∧ Hid (gl'.length = T) ∧ Hid (T = N + k) ∧ Hid (∀ x ∈ gl', x = Dg.mk i)) (fun _ kv _ => 70 - (intOf kv).toNat)
                      case atStart => exact ⟨0, N, ad4, C4, bs i, rfl, by omega, rfl, Gr.start HL.out Hv.out (fun j hj e => by rw [Hn.out, HLi.out] at hj; omega), HN.out.symm, rfl, Hm.out i (by have := HLi.out; omega)⟩
                      case round =>
                        clear HL c2 HN
                        obtain ⟨k, T, ad5, c5, gl', rfl, hk, rfl, HG, HTl, HT, Hx⟩ := hrel
                        have Hsz : Hid (w.heap.size ≤ wr.heap.size) := HG.out.s.b.size
                        by_cases hkl : k < 70
                        · have r1 : (k : Int) < 70 := by omega
                          obtain ⟨M, hM⟩ : ∃ M : Nat, M = i + 1 := ⟨_, rfl⟩
                          have e1 : IntKind.u8.wrap ((i : Int) + 1) = (M : Int) := by rw [IntKind.wrap_u8]; omega
                          have HM : Hid (M = i + 1) := hM
                          clear hM
                          go_wp2_with (first | (at_builtin; refine Tryd.appG rfl (.tmp 110) (.tmp 114) rfl (HG.out.g.alloc _) (by have := Hsz.out; simp; omega) rfl (Dg.mk i) (.int .u8 (M : Int)) (by rw [Dg.mk_nat, HM.out, Nat.mod_eq_of_lt hlt]) _ rfl (heap_alloc_new _ _) (by have h1 := HTl.out; have h2 := HT.out; omega) ?_; intro ad6 c6 w6 ho6 hc6; rw [HTl.out] at ho6 hc6 ⊢; have H6 : Hid _ := ho6; have HC6 : Hid _ := hc6; clear ho6 hc6) | fail)
                          go_roundw
                          case rel =>
                            have hb0 : Below wr.heap.size wr (wr.alloc (.cells #[.int .u8 (M : Int)] 5)) := (Below.refl _ wr).alloc (Nat.le_refl _) _
                            refine ⟨k + 1, T + 1, ad6, c6, gl' ++ [Dg.mk i], by go_num, by omega, rfl, (HG.out.below hb0).app H6.out (by rw [HTl.out]; exact HC6.out), ?_, ?_, fun x hx => ?_⟩
                            · show _ = _; rw [List.length_append, HTl.out]; rfl
                            · show _ = _; rw [HT.out]; omega
                            · rcases List.mem_append.1 hx with h1 | h1
                              · exact Hx.out x h1
                              · exact List.mem_singleton.1 h1
                          case measure => simp [intOf]; omega
                        · have r1 : ¬ (k : Int) < 70 := by omega
                          obtain rfl : k = 70 := by omega
                          go_wp2_with (first | (at_builtin; refine Tryd.appL rfl (.tmp 116) (.tmp 118) rfl (HG.out.s.l.below ((Below.refl _ wr).alloc (Nat.le_refl _) _) (Nat.le_refl _)) (by have := Hsz.out; simp; omega) rfl (.slice ad5 T c5) _ rfl (heap_alloc_new _ _) rfl (by rw [Hn.out, HLi.out]; omega) ?_; intro ad7 c7 w7 ho7 hc7; rw [Hn.out] at ho7 hc7 ⊢; have H7 : Hid _ := ho7; have HC7 : Hid _ := hc7; clear ho7 hc7) | fail)
                          go_roundw
                          case rel =>
                            have hb0 : Below wr.heap.size wr (wr.alloc (.cells #[.slice ad5 T c5] 24)) := (Below.refl _ wr).alloc (Nat.le_refl _) _
                            refine ⟨i + 1, L + 1, ad7, c7, _, _, by go_num, by omega, rfl, ?_, (HG.out.below hb0).push (by rw [Hn.out, HLi.out]; omega) (by have h1 := HTl.out; have h2 := HT.out; omega) H7.out (by rw [Hn.out]; exact HC7.out), ?_, fun j hj => ?_, fun j hj x hx => ?_⟩
                            · show _ = _; rw [HLi.out]; omega
                            · show _ = _; rw [List.length_append, Hn.out]; rfl
                            · rw [if_neg (by rw [Hn.out, HLi.out]; omega)]
                              exact Hln.out j hj
                            · rw [Hn.out] at hx
                              by_cases e : j = L
                              · rw [if_pos e] at hx
                                rw [Hx.out x hx, e, HLi.out]
                                unfold Dg.mk
                                rw [show (24 + i) % 24 = i % 24 by omega]
                              · rw [if_neg e] at hx
                                exact Hm.out j (by omega) x hx
                          case measure => simp [intOf]; omega
                    · have q1 : ¬ (i : Int) < 24 := by omega
                      obtain rfl : i = 24 := by omega
                      rw [show ((24 : Nat) : Int) = 24 from rfl]
                      have hL48 : L = 48 := HLi.out
                      subst hL48
                      clear hlt hi
                      go_wp2
                      go_loopw [21] (fun iv wr => ∃ (i : Nat), iv = .int .i64 (i : Int) ∧ i ≤ 48 ∧ Hid (Ls w (.slice (some ⟨gt, 0, none⟩) 24 cap) (.slice (some ⟨gl, 0, none⟩) 48 c) (Dg.txs a b 24) vs bs wr)) (fun iv _ => 48 - (intOf iv).toNat)
                      case atStart => exact ⟨0, rfl, by omega, HL⟩
                      case round =>
                        clear HL
                        obtain ⟨i, rfl, hi, HL⟩ := hrel
                        by_cases hlt : i < 48
                        · have q1 : (i : Int) < 48 := by omega
                          have q2 : (0 : Int) ≤ (i : Int) := by omega
                          obtain ⟨v, hv⟩ : ∃ v, vs[i]? = some v := ⟨_, List.getElem?_eq_getElem (by rw [Hn.out]; exact hlt)⟩
                          obtain ⟨ad4, C4, rfl⟩ := (HL.out.o i v hv).is
                          obtain ⟨N, hN⟩ : ∃ N, N = (bs i).length := ⟨_, rfl⟩
                          rw [← hN] at hv
                          have HN : Hid (N = (bs i).length) := hN
                          have hN2 : (N : Int) ≤ 8000000 := by have := HL.out.z i; omega
                          have Hv : Hid _ := hv
                          clear hN hv
                          go_wp2
                          go_loopw [22] (fun kv wr => ∃ (k : Nat), kv = .int .i64 (k : Int) ∧ k ≤ N ∧ Hid (Ls w (.slice (some ⟨gt, 0, none⟩) 24 cap) (.slice (some ⟨gl, 0, none⟩) 48 c) (Dg.txs a b 24) vs bs wr)) (fun kv _ => N - (intOf kv).toNat)
                          case atStart => exact ⟨0, rfl, by omega, HL⟩
                          case round =>
                            clear HL
                            obtain ⟨k, rfl, hk, HL⟩ := hrel
                            have c2 := Dg.Ov.cell HL.out.l Hv.out
                            by_cases hkl : k < N
                            · have r1 : (k : Int) < (N : Int) := by omega
                              have r2 : (0 : Int) ≤ (k : Int) := by omega
                              have hob := HL.out.o i _ Hv.out
                              obtain ⟨g, rfl⟩ : ∃ g, ad4 = some ⟨g, 0, none⟩ := by
                                rcases hob with ⟨_, e0⟩ | ⟨g, cap, e, _⟩
                                · have h1 := HN.out
                                  rw [e0] at h1
                                  simp at h1
                                  omega
                                · injection e with e; exact ⟨g, e⟩
                              obtain ⟨M, hM⟩ : ∃ M : Nat, M = i % 24 + 1 := ⟨_, rfl⟩
                              obtain ⟨R, hR⟩ : ∃ R : Nat, R = i % 24 := ⟨_, rfl⟩
                              have hkl' : k < (bs i).length := by rw [← HN.out]; exact hkl
                              have hby : ((bs i)[k]'hkl').toNat = M := by rw [Hm.out i hlt _ (List.getElem_mem hkl'), Dg.mk_nat, hM]
                              obtain ⟨f1, -⟩ := Ob.cell hob (i := k) hkl'
                              rw [hby] at f1
                              have e1 : IntKind.u8.wrap ((R : Int) + 1) = (M : Int) := by rw [IntKind.wrap_u8]; omega
                              have e3 : IntKind.i64.wrap ((R : Int) + 1) = (R : Int) + 1 := by rw [IntKind.wrap_i64]; omega
                              have e2 : (i : Int).tmod 24 = (R : Int) := by rw [Int.tmod_eq_emod_of_nonneg (by omega)]; omega
                              have hR2 : (R : Int) < 24 := by omega
                              have hR3 : (0 : Int) ≤ (R : Int) := by omega
                              clear hM hR hby hob
                              have kL : ∀ W, Below wr.heap.size wr W → W.cell? ⟨gl, i, none⟩ = some (.slice (some ⟨g, 0, none⟩) N C4) ∧ W.cell? ⟨g, k, none⟩ = some (.int .u8 (M : Int)) := fun W hW => ⟨(World.cell?_of_block (w := wr) (a := ⟨gl, i, none⟩) (hW.block gl (HL.out.l.lt gl rfl).2)).trans c2, (World.cell?_of_block (w := wr) (a := ⟨g, k, none⟩) (hW.block g ((HL.out.o i _ Hv.out).lt g rfl).2)).trans f1⟩
                              have kS : ∀ W, Below wr.heap.size wr W → Ls w (.slice (some ⟨gt, 0, none⟩) 24 cap) (.slice (some ⟨gl, 0, none⟩) 48 c) (Dg.txs a b 24) vs bs W := fun W hW => HL.out.below hW
                              clear f1
                              go_upto_region 41 with (fail)
                              clear c2
                              refine wp_region_quiet (C := fun W => Below wr.heap.size wr W) (by kernel_rfl) (by kernel_rfl) ⟨rfl, rfl, rfl, Nat.le_refl _, fun _ _ => rfl⟩ ?_
                              dsimp only
                              refine Go.Lq.q_valW (v := .slice (some ⟨gl, 0, none⟩) 48 c) (by kernel_rfl) (fun _ _ => by kernel_rfl) ?_
                              try simp only [Act.put, List.setIfInBounds_toArray, List.set_cons_zero, List.set_cons_succ]
                              refine Go.Lq.q_valW (v := .int .i64 (i : Int)) (by kernel_rfl) (fun _ _ => by kernel_rfl) ?_
                              try simp only [Act.put, List.setIfInBounds_toArray, List.set_cons_zero, List.set_cons_succ]
                              refine Go.Lq.q_valW (v := .pointer (some ⟨gl, i, none⟩)) (by kernel_rfl) (fun W _ => by go_simp) ?_
                              try simp only [Act.put, List.setIfInBounds_toArray, List.set_cons_zero, List.set_cons_succ]
                              refine Go.Lq.q_valW (v := .slice (some ⟨g, 0, none⟩) N C4) (by kernel_rfl) (fun W hW => by have c2 := (kL W hW).1; go_simp) ?_
                              try simp only [Act.put, List.setIfInBounds_toArray, List.set_cons_zero, List.set_cons_succ]
                              refine Go.Lq.q_valW (v := .int .i64 (k : Int)) (by kernel_rfl) (fun _ _ => by kernel_rfl) ?_
                              try simp only [Act.put, List.setIfInBounds_toArray, List.set_cons_zero, List.set_cons_succ]
                              refine Go.Lq.q_valW (v := .pointer (some ⟨g, k, none⟩)) (by kernel_rfl) (fun W _ => by go_simp) ?_
                              try simp only [Act.put, List.setIfInBounds_toArray, List.set_cons_zero, List.set_cons_succ]
                              refine Go.Lq.q_valW (v := .int .u8 (M : Int)) (by kernel_rfl) (fun W hW => by have c2 := (kL W hW).2; go_simp) ?_
                              try simp only [Act.put, List.setIfInBounds_toArray, List.set_cons_zero, List.set_cons_succ]
                              refine Go.Lq.q_valW (v := .int .i64 (i : Int)) (by kernel_rfl) (fun _ _ => by kernel_rfl) ?_
                              try simp only [Act.put, List.setIfInBounds_toArray, List.set_cons_zero, List.set_cons_succ]
                              refine Go.Lq.q_valW (v := .int .i64 24) (by kernel_rfl) (fun _ _ => by kernel_rfl) ?_
                              try simp only [Act.put, List.setIfInBounds_toArray, List.set_cons_zero, List.set_cons_succ]
                              refine Go.Lq.q_valW (v := .int .i64 (R : Int)) (by kernel_rfl) (fun W _ => by go_simp) ?_
                              try simp only [Act.put, List.setIfInBounds_toArray, List.set_cons_zero, List.set_cons_succ]
                              refine Go.Lq.q_valW (v := .int .i64 ((R : Int) + 1)) (by kernel_rfl) (fun W _ => by go_simp) ?_
                              try simp only [Act.put, List.setIfInBounds_toArray, List.set_cons_zero, List.set_cons_succ]
                              refine Go.Lq.q_valW (v := .int .u8 (M : Int)) (by kernel_rfl) (fun W _ => by go_simp) ?_
                              try simp only [Act.put, List.setIfInBounds_toArray, List.set_cons_zero, List.set_cons_succ]
                              refine Go.Lq.q_valW (v := .bool false) (by kernel_rfl) (fun W _ => by go_simp) ?_
                              try simp only [Act.put, List.setIfInBounds_toArray, List.set_cons_zero, List.set_cons_succ]
                              refine wpQuiet_nil ?_
                              intro W hW
                              have HW : Hid _ := kS W hW
                              clear hW kL kS
                              go_wp2
                              go_roundw
                              case rel => exact ⟨k + 1, by go_num, by omega, HW⟩
                              case measure => simp [intOf]; omega
                            · have r1 : ¬ (k : Int) < (N : Int) := by omega
                              go_wp2
                              go_roundw
                              case rel => exact ⟨i + 1, by go_num, by omega, HL⟩
                              case measure => simp [intOf]; omega
                        · have q1 : ¬ (i : Int) < 48 := by omega
                          go_wp2
                          go_ret
                          exact ⟨rfl, HL.out.b⟩
end Go.Proofs
