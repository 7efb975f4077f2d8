/-
  keep of lists.
-/
import Derived.Test.YtghpbagmpgphfaaWqM
namespace Go.Proofs
open Go.RowKit Go.Wi
set_option maxRecDepth 4000 in
set_option maxHeartbeats 4000000 in
theorem Try.keepL_any {w : World} {own : Nat → Prop} {b : Nat} {c2 c3 lv : Value} {hs : List Wi.Lh} {mv : Value} {V : Value} {n : Nat} {bs : List Int} (h : Try.Kp w own b lv mv c2 c3 lv hs mv (hs.map fun x => x.m) (.slice none 0 0) 0 0) (hr : w.ownsRow 0 2 1 V n (Wi.ics bs)) (hd : ∀ k, V.ownBlock = some k → own k ∧ k ≠ b ∧ lv.ownBlock ≠ some k ∧ mv.ownBlock ≠ some k ∧ ∀ x ∈ hs, x.v.ownBlock ≠ some k) (hl : hs.length ≤ 100000) (hn : n ≤ 1000000000000) :
    Calls Try.prog 40 #[.pointer (some ⟨b, 0, none⟩), V] w fun e w' => (∃ v, e = .returned v) ∧ ∃ own' lv' hs' mv', Try.Kp w' own' b lv' mv' c2 c3 lv' hs' mv' (hs'.map fun x => x.m) (.slice none 0 0) 0 0 ∧ hs'.length = hs.length + 4 ∧ (∀ k, own' k → own k ∨ w.heap.size ≤ k) ∧ Wo own w w' := by
  have hbl : bs.length = n := by have := hr.1; rw [Wi.ics_len] at this; omega
  obtain ⟨ms, hms⟩ : ∃ ms, ms = hs.map fun x => x.m := ⟨_, rfl⟩
  rw [← hms] at h
  have Hms : Hid (ms = hs.map fun x => x.m) := hms
  have hml : ms.length ≤ 100000 := by rw [hms]; simpa using hl
  obtain ⟨la, lc, rfl, -⟩ := Wi.rowForm h.lr
  obtain ⟨ma, mc, rfl, -⟩ := Wi.rowForm h.mr
  obtain ⟨va, vc, rfl, hn0, h3, hnc⟩ := Wi.rowForm hr
  have d0 : w.cell? ⟨b, 0, none⟩ = some (.slice la hs.length lc) := cell_of_row w b 0 _ _ _ h.bl
  obtain ⟨m, hm⟩ : ∃ m : Int, m = 1000 + (hs.length : Int) := ⟨_, rfl⟩
  have hz : IntKind.i64.wrap (1000 + (hs.length : Int)) = m := by rw [IntKind.wrap_i64]; omega
  have hz2 : wrap64 (1000 + (hs.length : Int)) = m := by unfold wrap64; omega
  have Hh := h
  have Hr : Hid (w.ownsRow 0 2 1 (.slice va n vc) n (Wi.ics bs)) := hr
  have Hbl : Hid (bs.length = n) := hbl
  have HH : Hid (Try.Kp w own b (.slice la hs.length lc) (.slice ma ms.length mc) c2 c3 (.slice la hs.length lc) hs (.slice ma ms.length mc) ms (.slice none 0 0) 0 0) := h
  have Hd : Hid (∀ k, (Value.slice va n vc).ownBlock = some k → own k ∧ k ≠ b ∧ (Value.slice la hs.length lc).ownBlock ≠ some k ∧ (Value.slice ma ms.length mc).ownBlock ≠ some k ∧ ∀ x ∈ hs, x.v.ownBlock ≠ some k) := hd
  clear h hr hd hm hms hbl Hh h3 hn0
  go_enter Try.func40, Try.ntmps40
  go_wp2
  go_loopw [5] (fun i wr => ∃ k : Nat, k ≤ n ∧ i = .int .i64 k ∧ wr.ownsRow 0 2 1 (.slice va n vc) n (Wi.ics (List.replicate k m ++ bs.drop k)) ∧ Wo (fun k => (Value.slice va n vc).ownBlock = some k) w wr) (fun i _ => n - (intOf i).toNat)
  case atStart => exact ⟨0, Nat.zero_le _, rfl, by simpa using Hr.out, Wo.refl _ _⟩
  case round =>
    obtain ⟨k, hk, rfl, hrow, hwo⟩ := hrel
    by_cases hkn : k < n
    · have q0 : (k : Int) < (n : Int) := by omega
      obtain ⟨g, hg, c1, f1⟩ := Try.fill_cell hrow (k := k) (by simp; have := Hbl.out; omega)
      cases va with
      | none => cases hg
      | some d =>
        obtain ⟨g1, rfl⟩ : ∃ g1, d = ⟨g1, 0, none⟩ := by
          obtain ⟨_, _, e, _, h3, _⟩ := Wi.rowForm hrow
          cases e
          exact h3 d rfl
        cases hg
        have hrs := Wi.row_set hrow rfl k (.int .i64 m)
        rw [Wi.ics_fill bs m k (by have := Hbl.out; omega)] at hrs
        have Hrs : Hid (World.ownsRow _ 0 2 1 (.slice (some ⟨g1, 0, none⟩) n vc) n (Wi.ics (List.replicate (k + 1) m ++ bs.drop (k + 1)))) := hrs
        clear hrow hrs
        go_wp2
        go_roundw
        case rel => exact ⟨k + 1, by omega, by go_num, Hrs.out, hwo.setCell g1 k _ (.inl rfl)⟩
        case measure => simp [intOf]; omega
    · have q0 : ¬ (k : Int) < (n : Int) := by omega
      have hkk : k = n := by omega
      rw [hkk, List.drop_of_length_le (by have := Hbl.out; omega), List.append_nil] at hrow
      have hK1 : Try.Kp wr own b (.slice la hs.length lc) (.slice ma ms.length mc) c2 c3 (.slice la hs.length lc) hs (.slice ma ms.length mc) ms (.slice va n vc) n m :=
        ⟨(hwo.block b (HH.out.lt b HH.out.ob) (fun e => (Hd.out b e).2.1 rfl)).trans HH.out.bl, Wi.row_heap HH.out.lr fun k e => hwo.block k (HH.out.lt k (HH.out.ol k e).1) (fun e2 => (Hd.out k e2).2.2.1 e), Wi.row_heap HH.out.mr fun k e => hwo.block k (HH.out.lt k (HH.out.om k e).1) (fun e2 => (Hd.out k e2).2.2.2.1 e), hrow, fun x hx => (HH.out.each x hx).keep fun k e => hwo.block k (HH.out.lt k (HH.out.oe x hx k e).1) (fun e2 => (Hd.out k e2).2.2.2.2 x hx e), HH.out.ob, HH.out.ol, HH.out.om, fun k e => ⟨(Hd.out k e).1, (Hd.out k e).2.1, (Hd.out k e).2.2.1, (Hd.out k e).2.2.2.1⟩, HH.out.oe, fun x hx k e e2 => absurd e ((Hd.out k e2).2.2.2.2 x hx), fun k e => Nat.lt_of_lt_of_le (HH.out.lt k e) hwo.size⟩
      have Hwo : Hid (Wo own w wr) := hwo.mono fun k e => (Hd.out k e).1
      have k0 : wr.cell? ⟨b, 0, none⟩ = some (.slice la hs.length lc) := cell_of_row wr b 0 _ _ _ hK1.bl
      clear hwo hrow hkk hk hkn d0
      go_upto_region 6 with (first
        | (at_builtin; refine Try.appL rfl _ _ rfl hK1 (by omega) (by omega) rfl rfl ?_; intro ad1 cap1 w1 own1 hK2 ho1 hwo1; have k1 := cell_of_row w1 b 0 _ _ _ hK2.bl; have f1 := frozen_of_row w1 b 0 _ _ hK2.bl)
        | fail)
      obtain ⟨hK3, hwo3⟩ := hK2.set 0 (.slice ad1 (hs.length + 1) cap1) rfl
      have hsw := Hwo.out.size
      have Ho1 : Hid (∀ k, own1 k → own k ∨ w.heap.size ≤ k) := fun k e => (ho1 k e).elim .inl fun e => .inr (by omega)
      have HW3 := (Hwo.out.trans hwo1).step Ho1.out hwo3
      generalize w1.setCell ⟨b, 0, none⟩ (.slice ad1 (hs.length + 1) cap1) = W2 at *
      have HW : Hid (Wo own w W2) := HW3
      have k2 : W2.cell? ⟨b, 1, none⟩ = some (.slice ma ms.length mc) := cell_of_row W2 b 1 _ _ _ hK3.bl
      clear hK1 hK2 ho1 hwo1 hwo3 HW3 k0 k1 f1 Hwo hsw
      go_upto_region 7 with (first
        | (at_builtin; refine Try.appM rfl _ _ rfl hK3 (by omega) rfl rfl m ?_; intro ad2 cap2 w3 own3 hK4 ho3 hwo4; have k3 := cell_of_row w3 b 1 _ _ _ hK4.bl; have f3 := frozen_of_row w3 b 1 _ _ hK4.bl)
        | fail)
      obtain ⟨hK5, hwo5⟩ := hK4.set 1 (.slice ad2 (ms.length + 1) cap2) rfl
      have hsw := HW.out.size
      have Ho3 : Hid (∀ k, own3 k → own k ∨ w.heap.size ≤ k) := fun k e => (ho3 k e).elim (Ho1.out k) fun e => .inr (by omega)
      have HW5 := (HW.out.step Ho1.out hwo4).step Ho3.out hwo5
      generalize w3.setCell ⟨b, 1, none⟩ (.slice ad2 (ms.length + 1) cap2) = W4 at *
      have HW4 : Hid (Wo own w W4) := HW5
      have HK5 : Hid (Try.Kp W4 own3 b (.slice ad1 (hs.length + 1) cap1) (.slice ad2 (ms.length + 1) cap2) c2 c3 (.slice ad1 (hs.length + 1) cap1) (hs ++ [⟨.slice va n vc, n, m⟩]) (.slice ad2 (ms.length + 1) cap2) (ms ++ [m]) (.slice va n vc) n m) := hK5
      clear hK3 hK4 hK5 ho3 hwo4 hwo5 HW5 k2 k3 f3 HW hsw Ho1
      go_wp2
      go_loopw [1, 6] (fun vv i wx => ∃ (cc : Nat) (la2 : Option Addr) (lc2 : Nat) (ma2 : Option Addr) (mc2 : Nat) (hs2 : List Wi.Lh) (ms2 : List Int) (va2 : Option Addr) (vc2 : Nat) (own2 : Nat → Prop), cc ≤ 3 ∧ i = .int .i64 cc ∧ vv = .slice va2 (n + cc) vc2 ∧ Try.Kp wx own2 b (.slice la2 hs2.length lc2) (.slice ma2 ms2.length mc2) c2 c3 (.slice la2 hs2.length lc2) hs2 (.slice ma2 ms2.length mc2) ms2 (.slice va2 (n + cc) vc2) (n + cc) m ∧ (ms2 = hs2.map fun x => x.m) ∧ hs2.length = hs.length + 1 + cc ∧ (∀ k, own2 k → own k ∨ w.heap.size ≤ k) ∧ Wo own w wx) (fun _ i _ => 3 - (intOf i).toNat)
      case atStart =>
        refine ⟨0, ad1, cap1, ad2, cap2, hs ++ [⟨.slice va n vc, n, m⟩], ms ++ [m], va, vc, own3, by omega, rfl, rfl, ?_, by rw [Hms.out]; simp, by simp, Ho3.out, HW4.out⟩
        have e1 : (hs ++ [(⟨.slice va n vc, n, m⟩ : Wi.Lh)]).length = hs.length + 1 := by simp
        have e2 : (ms ++ [m]).length = ms.length + 1 := by simp
        rw [e1, e2]
        exact HK5.out
      case round =>
        obtain ⟨cc, la2, lc2, ma2, mc2, hs2, ms2, va2, vc2, own2, hcc, rfl, rfl, hK, hms2, hl2, ho2, hw2⟩ := hrel
        have Hl2 : Hid (hs2.length = hs.length + 1 + cc ∧ (ms2 = hs2.map fun x => x.m) ∧ ms2.length = hs2.length) := ⟨hl2, hms2, by rw [hms2]; simp⟩
        have Ho2 : Hid (∀ k, own2 k → own k ∨ w.heap.size ≤ k) := ho2
        have HW2 : Hid (Wo own w _) := hw2
        clear hl2 hms2 ho2 hw2 HK5 HW4 Ho3
        by_cases hc3 : cc < 3
        · have q1 : (cc : Int) < 3 := by omega
          go_upto_region 11 with (first
            | (at_builtin; refine Try.appV rfl _ _ rfl hK (by omega) rfl rfl ?_; intro ad3 cap3 w5 own5 hK5 ho5 hwo5; have k5 := cell_of_row w5 b 0 _ _ _ hK5.bl)
            | fail)
          go_upto_region 12 with (first
            | (at_builtin; refine Try.appL rfl _ _ rfl hK5 (by have := Hl2.out; omega) (by omega) rfl rfl ?_; intro ad4 cap4 w6 own6 hK6 ho6 hwo6; have k6 := cell_of_row w6 b 0 _ _ _ hK6.bl; have f6 := frozen_of_row w6 b 0 _ _ hK6.bl)
            | fail)
          obtain ⟨hK7, hwo7⟩ := hK6.set 0 (.slice ad4 (hs2.length + 1) cap4) rfl
          have z1 := HW2.out.size
          have Ho5 : ∀ k, own5 k → own k ∨ w.heap.size ≤ k := fun k e => (ho5 k e).elim (Ho2.out k) fun e => .inr (by omega)
          have HW5 := HW2.out.step Ho2.out hwo5
          have z2 := HW5.size
          have Ho6 : Hid (∀ k, own6 k → own k ∨ w.heap.size ≤ k) := fun k e => (ho6 k e).elim (Ho5 k) fun e => .inr (by omega)
          have HW6 := (HW5.step Ho5 hwo6).step Ho6.out hwo7
          generalize w6.setCell ⟨b, 0, none⟩ (.slice ad4 (hs2.length + 1) cap4) = W7 at *
          have HW7 : Hid (Wo own w W7) := HW6
          have k7 : W7.cell? ⟨b, 1, none⟩ = some (.slice ma2 ms2.length mc2) := cell_of_row W7 b 1 _ _ _ hK7.bl
          clear hK hK5 hK6 ho5 ho6 hwo5 hwo6 hwo7 Ho5 HW5 HW6 z1 z2 k5 k6 f6 Ho2 HW2
          go_upto_region 9 with (first
            | (at_builtin; refine Try.appM rfl _ _ rfl hK7 (by have := Hl2.out; omega) rfl rfl m ?_; intro ad5 cap5 w8 own8 hK8 ho8 hwo8; have k8 := cell_of_row w8 b 1 _ _ _ hK8.bl; have f8 := frozen_of_row w8 b 1 _ _ hK8.bl)
            | fail)
          obtain ⟨hK9, hwo9⟩ := hK8.set 1 (.slice ad5 (ms2.length + 1) cap5) rfl
          have z1 := HW7.out.size
          have Ho8 : Hid (∀ k, own8 k → own k ∨ w.heap.size ≤ k) := fun k e => (ho8 k e).elim (Ho6.out k) fun e => .inr (by omega)
          have HW9 := (HW7.out.step Ho6.out hwo8).step Ho8.out hwo9
          generalize w8.setCell ⟨b, 1, none⟩ (.slice ad5 (ms2.length + 1) cap5) = W9 at *
          have HW10 : Hid (Wo own w W9) := HW9
          have HK9 : Hid (Try.Kp W9 own8 b (.slice ad4 (hs2.length + 1) cap4) (.slice ad5 (ms2.length + 1) cap5) c2 c3 (.slice ad4 (hs2.length + 1) cap4) (hs2 ++ [⟨.slice ad3 (n + cc + 1) cap3, n + cc + 1, m⟩]) (.slice ad5 (ms2.length + 1) cap5) (ms2 ++ [m]) (.slice ad3 (n + cc + 1) cap3) (n + cc + 1) m) := hK9
          clear hK7 hK8 hK9 ho8 hwo8 hwo9 HW9 z1 k7 k8 f8 HW7 Ho6
          go_wp2
          go_roundw
          case rel =>
            refine ⟨cc + 1, ad4, cap4, ad5, cap5, hs2 ++ [⟨.slice ad3 (n + cc + 1) cap3, n + cc + 1, m⟩], ms2 ++ [m], ad3, cap3, own8, by omega, by go_num, rfl, ?_, by rw [Hl2.out.2.1]; simp, by rw [List.length_append, Hl2.out.1]; rfl, Ho8.out, HW10.out⟩
            have e1 : (hs2 ++ [(⟨.slice ad3 (n + cc + 1) cap3, n + cc + 1, m⟩ : Wi.Lh)]).length = hs2.length + 1 := by simp
            have e2 : (ms2 ++ [m]).length = ms2.length + 1 := by simp
            rw [e1, e2]
            exact HK9.out
          case measure => simp [intOf]; omega
        · have q1 : ¬ (cc : Int) < 3 := by omega
          have Hc : Hid (cc = 3) := by show cc = 3; omega
          have HK : Hid (∃ c0, Try.Kp _ own2 b (.slice la2 hs2.length lc2) (.slice ma2 ms2.length mc2) c2 c3 (.slice la2 hs2.length lc2) hs2 (.slice ma2 ms2.length mc2) ms2 c0 (n + cc) m) := ⟨_, hK⟩
          clear hK
          go_wp2
          go_end0
          obtain ⟨c0, q⟩ := HK.out
          have hfin : Try.Kp wr own2 b (.slice la2 hs2.length lc2) (.slice ma2 ms2.length mc2) c2 c3 (.slice la2 hs2.length lc2) hs2 (.slice ma2 ms2.length mc2) (hs2.map fun x => x.m) (.slice none 0 0) 0 0 :=
            ⟨q.bl, q.lr, by rw [← Hl2.out.2.1]; exact q.mr, World.ownsRow_nil _ _ _ _, q.each, q.ob, q.ol, q.om, fun k e => (by cases e), q.oe, fun x hx k e1 e2 => (by cases e2), q.lt⟩
          have hlen4 : hs2.length = hs.length + 4 := by have := Hl2.out.1; have := Hc.out; omega
          have final : ∃ (own' : Nat → Prop) (lv' : Value) (hs' : List Wi.Lh) (mv' : Value), Try.Kp wr own' b lv' mv' c2 c3 lv' hs' mv' (hs'.map fun x => x.m) (.slice none 0 0) 0 0 ∧ hs'.length = hs.length + 4 ∧ (∀ k, own' k → own k ∨ w.heap.size ≤ k) ∧ Wo own w wr := by
            refine Exists.intro own2 (Exists.intro (.slice la2 hs2.length lc2) (Exists.intro hs2 (Exists.intro (.slice ma2 ms2.length mc2) ?_)))
            exact And.intro hfin (And.intro hlen4 (And.intro Ho2.out HW2.out))
          obtain ⟨f1, f2, f3, f4, f5, f6⟩ := final
          exact ⟨⟨_, rfl⟩, f1, f2, f3, ⟨f4, f5⟩, f6⟩
end Go.Proofs
