/-
  keep, looks: bytes are their owner's.
-/
import Derived.Test.YtnfpocpeglfdbaaDyJ
import Derived.Deep.DeepCutAuto
namespace Go.Proofs
open Go.RowKit Go.Wi
/-- Between two more marks. -/
def Try.KW (w : World) (own : Nat → Prop) (wb : Nat) (lv : Value) (hs : List Dk.Hd) (V : Value) (n : Nat) (m : Nat) (cc : Nat) (kv2 V2 : Value) (wx : World) : Prop :=
  ∃ own2 hs2, Try.KV wx own2 kv2 hs2 V2 (n + cc) m ∧ wx.heap[wb]? = some (.cells #[lv, kv2] 28 (0, 0)) ∧ hs2.length = hs.length + 1 + cc ∧ (∀ x ∈ hs2, x ∈ hs ∨ (x.n ≤ n + 3 ∧ x.m ≤ 500000001)) ∧ (∀ k, own2 k → own k ∨ V.ownBlock = some k ∨ w.heap.size ≤ k) ∧ (∀ k, V2.ownBlock = some k → own2 k) ∧ Wo (fun k => own k ∨ V.ownBlock = some k ∨ k = wb) w wx
/-- What 'keep' leaves. -/
structure Try.KeptW (w : World) (own : Nat → Prop) (wb : Nat) (lv : Value) (hs : List Dk.Hd) (V : Value) (n : Nat) (w' : World) : Prop where
  ex : ∃ own' kv' hs', w'.heap[wb]? = some (.cells #[lv, kv'] 28 (0, 0)) ∧ Try.Hs w' own' kv' hs' ∧ hs'.length = hs.length + 4 ∧ (∀ x ∈ hs', x ∈ hs ∨ (x.n ≤ n + 3 ∧ x.m ≤ 500000001)) ∧ (∀ k, own' k → own k ∨ V.ownBlock = some k ∨ w.heap.size ≤ k) ∧ Wo (fun k => own k ∨ V.ownBlock = some k ∨ k = wb) w w'
theorem Try.KV.keep {w w' : World} {own : Nat → Prop} {kv : Value} {hs : List Dk.Hd} {V : Value} {N m : Nat} (h : Try.KV w own kv hs V N m) (hk : ∀ k, own k ∨ V.ownBlock = some k → w'.heap[k]? = w.heap[k]?) (hsz : w.heap.size ≤ w'.heap.size) : Try.KV w' own kv hs V N m :=
  ⟨h.hh.keep (fun k e => hk k (.inl e)) hsz, Dk.row_heap h.vr fun k e => hk k (.inr e), h.vk, h.pre⟩
set_option maxRecDepth 4000 in
set_option maxHeartbeats 4000000 in
theorem Try.keepW_any {w : World} {own : Nat → Prop} {wb : Nat} {lv kv : Value} {hs : List Dk.Hd} {V : Value} {n : Nat} {bs : List UInt8} (h : Try.Hs w own kv hs) (hb : w.heap[wb]? = some (.cells #[lv, kv] 28 (0, 0))) (hwb : ¬ own wb) (hr : w.ownsRow 0 5 1 V n (Lib.byteCells bs)) (hd : ∀ k, V.ownBlock = some k → ¬ own k ∧ k ≠ wb) (hl : hs.length ≤ 500000000) (hn : n ≤ 2000000) :
    Calls Try.prog 27 #[.pointer (some ⟨wb, 0, none⟩), V] w fun e w' => (∃ v, e = .returned v) ∧ Try.KeptW w own wb lv hs V n w' := by
  have hbl : bs.length = n := by have := hr.1; rw [byteCells_len] at this; omega
  obtain ⟨ka, kc, rfl, -⟩ := Dk.rowForm h.row
  obtain ⟨va, vc, rfl, hn0, h3, hnc⟩ := Dk.rowForm hr
  obtain ⟨m, hm⟩ : ∃ m : Nat, m = hs.length + 1 := ⟨_, rfl⟩
  have hz : (hs.length : Int) + 1 = (m : Int) := by omega
  have hm9 : m ≤ 1000000000 := by omega
  have c1 : w.cell? ⟨wb, 1, none⟩ = some (.slice ka hs.length kc) := cell_of_row w wb 1 _ _ _ hb
  have Hh : Hid (Try.Hs w own (.slice ka hs.length kc) hs) := h
  have Hb : Hid (w.heap[wb]? = some (.cells #[lv, .slice ka hs.length kc] 28 (0, 0))) := hb
  have Hwb : Hid (¬ own wb) := hwb
  have Hr : Hid (w.ownsRow 0 5 1 (.slice va n vc) n (Lib.byteCells bs)) := hr
  have Hd : Hid (∀ k, (Value.slice va n vc).ownBlock = some k → ¬ own k ∧ k ≠ wb) := hd
  have Hm : Hid (m = hs.length + 1) := hm
  have hsg := fun (k : Nat) (hk : k ≤ 1000000000) (W : World) => Try.sign_any m k hm9 hk W
  clear h hr hd hm hb hwb
  go_enter Try.func27, Try.ntmps27
  go_upto_region 2 with fail
  clear hz
  go_loopw [5] (fun i wr => ∃ k : Nat, k ≤ n ∧ i = .int .i64 k ∧ wr.ownsRow 0 5 1 (.slice va n vc) n (Lib.byteCells (Dk.sgs m k ++ bs.drop k)) ∧ Wo (fun k => (Value.slice va n vc).ownBlock = some k) w wr) (fun i _ => n - (intOf i).toNat)
  case atStart => exact ⟨0, Nat.zero_le _, rfl, by simpa [Dk.sgs] using Hr.out, Wo.refl _ _⟩
  case round =>
    obtain ⟨k, hk, rfl, hrow, hwo⟩ := hrel
    by_cases hkn : k < n
    · have q0 : (k : Int) < (n : Int) := by omega
      have hs1 := hsg k (by omega) wr
      cases va with
      | none => have := hn0 rfl; omega
      | some d =>
        obtain ⟨g, rfl⟩ := h3 d rfl
        have hc := hrow.cells (g := g) rfl k (.int .u8 (bs[k].toNat : Nat)) (by
          have hl2 := Dk.sgs_len m k
          rw [byteCell (by rw [List.length_append, hl2, List.length_drop]; omega)]
          rw [List.getElem_append_right (by omega)]
          simp only [hl2, Nat.sub_self, List.getElem_drop, Nat.add_zero])
        rw [Addr.add_mid, Nat.zero_add] at hc
        have hf : wr.frozen? ⟨g, k, none⟩ = false := by
          rcases hrow.2 with ⟨e, -⟩ | ⟨g', cap, cur, e, -, hh, -⟩
          · cases e
          · cases e
            exact frozen_of_row _ _ _ _ _ hh
        have Hnx : Hid ((Lib.byteCells (Dk.sgs m k ++ bs.drop k)).set k (.int .u8 ((Dk.sg m k).toNat : Nat)) = Lib.byteCells (Dk.sgs m (k + 1) ++ bs.drop (k + 1))) := (by
          have e1 : bs.drop k = bs[k] :: bs.drop (k + 1) := List.drop_eq_getElem_cons (by omega)
          show _ = _
          rw [e1, Dk.sgs_succ, List.append_assoc]
          simp only [Lib.byteCells, List.map_append, List.map_cons]
          rw [List.set_append_right _ _ (by rw [List.length_map, Dk.sgs_len]; exact Nat.le_refl _), List.length_map, Dk.sgs_len, Nat.sub_self]
          rfl)
        have hrs := Dk.row_set hrow (g := g) rfl k (.int .u8 ((Dk.sg m k).toNat : Nat))
        rw [Hnx.out] at hrs
        have Hrs : Hid ((wr.setCell ⟨g, k, none⟩ (.int .u8 ((Dk.sg m k).toNat : Nat))).ownsRow 0 5 1 (.slice (some ⟨g, 0, none⟩) n vc) n (Lib.byteCells (Dk.sgs m (k + 1) ++ bs.drop (k + 1)))) := hrs
        have Hwo : Hid (Wo (fun j => (Value.slice (some ⟨g, 0, none⟩) n vc).ownBlock = some j) w wr) := hwo
        clear hrow hrs Hnx hwo
        go_wp2_with (first
          | (go_at_call 24; refine hs1.mono ?_; clear hs1; rintro e w5 ⟨rfl, rfl⟩)
          | fail)
        go_roundw
        case rel => exact ⟨k + 1, by omega, by go_num, Hrs.out, Hwo.out.setCell g k _ (.inl rfl)⟩
        case measure => simp [intOf]; omega
    · have q0 : ¬ (k : Int) < (n : Int) := by omega
      have hkk : k = n := by omega
      rw [hkk, List.drop_of_length_le (by omega), List.append_nil] at hrow
      have hwbw := Dk.block_lt Hb.out
      have hKV : Try.KV wr own (.slice ka hs.length kc) hs (.slice va n vc) n m := ⟨Hh.out.keep (fun j e1 => hwo.block j (Hh.out.lt j e1) (fun e2 => (Hd.out j e2).1 e1)) hwo.size, hrow, fun j e1 e2 => (Hd.out j e1).1 (Hh.out.ko j e2), fun x hx j e1 e2 => absurd ((Hh.out.each x hx).2 j e1).1 (Hd.out j e2).1⟩
      have hbw : wr.heap[wb]? = some (.cells #[lv, .slice ka hs.length kc] 28 (0, 0)) := (hwo.block wb hwbw (fun e => (Hd.out wb e).2 rfl)).trans Hb.out
      have Hwo : Hid (Wo (fun k => own k ∨ (Value.slice va n vc).ownBlock = some k ∨ k = wb) w wr) := hwo.mono fun j e1 => .inr (.inl e1)
      have k1 := cell_of_row wr wb 1 _ _ _ hbw
      have Hbw : Hid (wr.heap[wb]? = some (.cells #[lv, .slice ka hs.length kc] 28 (0, 0))) := hbw
      clear hkk hrow hwo hbw hwbw hkn c1
      go_upto_region 7 with (first
        | (at_builtin; refine Try.appHold rfl _ _ rfl hKV (by have := Hm.out; omega) rfl rfl _ (by first | exact hz | rfl) ?_; intro ad1 cap1 w1 own1 hKV1 ho1 hwo1 hvo1; have e1 : w1.heap[wb]? = _ := (hwo1.block wb (Dk.block_lt Hbw.out) Hwb.out).trans Hbw.out; have k2 := cell_of_row w1 wb 1 _ _ _ e1; have f2 := frozen_of_row w1 wb 1 _ _ e1)
        | fail)
      have e3 := heap_setCell_same w1 wb 1 _ _ (.slice ad1 (hs.length + 1) cap1) e1
      have hsz1 := Hwo.out.size
      have hwo3 := (Hwo.out.step (fun j e1 => .inl (.inl e1)) hwo1).setCell wb 1 (.slice ad1 (hs.length + 1) cap1) (.inl (.inr (.inr rfl)))
      have hwb1 : ¬ own1 wb ∧ (Value.slice va n vc).ownBlock ≠ some wb := ⟨fun e => by
        rcases ho1 wb e with e2 | e2 | e2
        · exact Hwb.out e2
        · exact (Hd.out wb e2).2 rfl
        · have := Dk.block_lt Hbw.out; omega, fun e => (Hd.out wb e).2 rfl⟩
      have hKV3 : Try.KV (w1.setCell ⟨wb, 1, none⟩ (.slice ad1 (hs.length + 1) cap1)) own1 (.slice ad1 (hs.length + 1) cap1) (hs ++ [⟨.slice va n vc, n, m⟩]) (.slice va n vc) n m := hKV1.keep (fun j e => Below.heap_setCell w1 ⟨wb, 1, none⟩ _ j (fun e2 => by rcases e with e | e; exact hwb1.1 (by rw [← show j = wb from e2]; exact e); exact hwb1.2 (by rw [← show j = wb from e2]; exact e))) (by simp)
      have HKL : Hid (Try.KW w own wb lv hs (.slice va n vc) n m 0 (.slice ad1 (hs.length + 1) cap1) (.slice va n vc) (w1.setCell ⟨wb, 1, none⟩ (.slice ad1 (hs.length + 1) cap1))) := ⟨own1, hs ++ [⟨.slice va n vc, n, m⟩], hKV3, e3, by simp, fun x hx => (by
        rcases List.mem_append.1 hx with hx | hx
        · exact .inl hx
        · rcases List.mem_singleton.1 hx with rfl
          exact .inr ⟨by simp only; omega, by have := Hm.out; simp only; omega⟩), fun k e1 => (by
        rcases ho1 k e1 with e2 | e2 | e2
        · exact .inl e2
        · exact .inr (.inl e2)
        · exact .inr (.inr (by omega))), hvo1, hwo3⟩
      clear hKV1 hKV hKV3 ho1 hwo1 hvo1 e1 e3 k1 k2 f2 hwo3 hwb1 Hbw
      go_loopw [1, 6] (fun vv c wx => ∃ (cc : Nat) (ad2 : Option Addr) (cap2 : Nat) (va2 : Option Addr) (vc2 : Nat), cc ≤ 3 ∧ c = .int .i64 cc ∧ vv = .slice va2 (n + cc) vc2 ∧ Try.KW w own wb lv hs (.slice va n vc) n m cc (.slice ad2 (hs.length + 1 + cc) cap2) (.slice va2 (n + cc) vc2) wx) (fun _ c _ => 3 - (intOf c).toNat)
      case atStart => exact ⟨0, ad1, cap1, va, vc, by omega, rfl, rfl, HKL.out⟩
      case round =>
        obtain ⟨cc, ad2, cap2, va2, vc2, hcc, rfl, rfl, hKL⟩ := hrel
        obtain ⟨own2, hs2, hKV2, hbw2, hl2, hx2, ho2, hvo2, hwo2⟩ := hKL
        have hwb2 : ¬ own2 wb := fun e => by
          rcases ho2 wb e with e2 | e2 | e2
          · exact Hwb.out e2
          · exact (Hd.out wb e2).2 rfl
          · have := Dk.block_lt Hb.out; omega
        by_cases hc3 : cc < 3
        · have q1 : (cc : Int) < 3 := by omega
          have hs2g := hsg (n + cc) (by omega) wr
          have Hho : Hid (∀ k, own2 k → own k ∨ (Value.slice va n vc).ownBlock = some k ∨ w.heap.size ≤ k) := ho2
          have Hl2 : Hid (hs2.length = hs.length + 1 + cc) := hl2
          have Hbw2 : Hid (wr.heap[wb]? = some (.cells #[lv, .slice ad2 (hs.length + 1 + cc) cap2] 28 (0, 0))) := hbw2
          have Hwb2 : Hid (¬ own2 wb) := hwb2
          have Hvo2 : Hid (∀ k, (Value.slice va2 (n + cc) vc2).ownBlock = some k → own2 k) := hvo2
          clear ho2 hl2 hbw2 hwb2 hvo2 HKL
          go_upto_region 10 with (first
            | (go_at_call 24; refine hs2g.mono ?_; clear hs2g; rintro e w5 ⟨rfl, e5⟩; have e6 := e5.symm; clear e5; subst e6)
            | (at_builtin; refine Try.appMark rfl _ _ rfl hKV2 (by omega) rfl rfl _ (by rfl) ?_; intro ad3 cap3 w3 hKV3 hv3 hwo3; have e3 : w3.heap[wb]? = _ := (hwo3.block wb (Dk.block_lt Hbw2.out) (fun e => Hwb2.out (Hvo2.out wb e))).trans Hbw2.out; have k3 := cell_of_row w3 wb 1 _ _ _ e3)
            | fail)
          have Hv3 : Hid (∀ k, (Value.slice ad3 (n + cc + 1) cap3).ownBlock = some k → (Value.slice va2 (n + cc) vc2).ownBlock = some k ∨ wr.heap.size ≤ k) := hv3
          have E3 : Hid (w3.heap[wb]? = some (.cells #[lv, .slice ad2 (hs.length + 1 + cc) cap2] 28 (0, 0))) := e3
          have hs2w := hwo2.size
          have hs3w := hwo3.size
          have Hst : Hid (∀ k, own2 k → (own k ∨ (Value.slice va n vc).ownBlock = some k ∨ k = wb) ∨ w.heap.size ≤ k) := fun k e1 => by
            rcases Hho.out k e1 with e2 | e2 | e2
            · exact .inl (.inl e2)
            · exact .inl (.inr (.inl e2))
            · exact .inr e2
          have Hw3 : Hid (Wo (fun k => own k ∨ (Value.slice va n vc).ownBlock = some k ∨ k = wb) w w3) := hwo2.step (fun k e1 => Hst.out k (Hvo2.out k e1)) hwo3
          have HV3 : Hid ((Value.slice ad3 (n + cc + 1) cap3).ownBlock ≠ some wb) := fun e => by
            rcases hv3 wb e with e2 | e2
            · exact Hwb2.out (Hvo2.out wb e2)
            · have := Dk.block_lt Hbw2.out; omega
          clear hv3 e3 hwo3 hwo2 hKV2
          go_upto_region 8 with (first
            | (at_builtin; refine Try.appHold rfl _ _ rfl hKV3 (by rw [Hl2.out]; have := Hm.out; omega) rfl (by first | rfl | rw [Hl2.out]) _ (by rfl) ?_; intro ad4 cap4 w4 own4 hKV4 ho4 hwo4 hvo4; have e4 : w4.heap[wb]? = _ := (hwo4.block wb (Dk.block_lt E3.out) Hwb2.out).trans E3.out; have k4 := cell_of_row w4 wb 1 _ _ _ e4; have f4 := frozen_of_row w4 wb 1 _ _ e4)
            | fail)
          have Ho4 : Hid (∀ k, own4 k → own k ∨ (Value.slice va n vc).ownBlock = some k ∨ w.heap.size ≤ k) := fun k e1 => by
            have z1 := Hw3.out.size
            rcases ho4 k e1 with e2 | e2 | e2
            · exact Hho.out k e2
            · rcases Hv3.out k e2 with e3 | e3
              · exact Hho.out k (Hvo2.out k e3)
              · exact .inr (.inr (by omega))
            · exact .inr (.inr (by omega))
          have hwb4 : ¬ own4 wb := fun e => by
            rcases Ho4.out wb e with e2 | e2 | e2
            · exact Hwb.out e2
            · exact (Hd.out wb e2).2 rfl
            · have := Dk.block_lt Hb.out; omega
          have e5 := heap_setCell_same w4 wb 1 _ _ (.slice ad4 (hs2.length + 1) cap4) e4
          have hKV5 : Try.KV (w4.setCell ⟨wb, 1, none⟩ (.slice ad4 (hs2.length + 1) cap4)) own4 (.slice ad4 (hs2.length + 1) cap4) (hs2 ++ [⟨.slice ad3 (n + cc + 1) cap3, n + cc + 1, m⟩]) (.slice ad3 (n + cc + 1) cap3) (n + cc + 1) m := hKV4.keep (fun j e => Below.heap_setCell w4 ⟨wb, 1, none⟩ _ j (fun e2 => by rcases e with e | e; exact hwb4 (by rw [← show j = wb from e2]; exact e); exact HV3.out (by rw [← show j = wb from e2]; exact e))) (by simp)
          have hwo5 := (Hw3.out.step (fun k e1 => Hst.out k e1) hwo4).setCell wb 1 (.slice ad4 (hs2.length + 1) cap4) (.inl (.inr (.inr rfl)))
          have HKL5 : Hid (Try.KW w own wb lv hs (.slice va n vc) n m (cc + 1) (.slice ad4 (hs2.length + 1) cap4) (.slice ad3 (n + cc + 1) cap3) (w4.setCell ⟨wb, 1, none⟩ (.slice ad4 (hs2.length + 1) cap4))) :=
            ⟨own4, _, hKV5, e5, (by rw [List.length_append, Hl2.out]; rfl), fun x hx => (by
              rcases List.mem_append.1 hx with hx | hx
              · exact hx2 x hx
              · rcases List.mem_singleton.1 hx with rfl
                exact .inr ⟨by simp only; omega, by have := Hm.out; simp only; omega⟩), Ho4.out, hvo4, hwo5⟩
          clear hKV4 hKV3 hKV5 ho4 hwo4 hvo4 hwb4 e4 e5 k4 f4 k3 hwo5
          go_wp2
          go_roundw
          case rel => exact ⟨cc + 1, ad4, cap4, ad3, cap3, by omega, by go_num, rfl, by rw [show hs.length + 1 + (cc + 1) = hs2.length + 1 by rw [Hl2.out]; omega]; exact HKL5.out⟩
          case measure => simp [intOf]; omega
        · have q1 : ¬ (cc : Int) < 3 := by omega
          have hc3' : cc = 3 := by omega
          have Hfin : Hid (Try.KeptW w own wb lv hs (.slice va n vc) n wr) := ⟨own2, _, hs2, hbw2, hKV2.hh, by omega, hx2, ho2, hwo2⟩
          clear hKV2 hl2 hx2 ho2 hvo2 hwo2 hc3' hbw2 hwb2 HKL
          go_wp2
          go_end0
          exact ⟨⟨_, rfl⟩, Hfin.out⟩
end Go.Proofs
