/-
  keep: the walk.
-/
import Derived.Test.YtdefebinnmimgaaVu
namespace Go.Proofs
open Go.RowKit Go.Wi
theorem Wi.row_set {w : World} {B n : Nat} {T : TypeId} {V : Value} {xs : List Value} (h : w.ownsRow B T 1 V n xs) {g : Nat} (hg : V.ownBlock = some g) (i : Nat) (u : Value) : (w.setCell ⟨g, i, none⟩ u).ownsRow B T 1 V n (xs.set i u) := by
  refine ⟨by rw [List.length_set]; exact h.1, ?_⟩
  rcases h.2 with ⟨e, e0⟩ | ⟨g', cap, cur, e, hB, hh, h1, h2, h3, h4⟩
  · rw [e] at hg; cases hg
  · subst e
    cases hg
    refine .inr ⟨g', cap, _, rfl, hB, heap_setCell_same w g' i cur T u hh, h1, h2, by simpa using h3, ?_⟩
    rw [← h4]
    simp [List.take_set]
/-- Between two more marks. -/
def Try.KL (w : World) (own : Nat → Prop) (hs : List Wi.Hd) (V : Value) (n : Nat) (m : UInt8) (cc : Nat) (kv2 V2 : Value) (wx : World) : Prop :=
  ∃ own2 hs2, Try.KV wx own2 kv2 hs2 V2 (n + cc) m ∧ hs2.length = hs.length + 1 + cc ∧ (∀ x ∈ hs2, x ∈ hs ∨ x.n ≤ n + 3) ∧ (∀ k, own2 k → own k ∨ V.ownBlock = some k ∨ w.heap.size ≤ k) ∧ (∀ k, V2.ownBlock = some k → own2 k) ∧ Wo (fun k => own k ∨ V.ownBlock = some k) w wx
/-- What 'keep' leaves. -/
structure Try.Kept (w : World) (own : Nat → Prop) (hs : List Wi.Hd) (V : Value) (n : Nat) (e : Ending) (w' : World) : Prop where
  ex : ∃ ad cap own' hs', e = .returned (.slice ad (hs.length + 4) cap) ∧ Try.Hs w' own' (.slice ad (hs.length + 4) cap) hs' ∧ hs'.length = hs.length + 4 ∧ (∀ x ∈ hs', x ∈ hs ∨ x.n ≤ n + 3) ∧ (∀ k, own' k → own k ∨ V.ownBlock = some k ∨ w.heap.size ≤ k) ∧ Wo (fun k => own k ∨ V.ownBlock = some k) w w'
set_option maxRecDepth 4000 in
set_option maxHeartbeats 4000000 in
theorem Try.keep_any {w : World} {own : Nat → Prop} {kv : Value} {hs : List Wi.Hd} {V : Value} {n : Nat} {bs : List UInt8} (h : Try.Hs w own kv hs) (hr : w.ownsRow 0 5 1 V n (Lib.byteCells bs)) (hd : ∀ k, V.ownBlock = some k → ¬ own k) (hl : hs.length ≤ 100000) (hn : n ≤ 2000000) :
    Calls Try.prog 44 #[kv, V] w fun e w' => Try.Kept w own hs V n e w' := by
  have hbl : bs.length = n := by have := hr.1; rw [byteCells_len] at this; omega
  obtain ⟨ka, kc, rfl, -⟩ := Wi.rowForm h.row
  obtain ⟨va, vc, rfl, hn0, h3, hnc⟩ := Wi.rowForm hr
  obtain ⟨m, hm⟩ : ∃ m : UInt8, m = UInt8.ofNat ((17 + 31 * hs.length) % 256) := ⟨_, rfl⟩
  have hz : (17 + 31 * (hs.length : Int)) % 256 = ((m.toNat : Nat) : Int) := by
    rw [hm, UInt8.toNat_ofNat', Nat.mod_eq_of_lt (by omega)]; omega
  have Hh : Hid (Try.Hs w own (.slice ka hs.length kc) hs) := h
  have Hr : Hid (w.ownsRow 0 5 1 (.slice va n vc) n (Lib.byteCells bs)) := hr
  have Hd : Hid (∀ k, (Value.slice va n vc).ownBlock = some k → ¬ own k) := hd
  clear h hr hd hm
  go_enter Try.func44, Try.ntmps44
  go_wp2
  go_loopw [6] (fun i wr => ∃ k : Nat, k ≤ n ∧ i = .int .i64 k ∧ wr.ownsRow 0 5 1 (.slice va n vc) n (Lib.byteCells (List.replicate k m ++ bs.drop k)) ∧ Wo (fun k => (Value.slice va n vc).ownBlock = some k) w wr) (fun i _ => n - (intOf i).toNat)
  case atStart => exact ⟨0, Nat.zero_le _, rfl, by simpa using Hr.out, Wo.refl _ _⟩
  case round =>
    obtain ⟨k, hk, rfl, hrow, hwo⟩ := hrel
    by_cases hkn : k < n
    · have q0 : (k : Int) < (n : Int) := by omega
      cases va with
      | none => have := hn0 rfl; omega
      | some d =>
        obtain ⟨g, rfl⟩ := h3 d rfl
        have hc := hrow.cells (g := g) rfl k (.int .u8 (bs[k].toNat : Nat)) (by
          rw [byteCell (by simp; omega)]
          simp)
        rw [Addr.add_mid, Nat.zero_add] at hc
        have hf : wr.frozen? ⟨g, k, none⟩ = false := by
          rcases hrow.2 with ⟨e, -⟩ | ⟨g', cap, cur, e, -, hh, -⟩
          · cases e
          · cases e
            exact frozen_of_row _ _ _ _ _ hh
        have Hnx : Hid ((Lib.byteCells (List.replicate k m ++ bs.drop k)).set k (.int .u8 (m.toNat : Nat)) = Lib.byteCells (List.replicate (k + 1) m ++ bs.drop (k + 1))) := (by
          have e1 : bs.drop k = bs[k] :: bs.drop (k + 1) := List.drop_eq_getElem_cons (by omega)
          have e2 : List.replicate (k + 1) m ++ bs.drop (k + 1) = List.replicate k m ++ (m :: bs.drop (k + 1)) := by rw [List.replicate_succ', List.append_assoc]; rfl
          show _ = _
          rw [e1, e2]
          simp only [Lib.byteCells, List.map_append, List.map_cons]
          rw [List.set_append_right _ _ (by simp)]
          simp)
        have hrs := Wi.row_set hrow (g := g) rfl k (.int .u8 (m.toNat : Nat))
        rw [Hnx.out] at hrs
        have Hrs : Hid ((wr.setCell ⟨g, k, none⟩ (.int .u8 (m.toNat : Nat))).ownsRow 0 5 1 (.slice (some ⟨g, 0, none⟩) n vc) n (Lib.byteCells (List.replicate (k + 1) m ++ bs.drop (k + 1)))) := hrs
        clear hrow hrs Hnx
        go_wp2
        go_roundw
        case rel => exact ⟨k + 1, by omega, by go_num, Hrs.out, hwo.setCell g k _ (.inl rfl)⟩
        case measure => simp [intOf]; omega
    · have q0 : ¬ (k : Int) < (n : Int) := by omega
      have hkk : k = n := by omega
      rw [hkk, List.drop_of_length_le (by omega), List.append_nil] at hrow
      have hKV : Try.KV wr own (.slice ka hs.length kc) hs (.slice va n vc) n m := ⟨Hh.out.keep (fun j e1 => hwo.block j (Hh.out.lt j e1) (fun e2 => Hd.out j e2 e1)) hwo.size, hrow, fun j e1 e2 => Hd.out j e1 (Hh.out.ko j e2), fun x hx j e1 e2 => absurd ((Hh.out.each x hx).2 j e1).1 (Hd.out j e2)⟩
      have Hwo : Hid (Wo (fun k => own k ∨ (Value.slice va n vc).ownBlock = some k) w wr) := hwo.mono fun j e1 => .inr e1
      clear hkk hrow hwo
      go_wp2_with (first
        | (at_builtin; refine Try.appHold rfl _ _ rfl hKV (by omega) rfl rfl _ (by first | exact hz | rfl) ?_; intro ad1 cap1 w1 own1 hKV1 ho1 hwo1 hvo1)
        | fail)
      have hsz1 := Hwo.out.size
      have ho1' : ∀ k, own1 k → own k ∨ (Value.slice va n vc).ownBlock = some k ∨ w.heap.size ≤ k := fun k e1 => by
        rcases ho1 k e1 with e2 | e2 | e2
        · exact .inl e2
        · exact .inr (.inl e2)
        · exact .inr (.inr (by omega))
      have HKL : Hid (Try.KL w own hs (.slice va n vc) n m 0 (.slice ad1 (hs.length + 1) cap1) (.slice va n vc) w1) := ⟨own1, hs ++ [⟨.slice va n vc, n, m⟩], hKV1, by simp, fun x hx => (by
        rcases List.mem_append.1 hx with hx | hx
        · exact .inl hx
        · rcases List.mem_singleton.1 hx with rfl
          exact .inr (by simp only; omega)), ho1', hvo1, Hwo.out.step (fun j e1 => .inl (.inl e1)) hwo1⟩
      clear hKV1 hKV ho1 hwo1 hvo1
      go_loopw [0, 1, 7] (fun kvv vv c wx => ∃ (cc : Nat) (ad2 : Option Addr) (cap2 : Nat) (va2 : Option Addr) (vc2 : Nat), cc ≤ 3 ∧ c = .int .i64 cc ∧ kvv = .slice ad2 (hs.length + 1 + cc) cap2 ∧ vv = .slice va2 (n + cc) vc2 ∧ Try.KL w own hs (.slice va n vc) n m cc (.slice ad2 (hs.length + 1 + cc) cap2) (.slice va2 (n + cc) vc2) wx) (fun _ _ c _ => 3 - (intOf c).toNat)
      case atStart => exact ⟨0, ad1, cap1, va, vc, by omega, rfl, rfl, rfl, HKL.out⟩
      case round =>
        obtain ⟨cc, ad2, cap2, va2, vc2, hcc, rfl, rfl, rfl, hKL⟩ := hrel
        obtain ⟨own2, hs2, hKV2, hl2, hx2, ho2, hvo2, hwo2⟩ := hKL
        by_cases hc3 : cc < 3
        · have q1 : (cc : Int) < 3 := by omega
          have Hho : Hid (∀ k, own2 k → own k ∨ (Value.slice va n vc).ownBlock = some k ∨ w.heap.size ≤ k) := ho2
          have Hl2 : Hid (hs2.length = hs.length + 1 + cc) := hl2
          clear ho2 hl2
          go_wp2_with (first
            | (at_builtin; refine Try.appMark rfl _ _ rfl hKV2 (by omega) rfl rfl _ (by rfl) ?_; intro ad3 cap3 w3 hKV3 hv3 hwo3)
            | (at_builtin; refine Try.appHold rfl _ _ rfl hKV3 (by rw [Hl2.out]; omega) rfl rfl _ (by rfl) ?_; intro ad4 cap4 w4 own4 hKV4 ho4 hwo4 hvo4)
            | fail)
          have hs2w := hwo2.size
          have hs3w := hwo3.size
          have Hst : Hid (∀ k, own2 k → (own k ∨ (Value.slice va n vc).ownBlock = some k) ∨ w.heap.size ≤ k) := fun k e1 => by
            rcases Hho.out k e1 with e2 | e2 | e2
            · exact .inl (.inl e2)
            · exact .inl (.inr e2)
            · exact .inr e2
          have HKL4 : Hid (Try.KL w own hs (.slice va n vc) n m (cc + 1) (.slice ad4 (hs.length + 1 + (cc + 1)) cap4) (.slice ad3 (n + (cc + 1)) cap3) w4) := (by
            show Try.KL w own hs (.slice va n vc) n m (cc + 1) (.slice ad4 (hs.length + 1 + (cc + 1)) cap4) (.slice ad3 (n + (cc + 1)) cap3) w4
            refine ⟨own4, hs2 ++ [⟨.slice ad3 (n + cc + 1) cap3, n + cc + 1, m⟩], ?_, (by rw [List.length_append, Hl2.out]; rfl), fun x hx => ?_, fun k e1 => ?_, hvo4, (hwo2.step (fun k e1 => Hst.out k (hvo2 k e1)) hwo3).step Hst.out hwo4⟩
            · rw [Hl2.out] at hKV4
              exact hKV4
            · rcases List.mem_append.1 hx with hx | hx
              · exact hx2 x hx
              · rcases List.mem_singleton.1 hx with rfl
                exact .inr (by simp only; omega)
            · rcases ho4 k e1 with e2 | e2 | e2
              · exact Hho.out k e2
              · rcases hv3 k e2 with e3 | e3
                · exact Hho.out k (hvo2 k e3)
                · exact .inr (.inr (by omega))
              · exact .inr (.inr (by omega)))
          clear hKV4 hKV3 hKV2 ho4 hv3 hwo2 hwo3 hwo4 hvo4 hvo2 hx2
          go_roundw
          case rel => exact ⟨cc + 1, ad4, cap4, ad3, cap3, by omega, by go_num, by rw [Hl2.out]; rfl, rfl, HKL4.out⟩
          case measure => simp [intOf]; omega
        · have q1 : ¬ (cc : Int) < 3 := by omega
          have hc3' : cc = 3 := by omega
          have Hfin : Hid (∃ own' hs', Try.Hs wr own' (.slice ad2 (hs.length + 4) cap2) hs' ∧ hs'.length = hs.length + 4 ∧ (∀ x ∈ hs', x ∈ hs ∨ x.n ≤ n + 3) ∧ (∀ k, own' k → own k ∨ (Value.slice va n vc).ownBlock = some k ∨ w.heap.size ≤ k) ∧ Wo (fun k => own k ∨ (Value.slice va n vc).ownBlock = some k) w wr) := ⟨own2, hs2, (by rw [show hs.length + 4 = hs.length + 1 + cc by omega]; exact hKV2.hh), by omega, hx2, ho2, hwo2⟩
          have Hc3 : Hid (hs.length + 1 + cc = hs.length + 4) := (by show _ = _; omega)
          clear hKV2 hl2 hx2 ho2 hvo2 hwo2 hc3'
          go_wp2
          go_ret
          obtain ⟨own', hs', g1, g2, g3, g4, g5⟩ := Hfin.out
          refine ⟨ad2, cap2, own', hs', ?_, g1, g2, g3, g4, g5⟩
          rw [← Hc3.out]
          rfl
end Go.Proofs
