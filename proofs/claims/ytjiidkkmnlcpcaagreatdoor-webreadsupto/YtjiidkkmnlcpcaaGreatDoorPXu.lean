/-
  Laid together by packg.py of Xu.
-/
import Derived.Test.YtjiidkkmnlcpcaaGreatDoorPXt
namespace Go.Wb
open Go.RowKit Go.Proofs
theorem trim_len (l : List UInt8) : (trim l).length ≤ l.length := by
  unfold trim Lib.trimS Lib.trimLeftS Lib.trimRightS
  refine Nat.le_trans (List.dropWhile_sublist _).length_le ?_
  rw [List.length_reverse]
  refine Nat.le_trans (List.dropWhile_sublist _).length_le ?_
  rw [List.length_reverse]
  exact Nat.le_refl _
theorem items_small {l o : List UInt8} (h : o ∈ items l) : o.length ≤ l.length := by
  have key : ∀ (k : Nat) (s : List UInt8), o ∈ Lib.splitK [44] 0 k s → o.length ≤ s.length := by
    intro k
    induction k with
    | zero => intro s hs; simp [Lib.splitK] at hs; rw [hs]; exact Nat.le_refl _
    | succ k ih =>
      intro s hs
      unfold Lib.splitK at hs
      split at hs
      · simp at hs; rw [hs]; exact Nat.le_refl _
      · rcases List.mem_cons.1 hs with e | e
        · rw [e, List.length_take]; omega
        · have := ih _ e
          rw [List.length_drop] at this
          omega
  exact key _ _ h
end Go.Wb
namespace Go.Proofs
open Go.RowKit Go.Wi Go.Wb
set_option maxRecDepth 20000 in
set_option maxHeartbeats 1000000 in
theorem Tryz.hasItem_any {w : World} {V : Value} {L : List (List UInt8)} (h : Ss w V L) (hL : L.length ≤ 9223372036854775807) (hl : ∀ x ∈ L, x.length ≤ 4000000000) (item : List UInt8) :
    Calls Tryz.prog 151 #[V, .string ⟨item.toArray⟩] w fun e w' => e = .returned (.bool (Wb.hasItem L item)) ∧ Below w.heap.size w w' := by
  have hdef : Wb.hasItem L item = L.any fun l => (items l).any (isItem item) := rfl
  rw [hdef]
  clear hdef
  obtain ⟨ad, cap, rfl, hx⟩ := h.ex
  clear h
  have HX : Hid (L = [] ∨ ∃ g, ad = some ⟨g, 0, none⟩ ∧ g < w.heap.size ∧ ∀ j (hj : j < L.length), w.cell? ⟨g, j, none⟩ = some (.string ⟨L[j].toArray⟩)) := hx
  clear hx
  go_enter Tryz.func151, Tryz.ntmps151
  go_wp2
  go_loopw [6, 8, 11] (fun _ _ iv wr => ∃ i : Nat, iv = .int .i64 i ∧ i ≤ L.length ∧ ((L.take i).any fun l => (items l).any (isItem item)) = false ∧ Below w.heap.size w wr) (fun _ _ iv _ => L.length - (intOf iv).toNat)
  case atStart => exact ⟨0, rfl, Nat.zero_le _, by simp, Below.refl _ _⟩
  case round =>
    obtain ⟨i, rfl, hi, hno, hbel⟩ := hrel
    have HN : Hid (((L.take i).any fun l => (items l).any (isItem item)) = false) := hno
    have HB : Hid (Below w.heap.size w wr) := hbel
    clear hno hbel
    by_cases hlt : i < L.length
    · have q : (i : Int) < (L.length : Int) := by omega
      obtain ⟨g, rfl, c0⟩ : ∃ g, ad = some ⟨g, 0, none⟩ ∧ wr.cell? ⟨g, i, none⟩ = some (.string ⟨L[i].toArray⟩) := by
        rcases HX.out with e | ⟨g, e, hg, hc⟩
        · rw [e] at hlt; cases hlt
        · exact ⟨g, e, (HB.out.cell (p := ⟨g, i, none⟩) hg).trans (hc i hlt)⟩
      have hli := hl L[i] (List.getElem_mem hlt)
      have ks := Tryz.split_any L[i] hli wr
      have HYES : Hid (∀ k (hk : k < (items L[i]).length), isItem item (items L[i])[k] = true → (L.any fun l => (items l).any (isItem item)) = true) := fun k hk e => any_yes (i := i) hlt (any_yes (i := k) hk e)
      have HNX : Hid ((items L[i]).any (isItem item) = false → ((L.take (i + 1)).any fun l => (items l).any (isItem item)) = false) := fun e => any_take_no hlt HN.out e
      have HSM : Hid (∀ o ∈ items L[i], o.length ≤ 4000000000) := fun o ho => Nat.le_trans (items_small ho) hli
      have hil := (items_len_le L[i]).1
      generalize L[i] = l at *
      have hi63 : (items l).length ≤ 9223372036854775807 := by omega
      have HW : Hid (Below wr.heap.size wr (wr.alloc (.cells (strCells (items l)).toArray 9))) := (Below.refl _ wr).alloc (Nat.le_refl _) _
      have HC : Hid (∀ k (hk : k < (items l).length), (wr.alloc (.cells (strCells (items l)).toArray 9)).cell? ⟨wr.heap.size, k, none⟩ = some (.string ⟨(items l)[k].toArray⟩)) := fun k hk => by
        rw [cell_of_row _ _ _ _ _ _ (heap_alloc_new wr _)]
        simp [strCells, hk]
      have HLT : Hid (wr.heap.size < (wr.alloc (.cells (strCells (items l)).toArray 9)).heap.size) := (by show _ < _; simp)
      clear hil hli
      generalize items l = it at *
      generalize hW : wr.alloc (.cells (strCells it).toArray 9) = W1 at *
      clear hW
      go_wp2_with (first | (go_at_call 155; refine ks.mono ?_; clear ks; rintro e w1 ⟨rfl, rfl⟩) | fail)
      generalize wr = wa at *
      go_loopw [8, 18] (fun _ kv wr => ∃ k : Nat, kv = .int .i64 k ∧ k ≤ it.length ∧ (it.take k).any (isItem item) = false ∧ Below w1.heap.size w1 wr) (fun _ kv _ => it.length - (intOf kv).toNat)
      case atStart => exact ⟨0, rfl, Nat.zero_le _, by simp, Below.refl _ _⟩
      case round =>
        obtain ⟨k, rfl, hk, hno2, hb2⟩ := hrel
        have HN2 : Hid ((it.take k).any (isItem item) = false) := hno2
        have HB2 : Hid (Below w1.heap.size w1 wr) := hb2
        have HB3 : Hid (Below w.heap.size w wr) := (HB.out.trans (HW.out.mono HB.out.size)).trans (hb2.mono (Nat.le_trans HB.out.size HW.out.size))
        clear hno2 hb2
        by_cases hkt : k < it.length
        · have q2 : (k : Int) < (it.length : Int) := by omega
          have c2 : wr.cell? ⟨wa.heap.size, k, none⟩ = some (.string ⟨it[k].toArray⟩) := (HB2.out.cell (p := ⟨wa.heap.size, k, none⟩) HLT.out).trans (HC.out k hkt)
          have hsm := HSM.out it[k] (List.getElem_mem hkt)
          have htl := trim_len it[k]
          have kt := Tryz.trim_any it[k] (by omega)
          have kl := Tryz.smallText_any (trim it[k]) (by omega)
          cases hp : isItem item it[k] with
          | true =>
            have HY : Hid ((L.any fun l => (items l).any (isItem item)) = true) := HYES.out k hkt hp
            have e2 : ((trim it[k]).map sm == item) = true := hp
            clear hp htl hsm
            go_wp2_with (first
              | (go_at_call 85; refine (kt _).mono ?_; clear kt; rintro e w2 ⟨rfl, hb4⟩)
              | (go_at_call 52; refine (kl _).mono ?_; clear kl; rintro e w3 ⟨rfl, hb5⟩)
              | fail)
            go_ret
            exact ⟨by rw [HY.out]; rfl, (HB3.out.trans (hb4.mono HB3.out.size)).trans (hb5.mono (Nat.le_trans HB3.out.size hb4.size))⟩
          | false =>
            have HNX2 : Hid ((it.take (k + 1)).any (isItem item) = false) := any_take_no hkt HN2.out hp
            have e2 : ((trim it[k]).map sm == item) = false := hp
            clear hp htl hsm
            go_wp2_with (first
              | (go_at_call 85; refine (kt _).mono ?_; clear kt; rintro e w2 ⟨rfl, hb4⟩)
              | (go_at_call 52; refine (kl _).mono ?_; clear kl; rintro e w3 ⟨rfl, hb5⟩)
              | fail)
            go_roundw
            case rel => exact ⟨k + 1, by simp, by omega, HNX2.out, (HB2.out.trans (hb4.mono HB2.out.size)).trans (hb5.mono (Nat.le_trans HB2.out.size hb4.size))⟩
            case measure => simp [intOf]; omega
        · have q2 : ¬ (k : Int) < (it.length : Int) := by omega
          have HZ : Hid (((L.take (i + 1)).any fun l => (items l).any (isItem item)) = false) := HNX.out (by have := HN2.out; rw [List.take_of_length_le (by omega)] at this; exact this)
          go_wp2
          go_roundw
          case rel => exact ⟨i + 1, by simp, by omega, HZ.out, HB3.out⟩
          case measure => simp [intOf]; omega
    · have q : ¬ (i : Int) < (L.length : Int) := by omega
      have HE : Hid ((L.any fun l => (items l).any (isItem item)) = false) := (by have := HN.out; rw [List.take_of_length_le (by omega)] at this; exact this)
      go_wp2
      go_ret
      exact ⟨by rw [HE.out]; rfl, HB.out⟩
theorem Wb.vals_mem {m : Msg} {nm x : List UInt8} (h : x ∈ vals m nm) : ∃ k, (k, x) ∈ m.headers := by
  unfold vals at h
  obtain ⟨p, hp, rfl⟩ := List.mem_map.1 h
  exact ⟨p.1, (List.mem_filter.1 hp).1⟩
theorem Wb.vals_len (m : Msg) (nm : List UInt8) : (vals m nm).length ≤ m.headers.length := by
  unfold vals
  rw [List.length_map]
  exact List.length_filter_le _ _
set_option maxRecDepth 20000 in
set_option maxHeartbeats 1000000 in
theorem Tryz.isLast_any {T : TypeId} {w : World} {own : Nat → Prop} {b : Nat} {m : Msg} (h : Tryz.Ms T w own b m) (hh : m.headers.length ≤ 4398046511000) (hs : ∀ p ∈ m.headers, p.2.length ≤ 4000000000) :
    Calls Tryz.prog 144 #[.pointer (some ⟨b, 0, none⟩)] w fun e w' => e = .returned (.bool (Wb.isLast m)) ∧ Below w.heap.size w w' := by
  have kv := Tryz.values_any h wConn hh
  have hvl := Wb.vals_len m wConn
  have hvs : ∀ x ∈ vals m wConn, x.length ≤ 4000000000 := fun x hx => by obtain ⟨k, hk⟩ := Wb.vals_mem hx; exact hs _ hk
  have kI : ∀ (W : World) (V : Value) (item : List UInt8), Ss W V (vals m wConn) → Calls Tryz.prog 151 #[V, .string ⟨item.toArray⟩] W fun e w' => e = .returned (.bool (Wb.hasItem (vals m wConn) item)) ∧ Below W.heap.size W w' := fun W V item hS => Tryz.hasItem_any hS (by omega) hvs item
  have c10 : ∀ W, Below w.heap.size w W → W.cell? ⟨b, 10, none⟩ = some (.bool m.newer) := fun W hb => by
    obtain ⟨aw, cw, ah, ch, ab, cb, hmw⟩ := h.ex
    rw [hb.cell (p := ⟨b, 10, none⟩) (hmw.lt b hmw.ob), cell_of_row _ _ 10 _ _ _ hmw.blk]
    rfl
  clear h hh hs hvl hvs
  cases hn : m.newer with
  | true =>
    have e1 : Wb.isLast m = Wb.hasItem (vals m wConn) wClose := by unfold Wb.isLast; rw [if_pos hn]
    rw [e1]
    rw [hn] at c10
    clear e1 hn
    go_enter Tryz.func144, Tryz.ntmps144
    go_wp2_with (first
      | (go_at_call 148; refine kv.mono ?_; clear kv; rintro e w1 ⟨ad, cap, rfl, hr1, hb1⟩; have d10 := c10 w1 hb1; have k1 := kI w1 _ wClose (Ss.ofRow hr1))
      | (go_at_call 151; refine k1.mono ?_; clear k1; rintro e w2 ⟨rfl, hb2⟩)
      | fail)
    go_ret
    exact ⟨rfl, hb1.trans (hb2.mono hb1.size)⟩
  | false =>
    have e1 : Wb.isLast m = (!Wb.hasItem (vals m wConn) wKeep || Wb.hasItem (vals m wConn) wClose) := by unfold Wb.isLast; rw [if_neg (by rw [hn]; exact Bool.false_ne_true)]
    rw [e1]
    rw [hn] at c10
    clear e1 hn
    cases hk : Wb.hasItem (vals m wConn) wKeep with
    | true =>
      rw [Bool.not_true, Bool.false_or]
      go_enter Tryz.func144, Tryz.ntmps144
      go_wp2_with (first
        | (go_at_call 148; refine kv.mono ?_; clear kv; rintro e w1 ⟨ad, cap, rfl, hr1, hb1⟩; have d10 := c10 w1 hb1; have hS := Ss.ofRow hr1; have k1 := kI w1 _ wKeep hS; rw [hk] at k1)
        | (go_at_call 151; refine k1.mono ?_; clear k1; rintro e w2 ⟨rfl, hb2⟩; have k2 := kI w2 _ wClose (hS.below hb2))
        | (go_at_call 151; refine k2.mono ?_; clear k2; rintro e w3 ⟨rfl, hb3⟩)
        | fail)
      go_ret
      exact ⟨rfl, (hb1.trans (hb2.mono hb1.size)).trans (hb3.mono (Nat.le_trans hb1.size hb2.size))⟩
    | false =>
      rw [Bool.not_false, Bool.true_or]
      go_enter Tryz.func144, Tryz.ntmps144
      go_wp2_with (first
        | (go_at_call 148; refine kv.mono ?_; clear kv; rintro e w1 ⟨ad, cap, rfl, hr1, hb1⟩; have d10 := c10 w1 hb1; have hS := Ss.ofRow hr1; have k1 := kI w1 _ wKeep hS; rw [hk] at k1)
        | (go_at_call 151; refine k1.mono ?_; clear k1; rintro e w2 ⟨rfl, hb2⟩)
        | fail)
      go_ret
      exact ⟨rfl, hb1.trans (hb2.mono hb1.size)⟩
end Go.Proofs
