/-
  looks; bytes that are lent.
-/
import Derived.Test.YtnfpocpeglfdbaaDyK
import Derived.Deep.QuietTactic
namespace Go.Proofs
open Go.RowKit Go.Wi
set_option maxRecDepth 4000 in
set_option maxHeartbeats 4000000 in
theorem Try.looksW_any {w : World} {own : Nat → Prop} {wb : Nat} {lv kv : Value} {hs : List Dk.Hd} (h : Try.Hs w own kv hs) (hb : w.heap[wb]? = some (.cells #[lv, kv] 28 (0, 0))) (hl : hs.length ≤ 1000000000) (hn : ∀ x ∈ hs, x.n ≤ 1000000000 ∧ x.m ≤ 1000000000) :
    Calls Try.prog 6 #[.pointer (some ⟨wb, 0, none⟩)] w fun e w' => e = .returned (.bool true) ∧ Below w.heap.size w w' := by
  have hv : ∃ ad cap, kv = .slice ad hs.length cap ∧ ∀ j (hj : j < hs.length), ∃ g, ad = some ⟨g, 0, .none⟩ ∧ g < w.heap.size ∧ w.cell? ⟨g, j * 2, .none⟩ = some hs[j].v ∧ w.cell? ⟨g, j * 2 + 1, .none⟩ = some (.int .i64 (hs[j].m : Nat)) := by
    have hr := h.row
    rcases hr.2 with ⟨e, e0⟩ | ⟨g, cap, cur, e, -, hh, -⟩
    · exact ⟨.none, 0, by rw [e0]; exact e, fun j hj => by omega⟩
    · refine ⟨_, cap, e, fun j hj => ⟨g, rfl, Dk.block_lt hh, ?_⟩⟩
      subst e
      have h1 := Dk.hcs_at hs j hs[j] (by simp [hj])
      have c1 := hr.cells (g := g) rfl _ _ h1.1
      have c2 := hr.cells (g := g) rfl _ _ h1.2
      rw [Addr.add_mid] at c1 c2
      simp only [Nat.zero_add] at c1 c2
      rw [Nat.mul_comm] at c1 c2
      exact ⟨c1, c2⟩
  obtain ⟨ad, cap, rfl, hcs⟩ := hv
  have Hcs : Hid (∀ j (hj : j < hs.length), ∃ g, ad = some ⟨g, 0, .none⟩ ∧ g < w.heap.size ∧ w.cell? ⟨g, j * 2, .none⟩ = some hs[j].v ∧ w.cell? ⟨g, j * 2 + 1, .none⟩ = some (.int .i64 (hs[j].m : Nat))) := hcs
  have Hea : Hid (∀ x ∈ hs, Bs w x.v (Dk.sgs x.m x.n) ∧ ∀ k, x.v.ownBlock = some k → k < w.heap.size) := fun x hx => ⟨(h.each x hx).1, fun k e => h.lt k ((h.each x hx).2 k e).1⟩
  have Hn : Hid (∀ x ∈ hs, x.n ≤ 1000000000 ∧ x.m ≤ 1000000000) := hn
  have Hb : Hid (w.heap[wb]? = some (.cells #[lv, .slice ad hs.length cap] 28 (0, 0))) := hb
  clear h hn hb hcs
  go_enter Try.func6, Try.ntmps6
  go_upto_region 2 with fail
  go_loopw [3, 4, 5] (fun i _ _ wr => ∃ k : Nat, k ≤ hs.length ∧ i = .int .i64 k ∧ Below w.heap.size w wr) (fun i _ _ _ => hs.length - (intOf i).toNat)
  case atStart => exact ⟨0, Nat.zero_le _, rfl, Below.refl _ _⟩
  case round =>
    obtain ⟨k, hk, rfl, hbel⟩ := hrel
    have b1 : wr.cell? ⟨wb, 1, none⟩ = some (.slice ad hs.length cap) := cell_of_row wr wb 1 _ _ _ ((hbel.block wb (Dk.block_lt Hb.out)).trans Hb.out)
    by_cases hkq : k < hs.length
    · have q0 : (k : Int) < (hs.length : Int) := by omega
      obtain ⟨g, rfl, hg, c1, c2⟩ := Hcs.out k hkq
      have hB := (Hea.out hs[k] (List.getElem_mem hkq))
      have hnn := Hn.out hs[k] (List.getElem_mem hkq)
      generalize hs[k] = x at *
      obtain ⟨xa, xc, hxv, hxc, -, hxs⟩ := hB.1.ex
      rw [Dk.sgs_len] at hxv hxc
      rw [hxv] at c1
      have hcell : ∀ j, j < x.n → ∃ sb so, xa = some ⟨sb, so, .none⟩ ∧ sb < w.heap.size ∧ w.cell? ⟨sb, so + j, .none⟩ = some (.int .u8 ((Dk.sg x.m j).toNat : Nat)) := fun j hj => by
        rcases hxs with e | ⟨sb, so, e, hsb, h2⟩
        · have := congrArg List.length e
          rw [Dk.sgs_len] at this
          simp at this; omega
        · refine ⟨sb, so, e, hsb, h2 j _ ?_⟩
          simp only [Lib.byteCells, List.getElem?_map]
          rw [Dk.sgs_at hj]
          rfl
      have d1 := (hbel.cell (p := ⟨g, k * 2, none⟩) hg).trans c1
      have d2 := (hbel.cell (p := ⟨g, k * 2 + 1, none⟩) hg).trans c2
      have hsg := fun (j : Nat) (hj : j ≤ 1000000000) (W : World) => Try.sign_any x.m j hnn.2 hj W
      have Hcell : Hid (∀ j, j < x.n → ∃ sb so, xa = some ⟨sb, so, .none⟩ ∧ sb < w.heap.size ∧ w.cell? ⟨sb, so + j, .none⟩ = some (.int .u8 ((Dk.sg x.m j).toNat : Nat))) := hcell
      have Hnn : Hid (x.n ≤ 1000000000 ∧ x.m ≤ 1000000000) := hnn
      have hbel0 : Hid (Below w.heap.size w wr) := hbel
      clear hxs hB hxv c1 c2 hg hcell hnn hbel
      generalize x.m = xm at *
      generalize x.n = xn at *
      have hxn : xn ≤ 1000000000 := Hnn.out.1
      go_upto_region 5 with fail
      generalize hW1 : wr.alloc _ = W1
      have hb1 : Below wr.heap.size wr W1 := by rw [← hW1]; exact (Below.refl _ wr).alloc (Nat.le_refl _) _
      have hv1 : W1.heap[wr.heap.size]? = some (.cells #[.slice xa xn xc, .int .i64 (xm : Nat)] 57 (0, 0)) := by rw [← hW1]; exact heap_alloc_new wr _
      have Hbel1 : Hid (Below w.heap.size w W1) := hbel0.out.trans (hb1.mono hbel0.out.size)
      obtain ⟨vb, hvb⟩ : ∃ vb, vb = wr.heap.size := ⟨_, rfl⟩
      rw [← hvb] at hv1 ⊢
      have Hvb : Hid (w.heap.size ≤ vb) := by show _ ≤ _; rw [hvb]; exact hbel0.out.size
      have Hv1 : Hid (W1.heap[vb]? = some (.cells #[.slice xa xn xc, .int .i64 (xm : Nat)] 57 (0, 0))) := hv1
      clear hW1 hb1 hv1 hvb d1 d2 b1
      go_upto_region 6 with fail
      go_loopw [5] (fun i wx => ∃ j : Nat, j ≤ xn ∧ i = .int .i64 j ∧ Below W1.heap.size W1 wx) (fun i _ => xn - (intOf i).toNat)
      case atStart => exact ⟨0, Nat.zero_le _, rfl, Below.refl _ _⟩
      case round =>
        obtain ⟨j, hj, rfl, hbx⟩ := hrel
        have hbv := hbx.block vb (Dk.block_lt Hv1.out)
        have v0 : wr.cell? ⟨vb, 0, none⟩ = some (.slice xa xn xc) := cell_of_row wr vb 0 _ _ _ (hbv.trans Hv1.out)
        have v1 : wr.cell? ⟨vb, 1, none⟩ = some (.int .i64 (xm : Nat)) := cell_of_row wr vb 1 _ _ _ (hbv.trans Hv1.out)
        have Hbx : Hid (Below W1.heap.size W1 wr) := hbx
        clear hbv hbx
        by_cases hjn : j < xn
        · have q1 : (j : Int) < (xn : Int) := by omega
          obtain ⟨sb, so, rfl, hsb, s0⟩ := Hcell.out j hjn
          have s1 : wr.cell? ⟨sb, so + j, none⟩ = some (.int .u8 ((Dk.sg xm j).toNat : Nat)) := (Hbx.out.cell (p := ⟨sb, so + j, none⟩) (Nat.lt_of_lt_of_le hsb Hbel1.out.size)).trans ((Hbel1.out.cell (p := ⟨sb, so + j, none⟩) hsb).trans s0)
          have hs1 := fun W => hsg j (by have := Hnn.out; omega) W
          clear s0 hsb
          go_wp2
          go_quiet (first | (go_at_call 24; exact Calls.quiet_of_same (hs1 _)) | fail)
          go_wp2
          go_roundw
          case rel => exact ⟨j + 1, by omega, by go_num, belowN Hbx.out _⟩
          case measure => simp [intOf]; omega
        · have q1 : ¬ (j : Int) < (xn : Int) := by omega
          go_wp2
          go_roundw
          case rel => exact ⟨k + 1, by omega, by go_num, Hbel1.out.trans (Hbx.out.mono Hbel1.out.size)⟩
          case measure => simp [intOf]; omega
    · have q0 : ¬ (k : Int) < (hs.length : Int) := by omega
      go_wp2
      go_ret
      exact ⟨rfl, hbel⟩
end Go.Proofs
