/-
  What Open gave, as it lies in memory: bytes in one block, slices of it in another one; raw. Rows of bytes that grow, whosever they are; owned. owned.
-/
import Derived.Test.YtdlhonoppnfmpaaKro
import Derived.ArgAppend
namespace Go.Dk
/-- Where the i-th record's bytes begin. -/
def off (p : Nat) (recs : List (List UInt8)) (i : Nat) : Nat := Go.Proofs.Dk.recEnd p (recs.take i) + 7
theorem recCs_get (g : Nat) : ∀ (recs : List (List UInt8)) (p i : Nat) (d : List UInt8), recs[i]? = some d → (Go.Proofs.Dk.recCs g p recs)[i]? = some (.slice (some ⟨g, off p recs i, none⟩) d.length d.length)
  | [], _, i, d, h => by simp at h
  | e :: r, p, 0, d, h => by simp at h; subst h; rfl
  | e :: r, p, i + 1, d, h => by
    simp at h
    have := recCs_get g r (p + 7 + e.length) i d h
    simpa [Go.Proofs.Dk.recCs, off, Go.Proofs.Dk.recEnd] using this
/-- The bytes are the snapshot's and the records'. -/
structure Says (R snap : List UInt8) (recs : List (List UInt8)) : Prop where
  sn : R.take snap.length = snap
  rc : ∀ (i : Nat) (d : List UInt8), recs[i]? = some d → (R.drop (off snap.length recs i)).take d.length = d
/-- All bytes of them are m. -/
structure Paint (R : List UInt8) (p : Nat) (recs : List (List UInt8)) (m : UInt8) : Prop where
  sn : ∀ j, j < p → R[j]? = some m
  rc : ∀ (i : Nat) (d : List UInt8), recs[i]? = some d → ∀ j, j < d.length → R[off p recs i + j]? = some m
theorem set_paint {R : List UInt8} {m : UInt8} {q j : Nat} (h : R[j]? = some m) : (R.set q m)[j]? = some m := by
  rw [List.getElem?_set]
  split
  · next e => subst e; rw [if_pos (List.getElem?_eq_some_iff.1 h).1]
  · exact h
theorem set_here {R : List UInt8} {m : UInt8} {q : Nat} (h : q < R.length) : (R.set q m)[q]? = some m := by simp [h]
end Go.Dk
namespace Go.Proofs
open Go.RowKit Go.Dk
/-- What Open gave, in the blocks from lo to hi. -/
structure Try.Gc (w : World) (lo hi b : Nat) (R : List UInt8) (p : Nat) (recs : List (List UInt8)) (ad : Option Addr) : Prop where
  blk : w.heap[b]? = some (.cells (Lib.byteCells R).toArray 5 (0, 0))
  b0 : lo ≤ b
  b1 : b < hi
  cs : ∀ (i : Nat) (d : List UInt8), recs[i]? = some d → ∃ k, ad = some ⟨k, 0, none⟩ ∧ lo ≤ k ∧ k < hi ∧ k ≠ b ∧ w.cell? ⟨k, i, none⟩ = some (.slice (some ⟨b, off p recs i, none⟩) d.length d.length)
  fit : ∀ (i : Nat) (d : List UInt8), recs[i]? = some d → off p recs i + d.length ≤ R.length
  p1 : p ≤ R.length
  sm : R.length < 1000000
  few : recs.length < 1000000
theorem Try.Gc.keep {w w' : World} {lo hi b p : Nat} {R : List UInt8} {recs : List (List UInt8)} {ad : Option Addr} (h : Try.Gc w lo hi b R p recs ad) (hk : ∀ k, lo ≤ k → k < hi → w'.heap[k]? = w.heap[k]?) : Try.Gc w' lo hi b R p recs ad :=
  ⟨(hk b h.b0 h.b1).trans h.blk, h.b0, h.b1, fun i d e => by
    obtain ⟨k, h1, h2, h3, h4, h5⟩ := h.cs i d e
    exact ⟨k, h1, h2, h3, h4, (World.cell?_of_block (a := ⟨k, i, none⟩) (hk k h2 h3)).trans h5⟩, h.fit, h.p1, h.sm, h.few⟩
theorem Try.Gc.below {w w' : World} {B lo hi b p : Nat} {R : List UInt8} {recs : List (List UInt8)} {ad : Option Addr} (h : Try.Gc w lo hi b R p recs ad) (hb : Below B w w') (hB : hi ≤ B) : Try.Gc w' lo hi b R p recs ad :=
  h.keep fun k _ hk => hb.block k (by omega)
theorem Try.Gc.wo {w w' : World} {own : Nat → Prop} {lo hi b p : Nat} {R : List UInt8} {recs : List (List UInt8)} {ad : Option Addr} (h : Try.Gc w lo hi b R p recs ad) (hw : Dk.Wo own w w') (hs : hi ≤ w.heap.size) (ho : ∀ k, own k → k < lo ∨ hi ≤ k) : Try.Gc w' lo hi b R p recs ad :=
  h.keep fun k h1 h2 => hw.block k (by omega) fun e => by rcases ho k e with h | h <;> omega
theorem Try.raw_any {w : World} {own : Nat → Prop} {x : Nat} {s : DS} {q g a : Nat} {snap : List UInt8} {recs : List (List UInt8)} (h : Try.Dsk w own x s) (ho : Holds s g a snap recs) (hc : s.Can q) :
    Calls Try.prog 5 #[.pointer (some ⟨x, 0, none⟩)] w fun r w' => ∃ b ad cap R, r = .returned (.tuple #[.slice (some ⟨b, 0, none⟩) snap.length snap.length, .slice ad recs.length cap]) ∧ Try.Gc w' w.heap.size w'.heap.size b R snap.length recs ad ∧ Says R snap recs ∧ w'.ownsRow w.heap.size 22 1 (.slice ad recs.length cap) recs.length (Dk.recCs b snap.length recs) ∧ Below w.heap.size w w' := by
  have hop := Try.open_at h ho hc
  have hn4 := ho.n4
  have hfew := ho.few
  clear h ho hc
  go_enter Try.func5, Try.ntmps5
  go_wp2_with (first
    | (go_at_call 14; refine hop.mono ?_; clear hop; rintro e w1 ⟨y, sn, rv, rfl, hG⟩; obtain ⟨b, R, hb0, -, hR, hsn, hRl, hcut, rfl, hrv⟩ := hG.ex; obtain ⟨ad, cap, rfl, -, -, -, hcs⟩ := Dk.row_form hrv; have hblk := hG.bk b R _ _ rfl hRl hR; have HBEL : Hid (Below w.heap.size w w1) := hG.bel; have HCUT : Hid (Go.Dk.cut R snap.length = (recs, (body snap recs).length)) := hcut; have HBLK : Hid (w1.heap[b]? = some (.cells (Lib.byteCells R).toArray 5 (0, 0))) := hblk; have HSN : Hid (R.take snap.length = snap) := hsn; have HRV : Hid (w1.ownsRow w.heap.size 22 1 (.slice ad recs.length cap) recs.length (Dk.recCs b snap.length recs)) := hrv; have HCS : Hid _ := hcs; have HRL : Hid (R.length = 64 * half s.n) := hRl; clear hG hR hsn hRl hcut hrv hcs hblk)
    | fail)
  refine bodyPost_ret (v := .tuple #[.slice (some ⟨b, 0, none⟩) snap.length snap.length, .slice ad recs.length cap]) (by simp [results, Try.results5, go_sem]) rfl ?_
  have hat : ∀ (i : Nat) (d : List UInt8), recs[i]? = some d → (R.drop (off snap.length recs i)).take d.length = d ∧ off snap.length recs i + d.length ≤ R.length := fun i d hd => by
    obtain ⟨o, k1, k2, k3⟩ := Dk.cut_at b recs _ _ HCUT.out i d hd
    rw [recCs_get b recs _ i d hd] at k1
    injection k1 with k1
    injection k1 with k1 _ _
    injection k1 with k1
    injection k1 with _ k1 _
    rw [k1]
    exact ⟨k2, k3⟩
  have hlen : snap.length ≤ R.length := by
    have := congrArg List.length HSN.out
    rw [List.length_take] at this
    omega
  have hRl := HRL.out
  refine ⟨b, ad, cap, R, rfl, ⟨HBLK.out, hb0, Dk.block_lt HBLK.out, fun i d hd => ?_, fun i d hd => (hat i d hd).2, hlen, by rw [hRl]; unfold half; omega, hfew⟩, ⟨HSN.out, fun i d hd => (hat i d hd).1⟩, HRV.out, HBEL.out⟩
  obtain ⟨k, k1, k2, k3, k4⟩ := HCS.out i _ (recCs_get b recs _ i d hd)
  refine ⟨k, k1, k2, k3, fun e => ?_, k4⟩
  subst e
  rw [cell_of_row _ _ _ _ _ _ HBLK.out, List.getElem?_toArray] at k4
  by_cases hj : i < R.length
  · rw [Dk.byteCell hj] at k4
    simp at k4
  · rw [List.getElem?_eq_none (by rw [Dk.byteCells_len]; omega)] at k4
    cases k4
end Go.Proofs
namespace Go.Proofs
open Go.RowKit Go.Dk
/-- A row of bytes that may grow: there is no room behind it, or it is one's own. -/
structure Dk.Gw (w : World) (B : Nat) (v : Value) (l : List UInt8) : Prop where
  ex : ∃ g o cap, v = .slice (some ⟨g, o, none⟩) l.length cap ∧ g < w.heap.size ∧ l.length ≤ cap ∧ (∀ (j : Nat) (u : Value), (Lib.byteCells l)[j]? = some u → w.cell? ⟨g, o + j, none⟩ = some u) ∧ (cap = l.length ∨ (B ≤ g ∧ ∀ j, j < cap → (w.cell? ⟨g, o + j, none⟩).isSome = true ∧ w.frozen? ⟨g, o + j, none⟩ = false))
theorem Dk.Gw.below {w w' : World} {B : Nat} {v : Value} {l : List UInt8} (h : Dk.Gw w B v l) (hb : Below w.heap.size w w') : Dk.Gw w' B v l := by
  obtain ⟨g, o, cap, h1, h2, h3, h4, h5⟩ := h.ex
  have e := hb.block g h2
  exact ⟨g, o, cap, h1, Nat.lt_of_lt_of_le h2 hb.size, h3, fun j u hu => (World.cell?_of_block (a := ⟨g, o + j, none⟩) e).trans (h4 j u hu), h5.imp id fun ⟨k1, k2⟩ => ⟨k1, fun j hj => ⟨by rw [World.cell?_of_block (a := ⟨g, o + j, none⟩) e]; exact (k2 j hj).1, (World.frozen?_of_block (a := ⟨g, o + j, none⟩) e).trans (k2 j hj).2⟩⟩⟩
theorem Dk.gw_cut {w : World} {b o n : Nat} {R : List UInt8} {T : TypeId} (h : w.heap[b]? = some (.cells (Lib.byteCells R).toArray T (0, 0))) (hn : o + n ≤ R.length) (B : Nat) : Dk.Gw w B (.slice (some ⟨b, o, none⟩) n n) ((R.drop o).take n) := by
  have hl : ((R.drop o).take n).length = n := by rw [List.length_take, List.length_drop]; omega
  refine ⟨b, o, n, by rw [hl], Dk.block_lt h, by omega, fun j u hj => ?_, .inl hl.symm⟩
  rw [cell_of_row _ _ _ _ _ _ h, List.getElem?_toArray]
  simp only [Lib.byteCells, List.map_take, List.map_drop, List.getElem?_take, List.getElem?_drop] at hj ⊢
  split at hj
  · exact hj
  · cases hj
theorem Dk.byteCells_snoc (l : List UInt8) (m : UInt8) : Lib.byteCells (l ++ [m]) = Lib.byteCells l ++ [.int .u8 (m.toNat : Nat)] := by simp [Lib.byteCells]
theorem Try.app_gw (ty : TypeId) {w : World} {B : Nat} {v : Value} {l : List UInt8} (h : Dk.Gw w B v l) (hB : B ≤ w.heap.size) (m : UInt8) (z : Int) (hz : z = ((m.toNat : Nat) : Int)) (g0 : Nat) (hnb : w.heap[g0]? = some (.cells #[.int .u8 z] 5 (0, 0))) (hl : l.length < 2000000) :
    ∃ g o cap w1, (Builtin.append_ #[22, 22] ty #[v, .slice (some ⟨g0, 0, none⟩) 1 1]).run Try.prog w = .ok (.slice (some ⟨g, o, none⟩) (l.length + 1) cap) w1 ∧ Dk.Gw w1 B (.slice (some ⟨g, o, none⟩) (l.length + 1) cap) (l ++ [m]) ∧ Below B w w1 := by
  subst hz
  obtain ⟨i0, hi0, hz0, hz1, hz2⟩ := info_parts Try.info_u8
  obtain ⟨g, o, cap, rfl, h2, h3, h4, h5⟩ := h.ex
  have hnews : ∀ (j : Nat) u, [(Value.int .u8 ((m.toNat : Nat) : Int))][j]? = some u → w.cell? ((⟨g0, 0, none⟩ : Addr).add j) = some u := World.news_of_block (cs := #[.int .u8 ((m.toNat : Nat) : Int)]) hnb
  have hbl := Dk.byteCells_len l
  by_cases hr : l.length + 1 ≤ cap
  · obtain ⟨k1, k2⟩ : B ≤ g ∧ ∀ j, j < cap → (w.cell? ⟨g, o + j, none⟩).isSome = true ∧ w.frozen? ⟨g, o + j, none⟩ = false := by
      rcases h5 with e | e
      · omega
      · exact e
    have hsp : ∀ j, j < 1 → (w.cell? ⟨g, o + l.length * i0.size + j, none⟩).isSome = true ∧ w.frozen? ⟨g, o + l.length * i0.size + j, none⟩ = false := fun j hj => by
      rw [hz1, show o + l.length * 1 + j = o + l.length by omega]
      exact k2 _ (by omega)
    have hrun := run_append_room_cells (P := Try.prog) w 22 ty 5 i0 Try.underlying22 hi0 g o l.length cap ⟨g0, 0, none⟩ 1 1 [.int .u8 ((m.toNat : Nat) : Int)] (by rw [hz1]; rfl) hnews (by simp [Value.oneCell']) hr (fun j hj => (hsp j hj).1) (fun j hj => (hsp j hj).2)
    rw [hz1, Nat.mul_one] at hrun
    have hset : w.setCells g (o + l.length) [.int .u8 ((m.toNat : Nat) : Int)] = w.setCell ⟨g, o + l.length, none⟩ (.int .u8 ((m.toNat : Nat) : Int)) := rfl
    refine ⟨g, o, cap, _, hrun, ⟨g, o, cap, by simp, ?_, by simpa using hr, fun j u hu => ?_, .inr ⟨k1, fun j hj => ⟨World.isSome_setCells g _ _ w _ (k2 j hj).1, by rw [World.frozen?_setCells]; exact (k2 j hj).2⟩⟩⟩, ?_⟩
    · rw [hset]; simpa using h2
    · rw [Dk.byteCells_snoc] at hu
      by_cases hj : j < l.length
      · rw [World.cell?_setCells_out g _ _ w _ fun _ _ => .inl (show o + j < o + l.length by omega)]
        rw [List.getElem?_append_left (by omega)] at hu
        exact h4 j u hu
      · rw [List.getElem?_append_right (by omega), hbl] at hu
        obtain ⟨hj2, e⟩ := List.getElem?_eq_some_iff.1 hu
        have := World.cell?_setCells_in g [.int .u8 ((m.toNat : Nat) : Int)] (o + l.length) w (fun i hi => by
          have hi' : i = 0 := by simp at hi; omega
          subst hi'
          exact (k2 l.length (by omega)).1) (j - l.length) hj2
        rw [show o + l.length + (j - l.length) = o + j by omega, e] at this
        exact this
    · rw [hset]
      exact (Below.refl B w).setCell (by show B ≤ g; exact k1) _
  · obtain ⟨v', w', hrun, r1, r2⟩ := run_append_arg_grows (P := Try.prog) w 22 ty 5 i0 _ 1 1 Try.underlying22 hi0 hz0 hz1 hz2 rfl (by omega) ⟨g, o, none⟩ l.length cap (Lib.byteCells l) (by omega) (fun j u hj => by rw [Addr.add_mid]; exact h4 j u hj) ⟨g0, 0, none⟩ 1 1 [.int .u8 ((m.toNat : Nat) : Int)] rfl hnews (by omega) (by unfold maxLen; omega) (by omega)
    rcases r1.2 with ⟨_, e⟩ | ⟨g', cap', cur, rfl, hg0, hg, hc1, hc2, hc3, hc4⟩
    · omega
    · have hblt := Dk.block_lt hg
      refine ⟨g', 0, cap', w', hrun, ⟨g', 0, cap', by simp, hblt, by simpa using hc1, fun j u hu => ?_, .inr ⟨by omega, fun j hj => ⟨?_, frozen_of_row _ _ _ _ _ hg⟩⟩⟩, (Below.refl B w).grown r2 hB (fun k e => by cases e)⟩
      · rw [Dk.byteCells_snoc, ← hc4, List.getElem?_take] at hu
        rw [Nat.zero_add, cell_of_row _ _ _ _ _ _ hg, ← Array.getElem?_toList]
        split at hu
        · exact hu
        · cases hu
      · rw [Nat.zero_add, cell_of_row _ _ _ _ _ _ hg, Array.getElem?_eq_getElem (by omega)]; rfl
end Go.Proofs
namespace Go.Proofs
open Go.RowKit Go.Dk
theorem Dk.set_blk {w : World} {b k : Nat} {R : List UInt8} {m : UInt8} {z : Int} {T : TypeId} (hz : z = ((m.toNat : Nat) : Int)) (h : w.heap[b]? = some (.cells (Lib.byteCells R).toArray T (0, 0))) : (w.setCell ⟨b, k, none⟩ (.int .u8 z)).heap[b]? = some (.cells (Lib.byteCells (R.set k m)).toArray T (0, 0)) := by
  subst hz
  rw [heap_setCell_same w _ _ _ _ _ h]
  simp only [Lib.byteCells, List.map_set]
  simp
theorem Dk.blk_cell {w : World} {b k : Nat} {R : List UInt8} {T : TypeId} (h : w.heap[b]? = some (.cells (Lib.byteCells R).toArray T (0, 0))) (hk : k < R.length) : w.cell? ⟨b, k, none⟩ = some (.int .u8 (R[k].toNat : Nat)) := by
  rw [cell_of_row _ _ _ _ _ _ h, List.getElem?_toArray]
  exact Dk.byteCell hk
set_option maxHeartbeats 4000000 in
set_option maxRecDepth 20000 in
theorem Try.owned_any {w : World} {lo hi b p cap : Nat} {R : List UInt8} {recs : List (List UInt8)} {ad : Option Addr} (m : UInt8) (z : Int) (hz : z = ((m.toNat : Nat) : Int)) (h : Try.Gc w lo hi b R p recs ad) (hhi : hi ≤ w.heap.size) :
    Calls Try.prog 7 #[.slice (some ⟨b, 0, none⟩) p p, .slice ad recs.length cap, .int .u8 z] w fun r w' => (∃ v, r = .returned v) ∧ ∃ R', Try.Gc w' lo hi b R' p recs ad ∧ Paint R' p recs m ∧ Dk.Wo (fun k => k = b) w w' := by
  have HG : Hid (Try.Gc w lo hi b R p recs ad) := h
  have HZ : Hid (z = ((m.toNat : Nat) : Int)) := hz
  have hp1 := h.p1
  have hsm := h.sm
  have hfew := h.few
  have hb1 := h.b1
  have HB : Hid (w.heap[b]? = some (.cells (Lib.byteCells R).toArray 5 (0, 0))) := h.blk
  clear h hz
  go_enter Try.func7, Try.ntmps7
  go_wp2
  go_loopw [6] (fun i wr => ∃ (k : Nat) (R1 : List UInt8), i = .int .i64 k ∧ k ≤ p ∧ Hid (R1.length = R.length) ∧ Hid (∀ j, j < k → R1[j]? = some m) ∧ Hid (wr.heap[b]? = some (.cells (Lib.byteCells R1).toArray 5 (0, 0))) ∧ Hid (Dk.Wo (fun k => k = b) w wr)) (fun i _ => p - (intOf i).toNat)
  case atStart => exact ⟨0, R, rfl, by omega, rfl, fun j hj => absurd hj (by omega), HB.out, Dk.Wo.refl _ w⟩
  case round =>
    obtain ⟨k, R1, rfl, hk, HR1, HP, HBK, HW⟩ := hrel
    by_cases hkl : k < p
    · have q0 : (k : Int) < (p : Int) := by omega
      have c := Dk.blk_cell HBK.out (show k < R1.length by have := HR1.out; omega)
      have f : wr.frozen? ⟨b, k, none⟩ = false := frozen_of_row _ _ _ _ _ HBK.out
      go_wp2
      go_roundw
      case rel =>
        refine ⟨k + 1, R1.set k m, by go_num, by omega, ?_, fun j hj => ?_, Dk.set_blk HZ.out HBK.out, HW.out.setCell b k _ (.inl rfl)⟩
        · rw [Hid, List.length_set]; exact HR1.out
        · by_cases e : j = k
          · subst e; exact set_here (by have := HR1.out; omega)
          · exact set_paint (HP.out j (by omega))
      case measure => simp [intOf]; omega
    · have q0 : ¬ (k : Int) < (p : Int) := by omega
      obtain rfl : k = p := by omega
      obtain ⟨W1, hW1⟩ : ∃ W : World, W = wr := ⟨_, rfl⟩
      subst hW1
      go_wp2
      go_loopw [7, 8] (fun gv n ws => ∃ (c : Nat) (l : List UInt8) (g1 o1 c1 : Nat), n = .int .i64 c ∧ c ≤ 24 ∧ gv = .slice (some ⟨g1, o1, none⟩) (k + c) c1 ∧ Hid (l.length = k + c) ∧ Hid (Dk.Gw ws w.heap.size (.slice (some ⟨g1, o1, none⟩) (k + c) c1) l) ∧ Hid (ws.heap[b]? = some (.cells (Lib.byteCells R1).toArray 5 (0, 0))) ∧ Hid (Dk.Wo (fun k => k = b) w ws)) (fun _ n _ => 24 - (intOf n).toNat)
      case atStart => exact ⟨0, _, b, 0, k, rfl, by omega, rfl, (by rw [Hid, List.length_take, List.length_drop]; have := HR1.out; omega), Dk.gw_cut HBK.out (by have := HR1.out; omega) _, HBK.out, HW.out⟩
      case round =>
        clear HBK HW
        obtain ⟨c, l, g1, o1, c1, rfl, hc, rfl, HLL, HGW, HBK, HW⟩ := hrel
        by_cases hcl : c < 24
        · have q1 : (c : Int) < 24 := by omega
          have hws := HW.out.size
          obtain ⟨g2, o2, c2, w2, hap, hg2, hb2⟩ := Try.app_gw 22 (HGW.out.below ((Below.refl _ wr).alloc (Nat.le_refl _) (.cells #[.int .u8 z] 5))) (by simp; omega) m z HZ.out wr.heap.size (heap_alloc_new wr _) (by rw [HLL.out]; omega)
          rw [HLL.out] at hap hg2
          have HG2 : Hid (Dk.Gw w2 w.heap.size (.slice (some ⟨g2, o2, none⟩) (k + c + 1) c2) (l ++ [m])) := hg2
          have HB2 : Hid (w2.heap[b]? = some (.cells (Lib.byteCells R1).toArray 5 (0, 0))) := (hb2.block b (by omega)).trans ((Below.heap_alloc wr _ b (by omega)).trans HBK.out)
          have HW2 : Hid (Dk.Wo (fun k => k = b) w w2) := (HW.out.alloc _).below hb2 (Nat.le_refl _)
          clear hg2 hb2
          go_wp2_with (first
            | (at_builtin; refine Dk.wpList_app rfl _ _ 22 rfl rfl rfl hap ?_)
            | fail)
          go_roundw
          case rel => exact ⟨c + 1, l ++ [m], g2, o2, c2, by go_num, by omega, rfl, (by rw [Hid, List.length_append, HLL.out]; rfl), HG2.out, HB2.out, HW2.out⟩
          case measure => simp [intOf]; omega
        · have q1 : ¬ (c : Int) < 24 := by omega
          obtain ⟨W2, hW2⟩ : ∃ W : World, W = wr := ⟨_, rfl⟩
          subst hW2
          clear HGW HLL
          go_wp2
          go_loopw [9] (fun iv ws => ∃ (i : Nat) (R2 : List UInt8), iv = .int .i64 i ∧ i ≤ recs.length ∧ Hid (R2.length = R.length) ∧ Hid (∀ j, j < k → R2[j]? = some m) ∧ Hid (∀ i' d, i' < i → recs[i']? = some d → ∀ j, j < d.length → R2[off k recs i' + j]? = some m) ∧ Hid (ws.heap[b]? = some (.cells (Lib.byteCells R2).toArray 5 (0, 0))) ∧ Hid (Dk.Wo (fun k => k = b) w ws)) (fun iv _ => recs.length - (intOf iv).toNat)
          case atStart => exact ⟨0, R1, rfl, by omega, HR1.out, HP.out, fun i' d hi' => absurd hi' (by omega), HBK.out, HW.out⟩
          case round =>
            clear HBK HW HP HR1
            obtain ⟨i, R2, rfl, hi, HR2, HP2, HQ2, HBK2, HW2⟩ := hrel
            by_cases hil : i < recs.length
            · have q2 : (i : Int) < (recs.length : Int) := by omega
              obtain ⟨d, hd⟩ : ∃ d, recs[i]? = some d := ⟨_, List.getElem?_eq_getElem hil⟩
              obtain ⟨kb, rfl, hkb0, hkb1, hkb2, hkc⟩ := HG.out.cs i d hd
              have hfit := HG.out.fit i d hd
              obtain ⟨O, hO⟩ : ∃ O, O = off k recs i := ⟨_, rfl⟩
              rw [← hO] at hfit hkc
              have HO : Hid (O = off k recs i) := hO
              have HD : Hid (recs[i]? = some d) := hd
              have HKC : Hid (∀ ws : World, Dk.Wo (fun k => k = b) w ws → ws.cell? ⟨kb, i, none⟩ = some (.slice (some ⟨b, O, none⟩) d.length d.length)) := fun ws hws => (World.cell?_of_block (a := ⟨kb, i, none⟩) (hws.block kb (by omega) hkb2)).trans hkc
              clear hO hd hkc
              obtain ⟨W3, hW3⟩ : ∃ W : World, W = wr := ⟨_, rfl⟩
              subst hW3
              go_wp2
              go_loopw [10] (fun jv ws => ∃ (j : Nat) (R3 : List UInt8), jv = .int .i64 j ∧ j ≤ d.length ∧ Hid (R3.length = R.length) ∧ Hid (∀ q : Nat, R2[q]? = some m → R3[q]? = some m) ∧ Hid (∀ q, q < j → R3[O + q]? = some m) ∧ Hid (ws.heap[b]? = some (.cells (Lib.byteCells R3).toArray 5 (0, 0))) ∧ Hid (Dk.Wo (fun k => k = b) w ws)) (fun jv _ => d.length - (intOf jv).toNat)
              case atStart => exact ⟨0, R2, rfl, by omega, HR2.out, fun _ e => e, fun q hq => absurd hq (by omega), HBK2.out, HW2.out⟩
              case round =>
                clear HBK2 HW2
                obtain ⟨j, R3, rfl, hj, HR3, HM3, HP3, HBK3, HW3⟩ := hrel
                have hkc := HKC.out wr HW3.out
                by_cases hjl : j < d.length
                · have q3 : (j : Int) < (d.length : Int) := by omega
                  have c := Dk.blk_cell HBK3.out (show O + j < R3.length by have := HR3.out; omega)
                  have f : wr.frozen? ⟨b, O + j, none⟩ = false := frozen_of_row _ _ _ _ _ HBK3.out
                  go_wp2
                  go_roundw
                  case rel =>
                    refine ⟨j + 1, R3.set (O + j) m, by go_num, by omega, ?_, fun q e => set_paint (HM3.out q e), fun q hq => ?_, Dk.set_blk HZ.out HBK3.out, HW3.out.setCell b _ _ (.inl rfl)⟩
                    · rw [Hid, List.length_set]; exact HR3.out
                    · by_cases e : q = j
                      · subst e; exact set_here (by have := HR3.out; omega)
                      · exact set_paint (HP3.out q (by omega))
                  case measure => simp [intOf]; omega
                · have q3 : ¬ (j : Int) < (d.length : Int) := by omega
                  obtain rfl : j = d.length := by omega
                  obtain ⟨W4, hW4⟩ : ∃ W : World, W = wr := ⟨_, rfl⟩
                  subst hW4
                  go_wp2
                  go_loopw [11, 12] (fun gv n ws => ∃ (c : Nat) (l : List UInt8) (g1 o1 c1 : Nat), n = .int .i64 c ∧ c ≤ 24 ∧ gv = .slice (some ⟨g1, o1, none⟩) (d.length + c) c1 ∧ Hid (l.length = d.length + c) ∧ Hid (Dk.Gw ws w.heap.size (.slice (some ⟨g1, o1, none⟩) (d.length + c) c1) l) ∧ Hid (ws.heap[b]? = some (.cells (Lib.byteCells R3).toArray 5 (0, 0))) ∧ Hid (Dk.Wo (fun k => k = b) w ws)) (fun _ n _ => 24 - (intOf n).toNat)
                  case atStart => exact ⟨0, _, b, O, d.length, rfl, by omega, rfl, (by rw [Hid, List.length_take, List.length_drop]; have := HR3.out; omega), Dk.gw_cut HBK3.out (by have := HR3.out; omega) _, HBK3.out, HW3.out⟩
                  case round =>
                    clear HBK3 HW3 hkc
                    obtain ⟨c, l, g1, o1, c1, rfl, hc, rfl, HLL, HGW, HBK, HW⟩ := hrel
                    by_cases hcl : c < 24
                    · have q1 : (c : Int) < 24 := by omega
                      have hws := HW.out.size
                      obtain ⟨g2, o2, c2, w2, hap, hg2, hb2⟩ := Try.app_gw 22 (HGW.out.below ((Below.refl _ wr).alloc (Nat.le_refl _) (.cells #[.int .u8 z] 5))) (by simp; omega) m z HZ.out wr.heap.size (heap_alloc_new wr _) (by rw [HLL.out]; omega)
                      rw [HLL.out] at hap hg2
                      have HG2 : Hid (Dk.Gw w2 w.heap.size (.slice (some ⟨g2, o2, none⟩) (d.length + c + 1) c2) (l ++ [m])) := hg2
                      have HB2 : Hid (w2.heap[b]? = some (.cells (Lib.byteCells R3).toArray 5 (0, 0))) := (hb2.block b (by omega)).trans ((Below.heap_alloc wr _ b (by omega)).trans HBK.out)
                      have HW2 : Hid (Dk.Wo (fun k => k = b) w w2) := (HW.out.alloc _).below hb2 (Nat.le_refl _)
                      clear hg2 hb2
                      go_wp2_with (first
                        | (at_builtin; refine Dk.wpList_app rfl _ _ 22 rfl rfl rfl hap ?_)
                        | fail)
                      go_roundw
                      case rel => exact ⟨c + 1, l ++ [m], g2, o2, c2, by go_num, by omega, rfl, (by rw [Hid, List.length_append, HLL.out]; rfl), HG2.out, HB2.out, HW2.out⟩
                      case measure => simp [intOf]; omega
                    · have q1 : ¬ (c : Int) < 24 := by omega
                      clear HGW HLL
                      go_wp2
                      go_roundw
                      case rel =>
                        refine ⟨i + 1, R3, by go_num, by omega, HR3.out, fun j hj => HM3.out j (HP2.out j hj), fun i' d' hi' hd' j hj => ?_, HBK.out, HW.out⟩
                        by_cases e : i' = i
                        · subst e
                          have := HD.out.symm.trans hd'
                          injection this with this
                          subst this
                          rw [← HO.out]
                          exact HP3.out j hj
                        · exact HM3.out _ (HQ2.out i' d' (by omega) hd' j hj)
                      case measure => simp [intOf]; omega
            · have q2 : ¬ (i : Int) < (recs.length : Int) := by omega
              go_wp2
              refine bodyPost_end (results_none rfl _ _ _) rfl ?_
              refine ⟨⟨_, rfl⟩, R2, ⟨HBK2.out, HG.out.b0, HG.out.b1, fun i d hd => ?_, fun i d hd => by rw [HR2.out]; exact HG.out.fit i d hd, by rw [HR2.out]; exact hp1, by rw [HR2.out]; exact hsm, hfew⟩, ⟨HP2.out, fun i' d hd j hj => HQ2.out i' d (by have := (List.getElem?_eq_some_iff.1 hd).1; omega) hd j hj⟩, HW2.out⟩
              obtain ⟨kb, k1, k2, k3, k4, k5⟩ := HG.out.cs i d hd
              exact ⟨kb, k1, k2, k3, k4, (World.cell?_of_block (a := ⟨kb, i, none⟩) (HW2.out.block kb (by omega) k4)).trans k5⟩
end Go.Proofs
