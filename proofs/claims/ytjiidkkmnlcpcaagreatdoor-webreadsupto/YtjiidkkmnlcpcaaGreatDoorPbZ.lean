/-
  Laid together by packg.py of Zi Zc.
-/
import Derived.Test.YtjiidkkmnlcpcaaGreatDoorPaV
import Derived.Test.YtjiidkkmnlcpcaaGreatDoorPaZ
import Derived.Deep.SlicePairs
import Derived.OpenShut
import Derived.SizedLaws
import Derived.Carry
namespace Go.Proofs
open Go.RowKit Go.ChangeShapes Go.WideShapes Go.Deep
/-- Numbers that lie somewhere. -/
structure Qu.Iv (w : World) (v : Value) (l : List Int) : Prop where
  ex : ∃ a cap, v = .slice a l.length cap ∧ (l = [] ∨ ∃ g o, a = some ⟨g, o, none⟩ ∧ g < w.heap.size ∧ ∀ j (hj : j < l.length), w.cell? ⟨g, o + j, none⟩ = some (.int .i64 l[j]))
  ib : ∀ n ∈ l, -9223372036854775808 ≤ n ∧ n ≤ 9223372036854775807
  cp : ∀ a n c, v = .slice a n c → n ≤ c
theorem Qu.Iv.keep {W W' : World} {v : Value} {l : List Int} (h : Qu.Iv W v l) (hb : Below W.heap.size W W') : Qu.Iv W' v l := by
  obtain ⟨⟨a, c, h1, h2⟩, h3, h5⟩ := h
  refine ⟨⟨a, c, h1, ?_⟩, h3, h5⟩
  rcases h2 with h2 | ⟨g, o, e, hg, h4⟩
  · exact .inl h2
  · exact .inr ⟨g, o, e, Nat.lt_of_lt_of_le hg hb.size, fun j hj => (hb.cell (p := ⟨g, o + j, none⟩) hg).trans (h4 j hj)⟩
theorem Tryz.laidOut : laidOutB Tryz.prog = true := by kernel_rfl
theorem Tryz.cellsInt : Tryz.prog.cellsOf 3 = 1 := by kernel_rfl
theorem Tryz.bytesInt : Tryz.prog.bytesOf 3 = 8 := by kernel_rfl
theorem Tryz.open_ints {H : Type} {enc : TypeId × Value → H} {W : World} {a0 : Option Addr} {len cap fuel : Nat} {x : DataW H × List MemPlace}
    (hf : DataW.trod enc Tryz.prog W 0 (fun _ => true) true fuel 36 [.slice a0 len cap] = some x) : ∃ l : List Int, Qu.Iv W (.slice a0 len cap) l ∧ (l.length = 0 ∨ ∃ el sp, x.1 = .slice el sp ∧ el.length = l.length) := by
  rcases open_slice Tryz.underlying36 hf with ⟨hcs, -⟩ | ⟨a, len', cap', m, n, D, Pl, hcs, _, hl, hm, hmm, hxx, hx⟩
  · simp at hcs
    obtain ⟨rfl, rfl, rfl⟩ := hcs
    exact ⟨[], ⟨⟨none, 0, rfl, .inl rfl⟩, (fun n hn => by simp at hn), fun a n c e => by cases e; exact Nat.le_refl _⟩, .inl rfl⟩
  · simp at hcs
    obtain ⟨rfl, rfl, rfl⟩ := hcs
    have hm' : m = cap := by simpa using hmm
    subst hm'
    obtain ⟨b, off, spot⟩ := a
    have each : ∀ i, i < m → ∃ c : Int, W.cell? ((⟨b, off, spot⟩ : Addr).add i) = some (.int .i64 c) ∧ -9223372036854775808 ≤ c ∧ c ≤ 9223372036854775807 := by
      intro i hi
      obtain ⟨cs', h1, h2⟩ := hx i hi
      rw [Tryz.cellsInt, Nat.mul_one] at h1
      obtain ⟨_, hlen, hcell⟩ := World.cells?_some h1
      obtain ⟨n0, e0, -, b0⟩ := DataW.trod_int Tryz.underlying3 h2
      have d0 := hcell 0 (by omega)
      rw [add_add] at d0
      subst e0
      exact ⟨n0, by simpa using d0, bounds_i64 b0⟩
    obtain ⟨q, hq⟩ := choose_lt each
    have hll : ((List.range len).map q).length = len := by simp
    refine ⟨(List.range len).map q, ⟨⟨some ⟨b, off, spot⟩, m, by rw [hll], ?_⟩, fun n hn => ?_, fun a n c e => by cases e; exact hl⟩, .inr ⟨_, _, by rw [hxx], by rw [hll]; simp⟩⟩
    · by_cases h0 : len = 0
      · subst h0; exact .inl rfl
      · have hc0 := (hq 0 (by omega)).1
        have hspot : spot = none := by simpa [Addr.add] using World.cell?_spot hc0
        subst hspot
        refine .inr ⟨b, off, rfl, World.block_lt_of_cell? _ _ (by simpa [Addr.add] using hc0), fun j hj => ?_⟩
        rw [hll] at hj
        have h1 := (hq j (by omega)).1
        rw [Addr.add_mid] at h1
        rw [h1]
        simp
    · obtain ⟨i, hi, rfl⟩ := List.mem_map.1 hn
      exact (hq i (by have := List.mem_range.1 hi; omega)).2
theorem Tryz.sized_ints {H : Type} {ts : List TypeId} {ds : List (DataW H)} (hsz : (DataW.weightsEach Tryz.prog ts ds).all (· ≤ reachBytes) = true) {j : Nat} {l : List Int} {d : DataW H} (ht : ts[j]? = some 36) (hd : ds[j]? = some d) (h : l.length = 0 ∨ ∃ el sp, d = .slice el sp ∧ el.length = l.length) : l.length ≤ 140737488351232 := by
  rcases h with e | ⟨el, sp, e1, e2⟩
  · omega
  · have := sized_slice hsz (j := j) (t := 36) (elems := el) (spare := sp) ht (by rw [hd, e1]) Tryz.underlying36
    rw [Tryz.bytesInt, e2] at this
    have hr : reachBytes = 140737488351232 := by decide
    omega
/-- The first of them. -/
theorem Qu.Iv.first {w : World} {a : Option Addr} {n c : Nat} {l : List Int} (h : Qu.Iv w (.slice a n c) l) {m : Nat} (hm : m ≤ l.length) : Qu.Iv w (.slice a m c) (l.take m) := by
  obtain ⟨⟨a', c', e, h2⟩, h3, h5⟩ := h
  injection e with e1 e2 e3
  subst e1 e2 e3
  have hc := h5 a l.length c rfl
  have hl : (l.take m).length = m := by rw [List.length_take]; omega
  refine ⟨⟨a, c, by rw [hl], ?_⟩, fun n hn => h3 n (List.mem_of_mem_take hn), fun a' n' c' e => by cases e; omega⟩
  rcases h2 with rfl | ⟨g, o, e, hg, h4⟩
  · exact .inl (by simp)
  · refine .inr ⟨g, o, e, hg, fun j hj => ?_⟩
    rw [h4 j (by omega)]
    simp
end Go.Proofs
namespace Go.Wb
/-- A text, cut at raw places. -/
def piecesL : List UInt8 → List Int → List (List UInt8)
  | s, [] => [s]
  | s, c :: r => if s = [] then [s] else s.take (pickN c (s.length + 1)) :: piecesL (s.drop (pickN c (s.length + 1))) r
theorem pieces_flat (s : List UInt8) (cs : List Int) : (piecesL s cs).flatten = s := by
  induction cs generalizing s with
  | nil => simp [piecesL]
  | cons c r ih =>
    unfold piecesL
    split
    · simp
    · rw [List.flatten_cons, ih, List.take_append_drop]
theorem pieces_len (s : List UInt8) (cs : List Int) : (piecesL s cs).length ≤ cs.length + 1 := by
  induction cs generalizing s with
  | nil => simp [piecesL]
  | cons c r ih =>
    unfold piecesL
    split
    · simp
    · rw [List.length_cons, List.length_cons]; exact Nat.succ_le_succ (ih _)
theorem pieces_nil (cs : List Int) : piecesL [] cs = [[]] := by cases cs <;> simp [piecesL]
theorem pieces_next {s : List UInt8} (hs : s ≠ []) {cs : List Int} {i : Nat} (hi : i < cs.length) : piecesL s (cs.drop i) = s.take (pickN cs[i] (s.length + 1)) :: piecesL (s.drop (pickN cs[i] (s.length + 1))) (cs.drop (i + 1)) := by
  rw [List.drop_eq_getElem_cons hi]
  conv => lhs; unfold piecesL
  rw [if_neg hs]
theorem ext_take (r : List UInt8) (m : Nat) : (⟨r.toArray⟩ : ByteArray).extract 0 m = ⟨(r.take m).toArray⟩ := by
  apply ByteArray.ext
  simp [ByteArray.data_extract]
theorem ext_drop (r : List UInt8) (m : Nat) : (⟨r.toArray⟩ : ByteArray).extract m r.length = ⟨(r.drop m).toArray⟩ := by
  apply ByteArray.ext
  simp [ByteArray.data_extract, List.take_of_length_le]
end Go.Wb
namespace Go.Proofs
open Go.RowKit Go.Wi Go.Wb
set_option maxRecDepth 20000 in
set_option maxHeartbeats 2000000 in
theorem Tryz.pieces_any {w : World} {C : Value} {cs : List Int} (hC : Qu.Iv w C cs) (hcl : cs.length ≤ 1048576) (s : List UInt8) (hsl : s.length ≤ 140737488351232) :
    Calls Tryz.prog 14 #[.string ⟨s.toArray⟩, C] w fun e w' => ∃ V, e = .returned V ∧ w'.ownsRow w.heap.size 9 1 V (piecesL s cs).length (strCells (piecesL s cs)) ∧ Below w.heap.size w w' := by
  obtain ⟨ac, cc, rfl, hx⟩ := hC.ex
  have hib := hC.ib
  have HX : Hid _ := hx
  have HIB : Hid _ := hib
  have HSL : Hid _ := hsl
  clear hC hx hib
  have HI : Hid (∃ (i : Nat) (r : List UInt8) (out : List (List UInt8)) (ad : Option Addr) (cap : Nat), (Value.int .i64 0 = .int .i64 i) ∧ i ≤ cs.length ∧ (Value.string ⟨s.toArray⟩ = .string ⟨r.toArray⟩) ∧ r.length ≤ 140737488351232 ∧ out.length ≤ i ∧ piecesL s cs = out ++ piecesL r (cs.drop i) ∧ (Value.slice none 0 0 = .slice ad out.length cap) ∧ w.ownsRow w.heap.size 9 1 (.slice none 0 0) out.length (strCells out) ∧ Below w.heap.size w w) := ⟨0, s, [], none, 0, rfl, Nat.zero_le _, rfl, hsl, Nat.le_refl _, rfl, rfl, World.ownsRow_nil _ _ _ _, Below.refl _ _⟩
  clear hsl
  go_enter Tryz.func14, Tryz.ntmps14
  go_wp2
  go_loopw [0, 5, 6] (fun sv ov iv wr => ∃ (i : Nat) (r : List UInt8) (out : List (List UInt8)) (ad : Option Addr) (cap : Nat), iv = .int .i64 i ∧ i ≤ cs.length ∧ sv = .string ⟨r.toArray⟩ ∧ r.length ≤ 140737488351232 ∧ out.length ≤ i ∧ piecesL s cs = out ++ piecesL r (cs.drop i) ∧ ov = .slice ad out.length cap ∧ wr.ownsRow w.heap.size 9 1 ov out.length (strCells out) ∧ Below w.heap.size w wr) (fun _ _ iv _ => cs.length - (intOf iv).toNat)
  case atStart => exact HI.out
  case round =>
    clear HI
    obtain ⟨i, r, out, ad, cap, rfl, hi, rfl, hrl, hol, hpl, rfl, hrow, hbel⟩ := hrel
    have HPL : Hid _ := hpl
    have HROW : Hid _ := hrow
    have HB : Hid _ := hbel
    clear hpl hrow hbel
    have hrz : (⟨r.toArray⟩ : ByteArray).size = r.length := by simp [ByteArray.size]
    have HO : Hid (out.length ≤ i) := hol
    by_cases hlt : i < cs.length
    · have q : (i : Int) < (cs.length : Int) := by omega
      by_cases hr0 : r = []
      · subst hr0
        have HE : Hid (piecesL s cs = out ++ [[]]) := (by show _ = _; rw [HPL.out, pieces_nil])
        have HL : Hid (out.length + 1 ≤ 4398046511104) := (by show out.length + 1 ≤ _; omega)
        clear hol HX HIB
        go_wp2_with (first | (at_builtin; refine Tryz.appStr rfl _ _ rfl HROW.out HB.out.size rfl rfl (by simp) _ HL.out ?_; intro g1 cap1 w1 hr1 hb1) | fail)
        go_ret
        refine ⟨_, rfl, ?_, HB.out.trans hb1⟩
        rw [HE.out, List.length_append]
        simpa [strCells] using hr1
      · have hr1 : r.isEmpty = false := by simpa using hr0
        obtain ⟨g, o, rfl, c0⟩ : ∃ g o, ac = some ⟨g, o, none⟩ ∧ wr.cell? ⟨g, o + i, none⟩ = some (.int .i64 cs[i]) := by
          rcases HX.out with e | ⟨g, o, e, hg, hc⟩
          · rw [e] at hlt; cases hlt
          · exact ⟨g, o, e, (HB.out.cell (p := ⟨g, o + i, none⟩) hg).trans (hc i hlt)⟩
        have hci := HIB.out cs[i] (List.getElem_mem hlt)
        have kp := Tryz.pick_any cs[i] (r.length + 1) (by omega) (by omega) hci.1 hci.2 wr
        have HNX : Hid (piecesL s cs = out ++ (r.take (pickN cs[i] (r.length + 1)) :: piecesL (r.drop (pickN cs[i] (r.length + 1))) (cs.drop (i + 1)))) := (by show _ = _; rw [HPL.out, pieces_next hr0 hlt])
        have hpn := pickN_lt cs[i] (n := r.length + 1) (by omega)
        generalize pickN cs[i] (r.length + 1) = m at *
        generalize cs[i] = c at *
        have hwr : IntKind.i64.wrap ((r.length : Int) + 1) = (r.length : Int) + 1 := by rw [IntKind.wrap_i64]; omega
        have HL : Hid (out.length + 1 ≤ 4398046511104) := (by show out.length + 1 ≤ _; omega)
        clear hol HPL
        go_wp2_with (first
          | (go_at_call 28; refine kp.mono ?_; clear kp; rintro e w0 ⟨rfl, rfl⟩)
          | (at_builtin; refine Tryz.appStr rfl _ _ rfl HROW.out HB.out.size rfl rfl (by simp) _ HL.out ?_; intro g1 cap1 w1 hr1 hb1)
          | fail)
        go_roundw
        case rel =>
          refine ⟨i + 1, r.drop m, out ++ [r.take m], some ⟨g1, 0, none⟩, cap1, by simp, by omega, by rw [ext_drop], by rw [List.length_drop]; omega, by rw [List.length_append]; have := HO.out; simp only [List.length_cons, List.length_nil]; omega, by rw [HNX.out]; simp, by rw [List.length_append]; rfl, ?_, HB.out.trans hb1⟩
          rw [List.length_append]
          rw [ext_take] at hr1
          simpa [strCells] using hr1
        case measure => simp [intOf]; omega
    · have q : ¬ (i : Int) < (cs.length : Int) := by omega
      have HE : Hid (piecesL s cs = out ++ [r]) := (by show _ = _; rw [HPL.out, List.drop_of_length_le (by omega)]; rfl)
      have HL : Hid (out.length + 1 ≤ 4398046511104) := (by show out.length + 1 ≤ _; omega)
      clear hol HX HIB
      go_wp2_with (first | (at_builtin; refine Tryz.appStr rfl _ _ rfl HROW.out HB.out.size rfl rfl (by simp) _ HL.out ?_; intro g1 cap1 w1 hr1 hb1) | fail)
      go_ret
      refine ⟨_, rfl, ?_, HB.out.trans hb1⟩
      rw [HE.out, List.length_append]
      simpa [strCells] using hr1
end Go.Proofs
