/-
  Laid together by pack.py of Sv Sx.
-/
import Derived.Test.YtlfiebapfgpchaaGreatDoorPkU
import Derived.Laws.ResultCell
namespace Go.Wi
theorem drop_front (a r : List UInt8) : (a ++ r).drop a.length = r := by simp
theorem cnt_read (a r : List UInt8) (m : Nat) (hm : m < 18446744073709551616) : (Rs.mk (a ++ (cnt m ++ r)) a.length none).cnt = (m, ⟨a ++ (cnt m ++ r), a.length + (cnt m).length, none⟩) := by
  have h := rdC_cnt m 0 0 r (by omega) (by simpa using hm) (by omega)
  simp only [Rs.cnt, drop_front, h]
  simp
theorem int_read (a r : List UInt8) (n : Int) (h1 : -9223372036854775808 ≤ n) (h2 : n ≤ 9223372036854775807) : (Rs.mk (a ++ (cnt (zig n) ++ r)) a.length none).int = (n, ⟨a ++ (cnt (zig n) ++ r), a.length + (cnt (zig n)).length, none⟩) := by
  unfold Rs.int
  rw [cnt_read a r (zig n) (zig_lt h1 h2)]
  simp only [unzig_zig]
theorem text_read (a r x : List UInt8) (hx : x.length < 18446744073709551616) : (Rs.mk (a ++ (cnt x.length ++ (x ++ r))) a.length none).text = (x, ⟨a ++ (cnt x.length ++ (x ++ r)), a.length + (cnt x.length).length + x.length, none⟩) := by
  unfold Rs.text
  rw [cnt_read a (x ++ r) x.length hx]
  simp only
  rw [if_neg (by simp; omega)]
  congr 1
  rw [← List.length_append, ← List.append_assoc, drop_front]
  simp
end Go.Wi
namespace Go.Se
open Go.Wi
/-- What is read of a token's bytes, one behind the other. -/
theorem said_read (x : Tk) (hu : x.u.size ≤ 60) (h1 : -9223372036854775808 ≤ x.n) (h2 : x.n ≤ 9223372036854775807) (h3 : -9223372036854775808 ≤ x.t) (h4 : x.t ≤ 9223372036854775807) :
    ∃ p q, (Rs.mk x.said 0 none).text = (x.u.data.toList, ⟨x.said, p, none⟩) ∧ (Rs.mk x.said p none).int = (x.t, ⟨x.said, q, none⟩) ∧ (Rs.mk x.said q none).int = (x.n, ⟨x.said, x.said.length, none⟩) := by
  have hl : x.u.data.toList.length = x.u.size := rfl
  refine ⟨(cnt x.u.size).length + x.u.size, (cnt x.u.size ++ x.u.data.toList ++ cnt (zig x.t)).length, ?_, ?_, ?_⟩
  · have := text_read [] (cnt (zig x.t) ++ cnt (zig x.n)) x.u.data.toList (by rw [hl]; omega)
    rw [hl] at this
    simpa [Tk.said] using this
  · have := int_read (cnt x.u.size ++ x.u.data.toList) (cnt (zig x.n)) x.t h3 h4
    simp only [List.length_append, hl] at this
    simpa [Tk.said, hl, Nat.add_assoc] using this
  · have := int_read (cnt x.u.size ++ x.u.data.toList ++ cnt (zig x.t)) [] x.n h1 h2
    simp only [List.length_append, hl, List.append_nil] at this
    simpa [Tk.said, hl, Nat.add_assoc] using this
end Go.Se
namespace Go.Proofs
open Go.RowKit Go.Wi Go.Se Go.Ct Go.Dg
/-- A struct in a box, and a plain result. -/
theorem Se.results_ct {P : Program} {fn : Func} {p u : Tmp} {ty : TypeId} (h : fn.results = #[.cell p ty, .tmp u]) (tmps : Array Value) (w : World) (g : Nat) (t : TypeId) (cs : Array Value) (fr : Nat × Nat) (d : TypeDesc)
    (hp : tmps.getD p undef = .pointer (some ⟨g, 0, none⟩)) (hg : w.heap[g]? = some (.cells cs t fr))
    (hu : P.underlying ty = some d) (hd : (match d with | .struct _ | .array _ _ => true | _ => false) = true) (hi : (P.info? ty).map (·.size) = some cs.size) :
    (results fn tmps).run P w = .ok (.tuple #[.agg cs, tmps.getD u undef]) w := by
  have hp' : tmps[p]?.getD undef = .pointer (some ⟨g, 0, none⟩) := by simpa using hp
  rw [results_cell_tmp h]
  simp [hp', asAddr, run_loadVar_row w g t ty cs fr d hg hu hd hi, Result.andThen]
theorem Tryz.infoTok : (Tryz.prog.info? 58).map (·.size) = some 3 := by kernel_rfl
/-- A reader, and two boxes of tokens. -/
structure Tryz.R2 (w0 w : World) (x R T : Nat) (s : Rs) (cs : Array Value) : Prop where
  rd : ∃ own, Tryz.Rd w own x s ∧ ∀ k, own k → w0.heap.size ≤ k ∧ k ≠ R ∧ k ≠ T
  r : w.heap[R]? = some (.cells #[.string ⟨#[]⟩, .int .i64 0, .int .i64 0] 58 (0, 0))
  t : w.heap[T]? = some (.cells cs 58 (0, 0))
  b : Below w0.heap.size w0 w
  ne : R ≠ T
  fr : w0.heap.size ≤ R
  ft : w0.heap.size ≤ T
theorem Tryz.R2.chg {w0 w w' : World} {x R T : Nat} {s s' : Rs} {cs : Array Value} {own : Nat → Prop} (h : Tryz.R2 w0 w x R T s cs) (hd : Tryz.Rd w own x s) (ho : ∀ k, own k → w0.heap.size ≤ k ∧ k ≠ R ∧ k ≠ T) (hc : Tryz.RChg own w w' x s') : Tryz.R2 w0 w' x R T s' cs := by
  obtain ⟨own', q1, q2⟩ := hc.ex
  have hx := ho x hd.ox
  have hR := block_lt h.r
  have hT := block_lt h.t
  have hb := h.b.size
  refine ⟨⟨own', q1, fun k e => ?_⟩, (hc.wo.block R hR fun e => hx.2.1 e.symm).trans h.r, (hc.wo.block T hT fun e => hx.2.2 e.symm).trans h.t, Wo.toBelow h.b hc.wo (fun k e => by subst e; exact hx.1) hb, h.ne, h.fr, h.ft⟩
  rcases q2 k e with e1 | e1
  · exact ho k e1
  · exact ⟨by omega, by omega, by omega⟩
theorem Tryz.R2.text {w0 w : World} {x R T : Nat} {s : Rs} {cs : Array Value} (h : Tryz.R2 w0 w x R T s cs) : Calls Tryz.prog 87 #[.pointer (some ⟨x, 0, none⟩)] w fun e w' => e = .returned (.string ⟨s.text.1.toArray⟩) ∧ Tryz.R2 w0 w' x R T s.text.2 cs := by
  obtain ⟨own, h1, h2⟩ := h.rd
  exact (Tryz.rText_any h1).mono fun e w' ⟨e1, e2⟩ => ⟨e1, h.chg h1 h2 e2⟩
theorem Tryz.R2.int {w0 w : World} {x R T : Nat} {s : Rs} {cs : Array Value} (h : Tryz.R2 w0 w x R T s cs) : Calls Tryz.prog 88 #[.pointer (some ⟨x, 0, none⟩)] w fun e w' => e = .returned (.int .i64 s.int.1) ∧ Tryz.R2 w0 w' x R T s.int.2 cs := by
  obtain ⟨own, h1, h2⟩ := h.rd
  exact (Tryz.rInt_any h1).mono fun e w' ⟨e1, e2⟩ => ⟨e1, h.chg h1 h2 e2⟩
theorem Tryz.R2.fin {w0 w : World} {x R T : Nat} {s : Rs} {cs : Array Value} (h : Tryz.R2 w0 w x R T s cs) : Calls Tryz.prog 89 #[.pointer (some ⟨x, 0, none⟩)] w fun e w' => e = .returned (.bool s.fin) ∧ ∃ n, w' = w.drewN n := by
  obtain ⟨own, h1, h2⟩ := h.rd
  exact Tryz.end_any h1
theorem Tryz.R2.set {w0 w : World} {x R T : Nat} {s : Rs} {cs : Array Value} (h : Tryz.R2 w0 w x R T s cs) (i : Nat) (v : Value) : Tryz.R2 w0 (w.setCell ⟨T, i, none⟩ v) x R T s (cs.setIfInBounds i v) := by
  obtain ⟨own, h1, h2⟩ := h.rd
  have ho : ∀ k, k ≠ T → (w.setCell ⟨T, i, none⟩ v).heap[k]? = w.heap[k]? := fun k hk => Below.heap_setCell w ⟨T, i, none⟩ _ k (fun e => hk (by simpa using e))
  exact ⟨⟨own, h1.keep (fun k e => ho k (h2 k e).2.2) (by simp), h2⟩, (ho R h.ne).trans h.r, heap_setCell_same w T i _ _ v h.t, Se.belowS h.b T i v h.ft, h.ne, h.fr, h.ft⟩
theorem Tryz.R2.drewN {w0 w : World} {x R T : Nat} {s : Rs} {cs : Array Value} (h : Tryz.R2 w0 w x R T s cs) (n : Nat) : Tryz.R2 w0 (w.drewN n) x R T s cs := by
  obtain ⟨own, h1, h2⟩ := h.rd
  exact ⟨⟨own, h1.drewN n, h2⟩, h.r, h.t, belowN h.b n, h.ne, h.fr, h.ft⟩
end Go.Proofs
namespace Go.Proofs
open Go.RowKit Go.Wi Go.Se Go.Ct Go.Dg
set_option maxHeartbeats 4000000 in
set_option maxRecDepth 4000 in
theorem Tryz.readBytes_said {w : World} (x : Tk) (hu0 : 1 ≤ x.u.size) (hu : x.u.size ≤ 60) (h1 : -9223372036854775808 ≤ x.n) (h2 : x.n ≤ 9223372036854775807) (h3 : -9223372036854775808 ≤ x.t) (h4 : x.t ≤ 9223372036854775807) {V : Value} (h : Bs w V x.said) (hv : ∀ k, V.ownBlock = some k → k < w.heap.size) :
    Calls Tryz.prog 74 #[V] w fun e w' => e = .returned (.tuple #[.agg #[.string x.u, .int .i64 x.n, .int .i64 x.t], .bool true]) ∧ Below w.heap.size w w' := by
  have hsl := Se.said_len x hu h1 h2 h3 h4
  obtain ⟨p, q, r1, r2, r3⟩ := Se.said_read x hu h1 h2 h3 h4
  have r4 : (Rs.mk x.said x.said.length none).fin = true := by simp [Rs.fin]
  have hU : (⟨x.u.data.toList.toArray⟩ : ByteArray) = x.u := rfl
  have hub := fun W => Tryz.isUser_any x.u W
  rw [Se.dec2 (by omega) (by omega)] at hub
  obtain ⟨W1, hW1⟩ : ∃ W, W = w.alloc (.cells #[.string ⟨#[]⟩, .int .i64 0, .int .i64 0] 58) := ⟨_, rfl⟩
  have hb1 : Below w.heap.size w W1 := by rw [hW1]; exact (Below.refl w.heap.size w).alloc (Nat.le_refl _) _
  have hn1 : W1.heap[w.heap.size]? = some (.cells #[.string ⟨#[]⟩, .int .i64 0, .int .i64 0] 58 (0, 0)) := by rw [hW1]; exact heap_alloc_new w _
  have HW : Hid (w.alloc (.cells #[.string ⟨#[]⟩, .int .i64 0, .int .i64 0] 58) = W1) := hW1.symm
  have hnr := Tryz.newReader_any (w := W1) (h.below hb1 hv) (by omega)
  obtain ⟨ad, cap, rfl, _⟩ := h.ex
  clear hW1 h hv
  go_enter Tryz.func74, Tryz.ntmps74
  go_upto_region 1 with (fail)
  rw [HW.out]
  go_upto_region 3 with (first
    | (go_at_call 86; refine hnr.mono ?_; clear hnr; rintro e w2 ⟨y, rfl, hR2, hb2⟩)
    | fail)
  have hs1 := hb1.size
  have hs2 := hb2.size
  have hl1 := block_lt hn1
  have hR : Tryz.R2 w (w2.alloc (.cells #[.string ⟨#[]⟩, .int .i64 0, .int .i64 0] 58)) y w.heap.size w2.heap.size ⟨x.said, 0, none⟩ #[.string ⟨#[]⟩, .int .i64 0, .int .i64 0] := by
    have hb3 : Below w2.heap.size w2 (w2.alloc (.cells #[.string ⟨#[]⟩, .int .i64 0, .int .i64 0] 58)) := (Below.refl w2.heap.size w2).alloc (Nat.le_refl _) _
    refine ⟨⟨_, hR2.keep (fun k e => hb3.block k e.2) hb3.size, fun k e => ⟨by omega, by omega, by omega⟩⟩, (hb3.block _ (by omega)).trans ((hb2.block _ hl1).trans hn1), heap_alloc_new w2 _, (hb1.trans (hb2.mono hs1)).trans (hb3.mono (by omega)), by omega, Nat.le_refl _, by omega⟩
  generalize hT : w2.heap.size = T at *
  generalize w2.alloc (.cells #[.string ⟨#[]⟩, .int .i64 0, .int .i64 0] 58) = W3 at *
  have q1 := hR.text
  rw [r1] at q1
  simp only at q1
  clear hb2 hR2 hn1 hb1 HW
  go_upto_region 6 with (first
    | (go_at_call 87; refine q1.mono ?_; clear q1 hR; rintro e w4 ⟨rfl, hR4⟩; have c4 : w4.cell? ⟨T, 0, none⟩ = some (.string ⟨#[]⟩) := cell_of_row w4 T 0 _ _ _ hR4.t; have f4 := frozen_of_row w4 T 0 _ _ hR4.t; have hR5 := hR4.set 0 (.string x.u); have q2 := hR5.int; rw [r2] at q2)
    | (go_at_call 88; refine q2.mono ?_; clear q2; rintro e w6 ⟨rfl, hR6⟩; have c6 : w6.cell? ⟨T, 2, none⟩ = some (.int .i64 0) := cell_of_row w6 T 2 _ _ _ hR6.t; have f6 := frozen_of_row w6 T 2 _ _ hR6.t; have hR7 := hR6.set 2 (.int .i64 x.t); have q3 := hR7.int; rw [r3] at q3)
    | (go_at_call 88; refine q3.mono ?_; clear q3; rintro e w8 ⟨rfl, hR8⟩; have c8 : w8.cell? ⟨T, 1, none⟩ = some (.int .i64 0) := cell_of_row w8 T 1 _ _ _ hR8.t; have f8 := frozen_of_row w8 T 1 _ _ hR8.t; have hR9 := hR8.set 1 (.int .i64 x.n))
    | fail)
  generalize w8.setCell ⟨T, 1, none⟩ (.int .i64 x.n) = W9 at *
  have d0 : W9.cell? ⟨T, 0, none⟩ = some (.string x.u) := cell_of_row W9 T 0 _ _ _ hR9.t
  have d1 : W9.cell? ⟨T, 1, none⟩ = some (.int .i64 x.n) := cell_of_row W9 T 1 _ _ _ hR9.t
  have d2 : W9.cell? ⟨T, 2, none⟩ = some (.int .i64 x.t) := cell_of_row W9 T 2 _ _ _ hR9.t
  have e0 : W9.cell? ⟨w.heap.size, 0, none⟩ = some (.string ⟨#[]⟩) := cell_of_row W9 _ 0 _ _ _ hR9.r
  have e1 : W9.cell? ⟨w.heap.size, 1, none⟩ = some (.int .i64 0) := cell_of_row W9 _ 1 _ _ _ hR9.r
  have e2 : W9.cell? ⟨w.heap.size, 2, none⟩ = some (.int .i64 0) := cell_of_row W9 _ 2 _ _ _ hR9.r
  have g0 := frozen_of_row W9 w.heap.size 0 _ _ hR9.r
  have g1 := frozen_of_row W9 w.heap.size 1 _ _ hR9.r
  have g2 := frozen_of_row W9 w.heap.size 2 _ _ hR9.r
  have hfn := fun m => (hR9.drewN m).fin
  rw [r4] at hfn
  have HR9 : Hid _ := hR9
  clear hR4 hR5 hR6 hR7 hR8 hR9 c4 f4 c6 f6 c8 f8
  go_region_with (first
    | (go_at_call 89; refine (hfn 1).mono ?_; rintro e w10 ⟨rfl, n10, rfl⟩)
    | (go_at_call 20; refine (hub _).mono ?_; rintro e w11 ⟨rfl, rfl⟩)
    | fail)
  all_goals
    go_wp2
    have hb9 := HR9.out.b
    have hs9 := hb9.size
    have z1 := heap_setCell_same (W9.drewN (1 + n10)) w.heap.size 0 _ _ (.string x.u) HR9.out.r
    have z2 := heap_setCell_same _ w.heap.size 1 _ _ (.int .i64 x.n) z1
    have z3 := heap_setCell_same _ w.heap.size 2 _ _ (.int .i64 x.t) z2
    refine bodyPost_ret (Se.results_ct rfl _ _ w.heap.size _ _ _ _ rfl z3 Tryz.underlying58 rfl Tryz.infoTok) rfl ⟨rfl, ?_⟩
    exact Se.belowS (Se.belowS (Se.belowS (belowN hb9 _) _ 0 _ (Nat.le_refl _)) _ 1 _ (Nat.le_refl _)) _ 2 _ (Nat.le_refl _)
end Go.Proofs
