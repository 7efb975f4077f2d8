/-
  WireWrites: the walk.
-/
import Derived.Test.YtdefebinnmimgaaVw
import Derived.Test.YtdefebinnmimgaaLawBack
namespace Go.Proofs
open Go.RowKit Go.Wi
theorem Try.Zoo.new {w1 w2 w3 w4 w5 : World} {xa xb xx xy : Nat} (ha : Try.Wt 88 w2 (fun k => w1.heap.size ≤ k ∧ k < w2.heap.size) xa []) (h2 : Below w1.heap.size w1 w2) (hb : Try.Wt 88 w3 (fun k => w2.heap.size ≤ k ∧ k < w3.heap.size) xb []) (h3 : Below w2.heap.size w2 w3)
    (n : Nat) (hx : Try.Wt 79 w4 (fun k => w3.heap.size ≤ k ∧ k < w4.heap.size) xx []) (h4 : Below w3.heap.size (w3.drewN n) w4) (hy : Try.Wt 79 w5 (fun k => w4.heap.size ≤ k ∧ k < w5.heap.size) xy []) (h5 : Below w4.heap.size w4 w5) :
    Try.Zoo w1.heap.size w1 w5 xa xb xx xy [] [] [] [] (.slice none 0 0) [] := by
  have s2 := h2.size
  have s3 := h3.size
  have s4 : w3.heap.size ≤ w4.heap.size := h4.size
  have s5 := h5.size
  have h4' : Below w3.heap.size w3 w4 := (belowN (Below.refl _ _) n).trans h4
  have h45 := h4'.trans (h5.mono s4)
  have h35 := h3.trans (h45.mono s3)
  obtain ⟨tag, htag⟩ : ∃ tag : Nat → Nat, tag = fun k => if k < w1.heap.size then 0 else if k < w2.heap.size then 1 else if k < w3.heap.size then 2 else if k < w4.heap.size then 3 else if k < w5.heap.size then 4 else 0 := ⟨_, rfl⟩
  have t0 : ∀ k, tag k ≠ 0 → w1.heap.size ≤ k ∧ k < w5.heap.size := fun k hk => by
    rw [htag] at hk; simp only at hk
    split at hk <;> (try split at hk) <;> (try split at hk) <;> (try split at hk) <;> (try split at hk) <;> first | omega | exact absurd rfl hk
  have t1 : ∀ k, w1.heap.size ≤ k ∧ k < w2.heap.size → tag k = 1 := fun k hk => by rw [htag]; simp only; rw [if_neg (by omega), if_pos (by omega)]
  have t2 : ∀ k, w2.heap.size ≤ k ∧ k < w3.heap.size → tag k = 2 := fun k hk => by rw [htag]; simp only; rw [if_neg (by omega), if_neg (by omega), if_pos (by omega)]
  have t3 : ∀ k, w3.heap.size ≤ k ∧ k < w4.heap.size → tag k = 3 := fun k hk => by rw [htag]; simp only; rw [if_neg (by omega), if_neg (by omega), if_neg (by omega), if_pos (by omega)]
  have t4 : ∀ k, w4.heap.size ≤ k ∧ k < w5.heap.size → tag k = 4 := fun k hk => by rw [htag]; simp only; rw [if_neg (by omega), if_neg (by omega), if_neg (by omega), if_neg (by omega), if_pos (by omega)]
  exact ⟨⟨tag, ⟨t0, (ha.below h35).more t1 (fun k e => (t0 k (by omega)).2), (hb.below h45).more t2 (fun k e => (t0 k (by omega)).2), (hx.below h5).more t3 (fun k e => (t0 k (by omega)).2), hy.more t4 (fun k e => (t0 k (by omega)).2), (Try.Hs.none w5).more (fun _ e => e.elim) (fun k e => (t0 k (by omega)).2)⟩⟩, h2.trans (h35.mono s2)⟩
theorem Wi.ap_of {w1 w : World} {v : Value} {li : List Int} (h : Is w1 v li) (hb : Below w1.heap.size w1 w) (own : Nat → Prop) (ho : ∀ k, own k → w1.heap.size ≤ k) : Wi.Ap w own v li := by
  refine ⟨h.up hb, fun h0 k e e2 => ?_⟩
  obtain ⟨ad, cap, rfl, h1⟩ := h.ex
  rcases h1 with h1 | ⟨gg, o, rfl, hg, -⟩
  · exact h0 h1
  · cases e
    have := ho _ e2
    simp only at this
    omega
theorem Try.Zoo.step_a {w1 w : World} {xa xb xx xy : Nat} {la lb lx ly : List UInt8} {kv : Value} {hs : List Wi.Hd} {f : Wi.Th → List Int} {q : List Wi.Th} (h : Try.Zoo w1.heap.size w1 w xa xb xx xy la lb lx ly kv hs) (hF : Full w1 f q) (p : Wi.Th) (hp : p ∈ q) {ad : Option Addr} {cap : Nat} (hlv : p.lv = .slice ad (f p).length cap) (hlen : la.length + wt p (f p) ≤ 140737488355000) :
    Calls Try.prog 39 #[.pointer (some ⟨xa, 0, none⟩), .agg #[.int .i64 p.k, .int .i64 p.n, .bool p.y, .string p.s, .slice ad (f p).length cap]] w fun e w' => (∃ v, e = .returned v) ∧ Try.Zoo w1.heap.size w1 w' xa xb xx xy (la ++ tb p (f p)) lb lx ly kv hs := by
  have hb := h.bel
  refine h.call_a fun own ho hW => ?_
  have := Try.writesC hW p (f p) (Wi.ap_of (hF.is p hp) hb own ho) (hF.ns p hp).1 (hF.ns p hp).2 hlen
  unfold Wi.thV at this
  rw [hlv] at this
  exact this
theorem Try.Zoo.step_b {w1 w : World} {xa xb xx xy : Nat} {la lb lx ly : List UInt8} {kv : Value} {hs : List Wi.Hd} {f : Wi.Th → List Int} {q : List Wi.Th} (h : Try.Zoo w1.heap.size w1 w xa xb xx xy la lb lx ly kv hs) (hF : Full w1 f q) (p : Wi.Th) (hp : p ∈ q) {ad : Option Addr} {cap : Nat} (hlv : p.lv = .slice ad (f p).length cap) (hlen : lb.length + wt p (f p) ≤ 140737488355000) :
    Calls Try.prog 39 #[.pointer (some ⟨xb, 0, none⟩), .agg #[.int .i64 p.k, .int .i64 p.n, .bool p.y, .string p.s, .slice ad (f p).length cap]] w fun e w' => (∃ v, e = .returned v) ∧ Try.Zoo w1.heap.size w1 w' xa xb xx xy la (lb ++ tb p (f p)) lx ly kv hs := by
  have hb := h.bel
  refine h.call_b fun own ho hW => ?_
  have := Try.writesC hW p (f p) (Wi.ap_of (hF.is p hp) hb own ho) (hF.ns p hp).1 (hF.ns p hp).2 hlen
  unfold Wi.thV at this
  rw [hlv] at this
  exact this
theorem Try.Zoo.step_x {w1 w : World} {xa xb xx xy : Nat} {la lb lx ly : List UInt8} {kv : Value} {hs : List Wi.Hd} {f : Wi.Th → List Int} {q : List Wi.Th} (h : Try.Zoo w1.heap.size w1 w xa xb xx xy la lb lx ly kv hs) (hF : Full w1 f q) (p : Wi.Th) (hp : p ∈ q) {ad : Option Addr} {cap : Nat} (hlv : p.lv = .slice ad (f p).length cap) (hlen : lx.length + wt p (f p) ≤ 140737488355000) :
    Calls Try.prog 43 #[.pointer (some ⟨xx, 0, none⟩), .agg #[.int .i64 p.k, .int .i64 p.n, .bool p.y, .string p.s, .slice ad (f p).length cap]] w fun e w' => (∃ v, e = .returned v) ∧ Try.Zoo w1.heap.size w1 w' xa xb xx xy la lb (lx ++ tb p (f p)) ly kv hs := by
  have hb := h.bel
  refine h.call_x fun own ho hW => ?_
  have := Try.wroteC hW p (f p) (Wi.ap_of (hF.is p hp) hb own ho) (hF.ns p hp).1 (hF.ns p hp).2 hlen
  unfold Wi.thV at this
  rw [hlv] at this
  exact this
theorem Try.Zoo.step_y {w1 w : World} {xa xb xx xy : Nat} {la lb lx ly : List UInt8} {kv : Value} {hs : List Wi.Hd} {f : Wi.Th → List Int} {q : List Wi.Th} (h : Try.Zoo w1.heap.size w1 w xa xb xx xy la lb lx ly kv hs) (hF : Full w1 f q) (p : Wi.Th) (hp : p ∈ q) {ad : Option Addr} {cap : Nat} (hlv : p.lv = .slice ad (f p).length cap) (hlen : ly.length + wt p (f p) ≤ 140737488355000) :
    Calls Try.prog 43 #[.pointer (some ⟨xy, 0, none⟩), .agg #[.int .i64 p.k, .int .i64 p.n, .bool p.y, .string p.s, .slice ad (f p).length cap]] w fun e w' => (∃ v, e = .returned v) ∧ Try.Zoo w1.heap.size w1 w' xa xb xx xy la lb lx (ly ++ tb p (f p)) kv hs := by
  have hb := h.bel
  refine h.call_y fun own ho hW => ?_
  have := Try.wroteC hW p (f p) (Wi.ap_of (hF.is p hp) hb own ho) (hF.ns p hp).1 (hF.ns p hp).2 hlen
  unfold Wi.thV at this
  rw [hlv] at this
  exact this
theorem Try.Zoo.bytes_a {B : Nat} {w0 w : World} {xa xb xx xy : Nat} {la lb lx ly : List UInt8} {kv : Value} {hs : List Wi.Hd} (h : Try.Zoo B w0 w xa xb xx xy la lb lx ly kv hs) (hlen : la.length ≤ 140737488355328) :
    Calls Try.prog 22 #[.pointer (some ⟨xa, 0, none⟩)] w fun e w' => ∃ ad cap, e = .returned (.slice ad la.length cap) ∧ w'.ownsRow w.heap.size 5 1 (.slice ad la.length cap) la.length (Lib.byteCells la) ∧ Below w.heap.size w w' := by
  obtain ⟨tag, g⟩ := h.ex
  exact Try.bytes_any g.a hlen
theorem Try.Zoo.bytes_b {B : Nat} {w0 w : World} {xa xb xx xy : Nat} {la lb lx ly : List UInt8} {kv : Value} {hs : List Wi.Hd} (h : Try.Zoo B w0 w xa xb xx xy la lb lx ly kv hs) (hlen : lb.length ≤ 140737488355328) :
    Calls Try.prog 22 #[.pointer (some ⟨xb, 0, none⟩)] w fun e w' => ∃ ad cap, e = .returned (.slice ad lb.length cap) ∧ w'.ownsRow w.heap.size 5 1 (.slice ad lb.length cap) lb.length (Lib.byteCells lb) ∧ Below w.heap.size w w' := by
  obtain ⟨tag, g⟩ := h.ex
  exact Try.bytes_any g.b hlen
/-- The document's bytes. -/
theorem Try.Zoo.refs {B : Nat} {w0 w : World} {xa xb xx xy : Nat} {la lb lx ly : List UInt8} {kv : Value} {hs : List Wi.Hd} (h : Try.Zoo B w0 w xa xb xx xy la lb lx ly kv hs) : ∃ Vx Vy, w.cell? ⟨xx, 0, none⟩ = some Vx ∧ w.cell? ⟨xy, 0, none⟩ = some Vy ∧ Bs w Vx lx ∧ Bs w Vy ly := by
  obtain ⟨tag, g⟩ := h.ex
  obtain ⟨Vx, a1, a2, -⟩ := g.x.ex
  obtain ⟨Vy, b1, b2, -⟩ := g.y.ex
  exact ⟨Vx, Vy, cell_of_row w xx 0 _ _ _ a1, cell_of_row w xy 0 _ _ _ b1, Bs.ofRow a2, Bs.ofRow b2⟩
/-- The three rows are out. -/
theorem Try.Z3.new {B : Nat} {w0 w w20 w21 w22 : World} {xa xb xx xy : Nat} {la lb lx ly : List UInt8} {kv : Value} {hs : List Wi.Hd} {V0 V1 V2 : Value} {L0 L1 L2 : List UInt8} (h : Try.Zoo B w0 w xa xb xx xy la lb lx ly kv hs)
    (r0 : w20.ownsRow w.heap.size 5 1 V0 L0.length (Lib.byteCells L0)) (b0 : Below w.heap.size w w20) (r1 : w21.ownsRow w20.heap.size 5 1 V1 L1.length (Lib.byteCells L1)) (b1 : Below w20.heap.size w20 w21) (r2 : w22.ownsRow w21.heap.size 5 1 V2 L2.length (Lib.byteCells L2)) (b2 : Below w21.heap.size w21 w22) (c3 cw : Array Value) (T3 Tw : TypeId) :
    Try.Z3 B w0 ((w22.alloc (.cells c3 T3)).drew.alloc (.cells cw Tw)) xa xb xx xy la lb lx ly kv hs (fun j => if j = 0 then V0 else if j = 1 then V1 else V2) (fun j => if j = 0 then L0 else if j = 1 then L1 else L2) w22.heap.size (w22.heap.size + 1) (.cells c3 T3 (0, 0)) (.cells cw Tw (0, 0)) 0 := by
  obtain ⟨tag, g⟩ := h.ex
  have s0 := b0.size
  have s1 := b1.size
  have s2 := b2.size
  have sB := g.le
  have e3 : (w22.alloc (.cells c3 T3)).heap.size = w22.heap.size + 1 := by simp
  have ba : Below w22.heap.size w22 (w22.alloc (.cells c3 T3)) := (Below.refl _ w22).alloc (Nat.le_refl _) _
  have bb : Below (w22.alloc (.cells c3 T3)).heap.size (w22.alloc (.cells c3 T3)) ((w22.alloc (.cells c3 T3)).drew.alloc (.cells cw Tw)) := ((Below.refl _ (w22.alloc (.cells c3 T3))).drew).alloc (Nat.le_refl _) _
  have hg3 := (bb.block w22.heap.size (by rw [e3]; omega)).trans (heap_alloc_new w22 (.cells c3 T3))
  have hgw : ((w22.alloc (.cells c3 T3)).drew.alloc (.cells cw Tw)).heap[w22.heap.size + 1]? = some (.cells cw Tw (0, 0)) := by
    have := heap_alloc_new (w22.alloc (.cells c3 T3)).drew (.cells cw Tw)
    rw [show (w22.alloc (.cells c3 T3)).drew.heap.size = w22.heap.size + 1 from e3] at this
    exact this
  have hsz : ((w22.alloc (.cells c3 T3)).drew.alloc (.cells cw Tw)).heap.size = w22.heap.size + 2 := by
    have : ((w22.alloc (.cells c3 T3)).drew.alloc (.cells cw Tw)).heap.size = (w22.alloc (.cells c3 T3)).drew.heap.size + 1 := by simp
    rw [this, show (w22.alloc (.cells c3 T3)).drew.heap.size = w22.heap.size + 1 from e3]
  have b3 : Below w22.heap.size w22 ((w22.alloc (.cells c3 T3)).drew.alloc (.cells cw Tw)) := ba.trans (bb.mono (by rw [e3]; omega))
  generalize (w22.alloc (.cells c3 T3)).drew.alloc (.cells cw Tw) = W at *
  have b23 := b2.trans (b3.mono s2)
  have b13 := b1.trans (b23.mono s1)
  have b03 := b0.trans (b13.mono s0)
  obtain ⟨tag', ht⟩ : ∃ tag' : Nat → Nat, tag' = fun q => if q < w.heap.size then tag q else if q < w20.heap.size then 6 else if q < w21.heap.size then 7 else if q < w22.heap.size then 8 else if q < w22.heap.size + 2 then 9 else 0 := ⟨_, rfl⟩
  have t0 : ∀ k, tag' k ≠ 0 → B ≤ k ∧ k < W.heap.size := fun k hk => by
    rw [ht] at hk
    simp only at hk
    by_cases a : k < w.heap.size
    · rw [if_pos a] at hk; exact ⟨(g.lt k hk).1, by omega⟩
    · refine ⟨by omega, ?_⟩
      by_cases b : k < w22.heap.size + 2
      · omega
      · rw [if_neg a, if_neg (by omega), if_neg (by omega), if_neg (by omega), if_neg b] at hk; exact absurd rfl hk
  have tj : ∀ j, j ≠ 0 → j < 6 → (fun k => tag' k = j) = (fun k => tag k = j) := fun j j0 j6 => by
    funext k
    apply propext
    rw [ht]
    simp only
    by_cases a : k < w.heap.size
    · rw [if_pos a]
    · rw [if_neg a]
      constructor
      · intro e
        split at e
        · omega
        · split at e
          · omega
          · split at e
            · omega
            · split at e <;> omega
      · intro e
        have := (g.lt k (by omega)).2
        omega
  have hz := g.below b03
  refine ⟨⟨tag', ⟨t0, by rw [tj 1 (by decide) (by decide)]; exact hz.a, by rw [tj 2 (by decide) (by decide)]; exact hz.b, by rw [tj 3 (by decide) (by decide)]; exact hz.x, by rw [tj 4 (by decide) (by decide)]; exact hz.y, by rw [tj 5 (by decide) (by decide)]; exact hz.h⟩, fun j _ hj => ?_, hg3, hgw, ?_, ?_⟩, h.bel.trans (b03.mono sB)⟩
  · have hj3 : j = 0 ∨ j = 1 ∨ j = 2 := by omega
    have dn : ∀ {wa : World} {Bx n : Nat} {v : Value} {xs : List Value}, wa.ownsRow Bx 5 1 v n xs → wa.ownsRow 0 5 1 v n xs := fun hh => ⟨hh.1, hh.2.elim Or.inl fun ⟨g', c, cur, q1, q2, q3⟩ => Or.inr ⟨g', c, cur, q1, Nat.zero_le _, q3⟩⟩
    rcases hj3 with rfl | rfl | rfl
    · refine ⟨Wi.row_heap (dn r0) fun q e => b13.block q (r0.lt q e).2, fun q e => ?_⟩
      have := r0.lt q e
      rw [ht]; simp only
      rw [if_neg (by omega), if_pos (by omega)]
    · refine ⟨Wi.row_heap (dn r1) fun q e => b23.block q (r1.lt q e).2, fun q e => ?_⟩
      have := r1.lt q e
      rw [ht]; simp only
      rw [if_neg (by omega), if_neg (by omega), if_pos (by omega)]
    · refine ⟨Wi.row_heap (dn r2) fun q e => b3.block q (r2.lt q e).2, fun q e => ?_⟩
      have := r2.lt q e
      rw [ht]; simp only
      rw [if_neg (by omega), if_neg (by omega), if_neg (by omega), if_pos (by omega)]
  · rw [ht]; simp only
    rw [if_neg (by omega), if_neg (by omega), if_neg (by omega), if_neg (by omega), if_pos (by omega)]
  · rw [ht]; simp only
    rw [if_neg (by omega), if_neg (by omega), if_neg (by omega), if_neg (by omega), if_pos (by omega)]
theorem Try.Z3.cells {B : Nat} {w0 w : World} {xa xb xx xy : Nat} {la lb lx ly : List UInt8} {kv : Value} {hs : List Wi.Hd} {V : Nat → Value} {L : Nat → List UInt8} {g3 gw : Nat} {c3 cw : Array Value} {T3 Tw : TypeId} {k : Nat} (h : Try.Z3 B w0 w xa xb xx xy la lb lx ly kv hs V L g3 gw (.cells c3 T3 (0, 0)) (.cells cw Tw (0, 0)) k) (h3 : ∀ j, j < 3 → c3[j]? = some (V j)) (hw : ∀ j, j < 3 → cw[j]? = some (.string ⟨(L j).toArray⟩)) (j : Nat) (hj : j < 3) (n : Nat) :
    (w.drewN n).cell? ⟨g3, j, none⟩ = some (V j) ∧ (w.drewN n).cell? ⟨gw, j, none⟩ = some (.string ⟨(L j).toArray⟩) ∧ (k ≤ j → (convert 22 9 (V j)).run Try.prog (w.drewN n) = .ok (.string ⟨(L j).toArray⟩) (w.drewN n)) := by
  obtain ⟨tag, g, g1, g2, g3', -, -⟩ := h.ex
  refine ⟨?_, ?_, fun hk => ?_⟩
  · show w.cell? _ = _
    rw [cell_of_row _ _ _ _ _ _ g2]; exact h3 j hj
  · show w.cell? _ = _
    rw [cell_of_row _ _ _ _ _ _ g3']; exact hw j hj
  · exact Try.conv_bs (Wi.Bs.up (Bs.ofRow (g1 j hk hj).1) (belowN (Below.refl _ _) n))
theorem Try.Zoo.looks {B : Nat} {w0 w : World} {xa xb xx xy : Nat} {la lb lx ly : List UInt8} {kv : Value} {hs : List Wi.Hd} (h : Try.Zoo B w0 w xa xb xx xy la lb lx ly kv hs) (hl : hs.length ≤ 1000000) (hn : ∀ x ∈ hs, x.n ≤ 1000000000) :
    Calls Try.prog 45 #[kv] w fun e w' => e = .returned (.bool true) ∧ ∃ n, w' = w.drewN n := by
  obtain ⟨tag, g⟩ := h.ex
  exact Try.looks_any g.h hl hn
/-- Between two steps. -/
def Try.WL (w1 wr : World) (xa xb xx xy : Nat) (f f2 : Wi.Th → List Int) (l m : List Wi.Th) (k : Nat) (kv : Value) : Prop :=
  ∃ hs : List Wi.Hd, hs.length = 12 * k ∧ (∀ x ∈ hs, x.n ≤ 1000000000) ∧ Try.Zoo w1.heap.size w1 wr xa xb xx xy (tbs f (l.take k)) (tbs f2 (m.take k)) (tbs f (l.take k)) (tbs f2 (m.take k)) kv hs
set_option maxRecDepth 4000 in
set_option maxHeartbeats 8000000 in
theorem Try.wireWritesWalk (u : Value) (l : List Wi.Th) (f : Wi.Th → List Int) (v : Value) (m : List Wi.Th) (f2 : Wi.Th → List Int) (w : World) (hP : Wi.Things w u l) (hF : Full w f l) (hP2 : Wi.Things w v m) (hF2 : Full w f2 m) :
    Calls Try.prog 8 #[u, v] w fun e w' => e = .returned (.bool true) ∧ Below w.heap.size w w' := by
  have h0 := Try.shown_any w
  obtain ⟨ua, ucap, rfl, hucap, hum, -⟩ := hP.ex
  obtain ⟨va, vcap, rfl, hvcap, hvm, -⟩ := hP2.ex
  have HP : Hid (Wi.Things w (.slice ua l.length ucap) l) := hP
  have HF : Hid (Full w f l) := hF
  have HP2 : Hid (Wi.Things w (.slice va m.length vcap) m) := hP2
  have HF2 : Hid (Full w f2 m) := hF2
  clear hP hF hP2 hF2 hum hvm
  go_enter Try.func8, Try.ntmps8
  go_upto_if 41 with (first
    | (go_at_call 9; refine h0.mono ?_; clear h0; rintro e w1 ⟨rfl, hb1⟩; have h1 := Try.newWriter_any w1)
    | (go_at_call 13; refine h1.mono ?_; clear h1; rintro e w2 ⟨xa, rfl, hWa, hb2⟩; have h2 := Try.newWriter_any w2)
    | (go_at_call 13; refine h2.mono ?_; clear h2; rintro e w3 ⟨xb, rfl, hWb, hb3⟩; have hb13 := (hb1.trans (hb2.mono hb1.size)).trans (hb3.mono (Nat.le_trans hb1.size hb2.size)); have h3 := Try.beyond_any (Wi.Things.up HP.out hb13) (Full.up HF.out hb13) 1048576 (by decide))
    | (go_at_call 38; refine h3.mono ?_; clear h3; rintro e w4 ⟨⟨bb, rfl, hbb⟩, n4, rfl⟩; have h4 := Try.beyond_any (Wi.Things.up (Wi.Things.up HP2.out hb13) (belowN (Below.refl _ w3) n4)) (Full.up (Full.up HF2.out hb13) (belowN (Below.refl _ w3) n4)) 1048576 (by decide))
    | (go_at_call 38; refine h4.mono ?_; clear h4; rintro e w5 ⟨⟨bb2, rfl, hbb2⟩, n5, rfl⟩)
    | fail)
  · go_wp2
    go_ret
    exact ⟨rfl, belowN hb13 _⟩
  · rename_i hbn
    by_cases hbn2 : bb2 = 1
    · subst hbn2
      go_wp2
      go_ret
      exact ⟨rfl, belowN hb13 _⟩
    · simp only [decide_eq_false hbn2]
      have Hwt : Hid (wts f l ≤ 1048576 ∧ wts f2 m ≤ 1048576) := ⟨hbb hbn, hbb2 hbn2⟩
      have HP1 : Hid (Wi.Things w1 (.slice ua l.length ucap) l ∧ Wi.Things w1 (.slice va m.length vcap) m) := ⟨Wi.Things.up HP.out hb1, Wi.Things.up HP2.out hb1⟩
      have HF1 : Hid (Full w1 f l ∧ Full w1 f2 m) := ⟨Full.up HF.out hb1, Full.up HF2.out hb1⟩
      have Hb1 : Hid (Below w.heap.size w w1) := hb1
      have HW : Hid (Try.Wt 88 w2 (fun k => w1.heap.size ≤ k ∧ k < w2.heap.size) xa [] ∧ Below w1.heap.size w1 w2 ∧ Try.Wt 88 w3 (fun k => w2.heap.size ≤ k ∧ k < w3.heap.size) xb [] ∧ Below w2.heap.size w2 w3) := ⟨hWa, hb2, hWb, hb3⟩
      have h6 := Try.refNew_any (w3.drewN (n4 + n5))
      clear hbb hbb2 hbn hbn2 HP HP2 HF HF2 hb1 hWa hWb hb2 hb3 hb13
      go_wp2_with (first
        | (go_at_call 42; refine h6.mono ?_; clear h6; rintro e w6 ⟨xx, rfl, hWx, hb6⟩; have h7 := Try.refNew_any w6)
        | (go_at_call 42; refine h7.mono ?_; clear h7; rintro e w7 ⟨xy, rfl, hWy, hb7⟩)
        | fail)
      have HZ : Hid (Try.WL w1 w7 xa xb xx xy f f2 l m 0 (.slice none 0 0)) := ⟨[], rfl, fun x hx => (by cases hx), Try.Zoo.new HW.out.1 HW.out.2.1 HW.out.2.2.1 HW.out.2.2.2 (n4 + n5) hWx hb6 hWy hb7⟩
      clear hWx hb6 hWy hb7 HW
      go_loopw [12, 13, 14, 15, 16, 17] (fun kv i _ _ _ _ wr => ∃ (k : Nat) (ka : Option Addr) (kc : Nat), k ≤ 300 ∧ i = .int .i64 k ∧ kv = .slice ka (12 * k) kc ∧ Try.WL w1 wr xa xb xx xy f f2 l m k (.slice ka (12 * k) kc)) (fun _ i _ _ _ _ _ => 300 - (intOf i).toNat)
      case atStart => exact ⟨0, none, 0, by omega, rfl, rfl, HZ.out⟩
      case round =>
        obtain ⟨k, ka, kc, hk, rfl, rfl, hWL⟩ := hrel
        have HWL : Hid (Try.WL w1 wr xa xb xx xy f f2 l m k (.slice ka (12 * k) kc)) := hWL
        clear hWL HZ
        by_cases hgo : k < 300 ∧ (k < l.length ∨ k < m.length)
        · obtain ⟨h300, hor⟩ := hgo
          have q0 : (k : Int) < 300 := by omega
          have HOr : Hid (k < l.length ∨ k < m.length) := hor
          clear hor
          obtain ⟨hs, hhl, hhn, hZ⟩ := HWL.out
          have HH : Hid (hs.length = 12 * k ∧ ∀ x ∈ hs, x.n ≤ 1000000000) := ⟨hhl, hhn⟩
          clear hhl hhn HWL
          have hbd : ∀ (f : Wi.Th → List Int) (q : List Wi.Th) (p : Wi.Th), Full w1 f q → wts f q ≤ 1048576 → q[k]? = some p → (tbs f (q.take k)).length + wt p (f p) ≤ 140737488355000 ∧ tbs f (q.take k) ++ tb p (f p) = tbs f (q.take (k + 1)) := fun f q p hF hw hp => by
            have e1 := wts_snoc f (q.take k) p
            have e2 : q.take k ++ [p] = q.take (k + 1) := by rw [List.take_add_one, hp]; rfl
            have e3 := wts_take f q (k + 1)
            have e4 := (tbs_len w1 f (q.take k) ⟨fun x hx => hF.is x (List.mem_of_mem_take hx), fun x hx => hF.ss x (List.mem_of_mem_take hx), fun x hx => hF.ls x (List.mem_of_mem_take hx), fun x hx => hF.ns x (List.mem_of_mem_take hx)⟩).2
            rw [e2] at e1
            exact ⟨by omega, by rw [← e2, tbs_snoc]⟩
          have Hbd : Hid (∀ (f : Wi.Th → List Int) (q : List Wi.Th) (p : Wi.Th), Full w1 f q → wts f q ≤ 1048576 → q[k]? = some p → (tbs f (q.take k)).length + wt p (f p) ≤ 140737488355000 ∧ tbs f (q.take k) ++ tb p (f p) = tbs f (q.take (k + 1))) := hbd
          clear hbd
          have hstop : ∀ (f : Wi.Th → List Int) (q : List Wi.Th), ¬ k < q.length → tbs f (q.take k) = tbs f (q.take (k + 1)) := fun f q hq => by rw [List.take_of_length_le (by omega), List.take_of_length_le (by omega)]
          have Hstop : Hid (∀ (f : Wi.Th → List Int) (q : List Wi.Th), ¬ k < q.length → tbs f (q.take k) = tbs f (q.take (k + 1))) := hstop
          clear hstop
          by_cases hcl : k < l.length
          case' pos =>
            have q1 : (k : Int) < (l.length : Int) := by omega
            obtain ⟨p, hp⟩ : ∃ p, l[k]? = some p := ⟨_, List.getElem?_eq_getElem hcl⟩
            have hpm := List.mem_of_getElem? hp
            obtain ⟨ad', cap', e, -, -, hP2⟩ := (Wi.Things.up HP1.out.1 hZ.bel).ex
            cases e
            rcases hP2 with hP2 | ⟨pb, po, rfl, hpb, hP2⟩
            · rw [hP2] at hcl; exact absurd hcl (by simp)
            obtain ⟨c0, c1, c2, c3, c4⟩ := hP2 k p hp
            obtain ⟨la, lc, hlv, -⟩ := (HF1.out.1.is p hpm).ex
            obtain ⟨hl1, hl2⟩ := Hbd.out f l p HF1.out.1 Hwt.out.1 hp
            rw [hlv] at c4
            have Hl1 : Hid ((tbs f (l.take k)).length + wt p (f p) ≤ 140737488355000) := hl1
            have Hl2 : Hid (tbs f (l.take k) ++ tb p (f p) = tbs f (l.take (k + 1))) := hl2
            have h8 := hZ.step_a HF1.out.1 p hpm hlv Hl1.out
            have hcc : ∀ W : World, Below w1.heap.size w1 W → W.cell? ⟨pb, po + k * 5, none⟩ = some (.int .i64 p.k) ∧ W.cell? ⟨pb, po + k * 5 + 1, none⟩ = some (.int .i64 p.n) ∧ W.cell? ⟨pb, po + k * 5 + 2, none⟩ = some (.bool p.y) ∧ W.cell? ⟨pb, po + k * 5 + 3, none⟩ = some (.string p.s) ∧ W.cell? ⟨pb, po + k * 5 + 4, none⟩ = some (.slice la (f p).length lc) := fun W hb => by
              obtain ⟨a1, c1, e1, -, -, h2⟩ := (Wi.Things.up HP1.out.1 hb).ex
              cases e1
              rcases h2 with h2 | ⟨pb', po', e2, -, h2⟩
              · rw [h2] at hcl; exact absurd hcl (by simp)
              · cases e2
                obtain ⟨d0, d1, d2, d3, d4⟩ := h2 k p hp
                rw [hlv] at d4
                exact ⟨d0, d1, d2, d3, d4⟩
            clear hP2 hl1 hl2
            go_upto_if 79 with (first
              | (go_at_call 39; refine h8.mono ?_; clear h8; rintro e w8 ⟨⟨v8, rfl⟩, hZ8⟩; clear c0 c1 c2 c3 c4; obtain ⟨c0, c1, c2, c3, c4⟩ := hcc w8 hZ8.bel; have h9 := hZ8.step_x HF1.out.1 p hpm hlv Hl1.out)
              | (go_at_call 43; refine h9.mono ?_; clear h9; rintro e w9 ⟨⟨v9, rfl⟩, hZ9⟩)
              | fail)
            rw [Hl2.out] at hZ9
            have Hc : Hid (k < m.length ∨ True) := .inr trivial
            clear hcc c0 c1 c2 c3 c4 hZ8 hZ Hl1 Hl2 hlv hpm hp hcl q1 hpb
          case' neg =>
            have q1 : ¬ (k : Int) < (l.length : Int) := by omega
            have q2 : (k : Int) < (m.length : Int) := by have := HOr.out; omega
            obtain ⟨w9, hw9⟩ : ∃ W : World, W = wr := ⟨_, rfl⟩
            subst hw9
            rw [Hstop.out f l hcl] at hZ
            have hZ9 := hZ
            have Hc : Hid (k < m.length ∨ False) := (by have := HOr.out; exact .inl (by omega))
            go_upto_if 79 with (fail)
            clear hZ hcl q1 q2
          all_goals
            have HZ9 : Hid (Try.Zoo w1.heap.size w1 w9 xa xb xx xy (tbs f (l.take (k + 1))) (tbs f2 (m.take k)) (tbs f (l.take (k + 1))) (tbs f2 (m.take k)) (.slice ka (12 * k) kc) hs) := hZ9
            clear hZ9
            go_cut [13] (fun i wx => i = .int .i64 k ∧ Try.Zoo w1.heap.size w1 wx xa xb xx xy (tbs f (l.take (k + 1))) (tbs f2 (m.take (k + 1))) (tbs f (l.take (k + 1))) (tbs f2 (m.take (k + 1))) (.slice ka (12 * k) kc) hs)
            case first =>
              by_cases hcm : k < m.length
              · have q1 : (k : Int) < (m.length : Int) := by omega
                have hZ := HZ9.out
                obtain ⟨p, hp⟩ : ∃ p, m[k]? = some p := ⟨_, List.getElem?_eq_getElem hcm⟩
                have hpm := List.mem_of_getElem? hp
                obtain ⟨ad', cap', e, -, -, hP2⟩ := (Wi.Things.up HP1.out.2 hZ.bel).ex
                cases e
                rcases hP2 with hP2 | ⟨pb2, po2, rfl, hpb2, hP2⟩
                · rw [hP2] at hcm; exact absurd hcm (by simp)
                · obtain ⟨c0, c1, c2, c3, c4⟩ := hP2 k p hp
                  obtain ⟨la, lc, hlv, -⟩ := (HF1.out.2.is p hpm).ex
                  obtain ⟨hl1, hl2⟩ := Hbd.out f2 m p HF1.out.2 Hwt.out.2 hp
                  rw [hlv] at c4
                  have Hl1 : Hid ((tbs f2 (m.take k)).length + wt p (f2 p) ≤ 140737488355000) := hl1
                  have Hl2 : Hid (tbs f2 (m.take k) ++ tb p (f2 p) = tbs f2 (m.take (k + 1))) := hl2
                  have h8 := hZ.step_b HF1.out.2 p hpm hlv Hl1.out
                  have hcc : ∀ W : World, Below w1.heap.size w1 W → W.cell? ⟨pb2, po2 + k * 5, none⟩ = some (.int .i64 p.k) ∧ W.cell? ⟨pb2, po2 + k * 5 + 1, none⟩ = some (.int .i64 p.n) ∧ W.cell? ⟨pb2, po2 + k * 5 + 2, none⟩ = some (.bool p.y) ∧ W.cell? ⟨pb2, po2 + k * 5 + 3, none⟩ = some (.string p.s) ∧ W.cell? ⟨pb2, po2 + k * 5 + 4, none⟩ = some (.slice la (f2 p).length lc) := fun W hb => by
                    obtain ⟨a1, c1, e1, -, -, h2⟩ := (Wi.Things.up HP1.out.2 hb).ex
                    cases e1
                    rcases h2 with h2 | ⟨pb', po', e2, -, h2⟩
                    · rw [h2] at hcm; exact absurd hcm (by simp)
                    · cases e2
                      obtain ⟨d0, d1, d2, d3, d4⟩ := h2 k p hp
                      rw [hlv] at d4
                      exact ⟨d0, d1, d2, d3, d4⟩
                  clear hP2 hl1 hl2
                  go_wp2_with (first
                    | (go_at_call 39; refine h8.mono ?_; clear h8; rintro e w10 ⟨⟨v10, rfl⟩, hZ10⟩; clear c0 c1 c2 c3 c4; obtain ⟨c0, c1, c2, c3, c4⟩ := hcc w10 hZ10.bel; have h9 := hZ10.step_y HF1.out.2 p hpm hlv Hl1.out)
                    | (go_at_call 43; refine h9.mono ?_; clear h9; rintro e w11 ⟨⟨v11, rfl⟩, hZ11⟩)
                    | fail)
                  rw [Hl2.out] at hZ11
                  go_meet
                  case rel => exact ⟨rfl, hZ11⟩
              · try (exact False.elim (Hc.out.resolve_left hcm))
                all_goals
                  have q1 : ¬ (k : Int) < (m.length : Int) := by omega
                  have hZ := HZ9.out
                  rw [Hstop.out f2 m hcm] at hZ
                  go_wp2
                  go_meet
                  case rel => exact ⟨rfl, hZ⟩
            case rest =>
              obtain ⟨rfl, hZc⟩ := hcut
              obtain ⟨LA, hLA⟩ : ∃ LA, LA = tbs f (l.take (k + 1)) := ⟨_, rfl⟩
              obtain ⟨LB, hLB⟩ : ∃ LB, LB = tbs f2 (m.take (k + 1)) := ⟨_, rfl⟩
              rw [← hLA, ← hLB] at hZc
              have HLe : Hid (LA = tbs f (l.take (k + 1)) ∧ LB = tbs f2 (m.take (k + 1))) := ⟨hLA, hLB⟩
              have hbn : ∀ (f : Wi.Th → List Int) (q : List Wi.Th), Full w1 f q → wts f q ≤ 1048576 → (tbs f (q.take (k + 1))).length ≤ 1048576 := fun f q hF hw => by
                have e3 := wts_take f q (k + 1)
                have e4 := (tbs_len w1 f (q.take (k + 1)) ⟨fun x hx => hF.is x (List.mem_of_mem_take hx), fun x hx => hF.ss x (List.mem_of_mem_take hx), fun x hx => hF.ls x (List.mem_of_mem_take hx), fun x hx => hF.ns x (List.mem_of_mem_take hx)⟩).2
                omega
              have HLl : Hid (LA.length ≤ 1048576 ∧ LB.length ≤ 1048576) := (by
                show LA.length ≤ 1048576 ∧ LB.length ≤ 1048576
                rw [hLA, hLB]; exact ⟨hbn f l HF1.out.1 Hwt.out.1, hbn f2 m HF1.out.2 Hwt.out.2⟩)
              have h20 := hZc.bytes_a (Nat.le_trans HLl.out.1 (by decide))
              clear hbn hLA hLB HZ9 Hstop Hbd
              go_upto_region 23 with (first
                | (go_at_call 22; refine h20.mono ?_; clear h20; rintro e w20 ⟨a0, c0, rfl, hr0, hb20⟩; have hZ20 := hZc.below hb20; have h21 := hZ20.bytes_a (Nat.le_trans HLl.out.1 (by decide)))
                | (go_at_call 22; refine h21.mono ?_; clear h21; rintro e w21 ⟨a1, c1, rfl, hr1, hb21⟩; have hZ21 := hZ20.below hb21; have h22 := hZ21.bytes_b (Nat.le_trans HLl.out.2 (by decide)))
                | (go_at_call 22; refine h22.mono ?_; clear h22; rintro e w22 ⟨a2, c2, rfl, hr2, hb22⟩; have hZ22 := hZ21.below hb22)
                | fail)
              have hba : Below w22.heap.size w22 (w22.alloc (.cells #[.slice a0 LA.length c0, .slice a1 LA.length c1, .slice a2 LB.length c2] 22)) := (Below.refl _ w22).alloc (Nat.le_refl _) _
              obtain ⟨Vx, Vy, dx, dy, bx, by'⟩ := (hZ22.below hba).refs
              have hcx : (convert 22 9 Vx).run Try.prog (w22.alloc (.cells #[.slice a0 LA.length c0, .slice a1 LA.length c1, .slice a2 LB.length c2] 22)).drew = .ok (.string ⟨LA.toArray⟩) (w22.alloc (.cells #[.slice a0 LA.length c0, .slice a1 LA.length c1, .slice a2 LB.length c2] 22)).drew := Try.conv_bs (Wi.Bs.up bx (belowN (Below.refl _ _) 1))
              have hcy : (convert 22 9 Vy).run Try.prog (w22.alloc (.cells #[.slice a0 LA.length c0, .slice a1 LA.length c1, .slice a2 LB.length c2] 22)).drew = .ok (.string ⟨LB.toArray⟩) (w22.alloc (.cells #[.slice a0 LA.length c0, .slice a1 LA.length c1, .slice a2 LB.length c2] 22)).drew := Try.conv_bs (Wi.Bs.up by' (belowN (Below.refl _ _) 1))
              have hZ3 := Try.Z3.new hZc hr0 hb20 hr1 hb21 hr2 hb22 #[.slice a0 LA.length c0, .slice a1 LA.length c1, .slice a2 LB.length c2] #[.string ⟨LA.toArray⟩, .string ⟨LA.toArray⟩, .string ⟨LB.toArray⟩] 22 9
              have HZ3 : Hid (Try.Z3 w1.heap.size w1 ((w22.alloc (.cells #[.slice a0 LA.length c0, .slice a1 LA.length c1, .slice a2 LB.length c2] 22)).drew.alloc (.cells #[.string ⟨LA.toArray⟩, .string ⟨LA.toArray⟩, .string ⟨LB.toArray⟩] 9)) xa xb xx xy LA LB LA LB (.slice ka (12 * k) kc) hs (fun j => if j = 0 then .slice a0 LA.length c0 else if j = 1 then .slice a1 LA.length c1 else .slice a2 LB.length c2) (fun j => if j = 0 then LA else if j = 1 then LA else LB) w22.heap.size (w22.heap.size + 1) (.cells #[.slice a0 LA.length c0, .slice a1 LA.length c1, .slice a2 LB.length c2] 22 (0, 0)) (.cells #[.string ⟨LA.toArray⟩, .string ⟨LA.toArray⟩, .string ⟨LB.toArray⟩] 9 (0, 0)) 0) := hZ3
              clear hZ3 hr0 hr1 hr2 hb20 hb21 hb22 hZ20 hZ21 hZ22 hZc bx by' hba
              go_region
              obtain ⟨V, hV⟩ : ∃ V : Nat → Value, V = fun j => if j = 0 then .slice a0 LA.length c0 else if j = 1 then .slice a1 LA.length c1 else .slice a2 LB.length c2 := ⟨_, rfl⟩
              obtain ⟨LL, hLL⟩ : ∃ LL : Nat → List UInt8, LL = fun j => if j = 0 then LA else if j = 1 then LA else LB := ⟨_, rfl⟩
              have hj3 : ∀ j, j < 3 → j = 0 ∨ j = 1 ∨ j = 2 := fun j hj => by omega
              have hc3 : ∀ j, j < 3 → (#[.slice a0 LA.length c0, .slice a1 LA.length c1, .slice a2 LB.length c2] : Array Value)[j]? = some (V j) := fun j hj => by
                rw [hV]
                rcases hj3 j hj with rfl | rfl | rfl <;> rfl
              have hcw : ∀ j, j < 3 → (#[.string ⟨LA.toArray⟩, .string ⟨LA.toArray⟩, .string ⟨LB.toArray⟩] : Array Value)[j]? = some (.string ⟨(LL j).toArray⟩) := fun j hj => by
                rw [hLL]
                rcases hj3 j hj with rfl | rfl | rfl <;> rfl
              have HLn : Hid (∀ j, (LL j).length ≤ 1048576) := fun j => by
                rw [hLL]
                simp only
                split
                · exact HLl.out.1
                · split
                  · exact HLl.out.1
                  · exact HLl.out.2
              have HZ4 : Hid (∃ hs', hs'.length = 12 * k + 4 * 0 ∧ (∀ x ∈ hs', x.n ≤ 1000000000) ∧ Try.Z3 w1.heap.size w1 ((w22.alloc (.cells #[.slice a0 LA.length c0, .slice a1 LA.length c1, .slice a2 LB.length c2] 22)).alloc (.cells #[.string ⟨LA.toArray⟩, .string ⟨LA.toArray⟩, .string ⟨LB.toArray⟩] 9)).drew xa xb xx xy LA LB LA LB (.slice ka (12 * k) kc) hs' V LL w22.heap.size (w22.heap.size + 1) (.cells #[.slice a0 LA.length c0, .slice a1 LA.length c1, .slice a2 LB.length c2] 22 (0, 0)) (.cells #[.string ⟨LA.toArray⟩, .string ⟨LA.toArray⟩, .string ⟨LB.toArray⟩] 9 (0, 0)) 0) := ⟨hs, HH.out.1, HH.out.2, by rw [hV, hLL]; exact HZ3.out⟩
              have Hc3 : Hid (∀ j, j < 3 → (#[.slice a0 LA.length c0, .slice a1 LA.length c1, .slice a2 LB.length c2] : Array Value)[j]? = some (V j)) := hc3
              have Hcw : Hid (∀ j, j < 3 → (#[.string ⟨LA.toArray⟩, .string ⟨LA.toArray⟩, .string ⟨LB.toArray⟩] : Array Value)[j]? = some (.string ⟨(LL j).toArray⟩)) := hcw
              clear hV hLL hj3 hc3 hcw HZ3 hcx hcy dx dy
              go_wp2
              generalize ((w22.alloc (.cells #[.slice a0 LA.length c0, .slice a1 LA.length c1, .slice a2 LB.length c2] 22)).alloc (.cells #[.string ⟨LA.toArray⟩, .string ⟨LA.toArray⟩, .string ⟨LB.toArray⟩] 9)).drew = wz at *
              generalize w22.heap.size = gg at *
              go_loopw [12, 16, 17] (fun kv c _ wx => ∃ (kk : Nat) (ka2 : Option Addr) (kc2 : Nat), kk ≤ 3 ∧ c = .int .i64 kk ∧ kv = .slice ka2 (12 * k + 4 * kk) kc2 ∧ ∃ hs', hs'.length = 12 * k + 4 * kk ∧ (∀ x ∈ hs', x.n ≤ 1000000000) ∧ Try.Z3 w1.heap.size w1 wx xa xb xx xy LA LB LA LB (.slice ka2 (12 * k + 4 * kk) kc2) hs' V LL gg (gg + 1) (.cells #[.slice a0 LA.length c0, .slice a1 LA.length c1, .slice a2 LB.length c2] 22 (0, 0)) (.cells #[.string ⟨LA.toArray⟩, .string ⟨LA.toArray⟩, .string ⟨LB.toArray⟩] 9 (0, 0)) kk) (fun _ c _ _ => 3 - (intOf c).toNat)
              case atStart => exact ⟨0, ka, kc, by omega, rfl, rfl, HZ4.out⟩
              case round =>
                obtain ⟨kk, ka2, kc2, hkk, rfl, rfl, hs2, hs2l, hs2n, hZ⟩ := hrel
                have HS2 : Hid (hs2.length = 12 * k + 4 * kk ∧ ∀ x ∈ hs2, x.n ≤ 1000000000) := ⟨hs2l, hs2n⟩
                have HZk : Hid (Try.Z3 w1.heap.size w1 wr xa xb xx xy LA LB LA LB (.slice ka2 (12 * k + 4 * kk) kc2) hs2 V LL gg (gg + 1) (.cells #[.slice a0 LA.length c0, .slice a1 LA.length c1, .slice a2 LB.length c2] 22 (0, 0)) (.cells #[.string ⟨LA.toArray⟩, .string ⟨LA.toArray⟩, .string ⟨LB.toArray⟩] 9 (0, 0)) kk) := hZ
                clear hs2l hs2n hZ HZ4
                by_cases hk3 : kk < 3
                · have q5 : (kk : Int) < 3 := by omega
                  go_wp2
                  go_loopw [17] (fun c wx => ∃ jj n : Nat, kk ≤ jj ∧ jj ≤ 3 ∧ c = .int .i64 jj ∧ wx = wr.drewN n) (fun c _ => 3 - (intOf c).toNat)
                  case atStart => exact ⟨kk, 0, Nat.le_refl _, by omega, rfl, rfl⟩
                  case round =>
                    obtain ⟨jj, n, hjk, hj3, rfl, rfl⟩ := hrel
                    by_cases hjj : jj < 3
                    · have q6 : (jj : Int) < 3 := by omega
                      have d1 : wr.cell? ⟨gg, jj, none⟩ = some (V jj) := (HZk.out.cells Hc3.out Hcw.out jj hjj 0).1
                      have d2 : wr.cell? ⟨gg + 1, jj, none⟩ = some (.string ⟨(LL jj).toArray⟩) := (HZk.out.cells Hc3.out Hcw.out jj hjj 0).2.1
                      have d4 : ∀ n', (convert 22 9 (V jj)).run Try.prog (wr.drewN n') = .ok (.string ⟨(LL jj).toArray⟩) (wr.drewN n') := fun n' => (HZk.out.cells Hc3.out Hcw.out jj hjj n').2.2 hjk
                      have d3 : ∀ n', (convert 22 9 (V jj)).run Try.prog ((wr.drewN n).drewN n') = .ok (.string ⟨(LL jj).toArray⟩) ((wr.drewN n).drewN n') := fun n' => ((HZk.out.drewN n).cells Hc3.out Hcw.out jj hjj n').2.2 hjk
                      go_wp2
                      go_quiet (fail)
                      go_wp2
                      go_roundw
                      case rel => exact ⟨jj + 1, _, by omega, by omega, by go_num, rfl⟩
                      case measure => simp [intOf]; omega
                    · have q6 : ¬ (jj : Int) < 3 := by omega
                      have d1 : wr.cell? ⟨gg, kk, none⟩ = some (V kk) := (HZk.out.cells Hc3.out Hcw.out kk hk3 0).1
                      have h30 := (HZk.out.drewN n).keeps hk3 (by rw [HS2.out.1]; omega) (Nat.le_trans (HLn.out kk) (by decide))
                      rw [HS2.out.1] at h30
                      go_wp2_with (first
                        | (go_at_call 44; refine h30.mono ?_; clear h30; rintro e w30 ⟨ad3, cap3, hs3, rfl, hl3, hn3, hZ30⟩)
                        | fail)
                      go_roundw
                      case rel =>
                        refine ⟨kk + 1, ad3, cap3, by omega, by go_num, rfl, hs3, by omega, fun x hx => ?_, hZ30⟩
                        rcases hn3 x hx with e1 | e1
                        · exact HS2.out.2 x e1
                        · have := HLn.out kk; omega
                      case measure => simp [intOf]; omega
                · have q5 : ¬ (kk : Int) < 3 := by omega
                  have hkk3 : kk = 3 := by omega
                  have HWn : Hid (Try.WL w1 wr xa xb xx xy f f2 l m (k + 1) (.slice ka2 (12 * k + 4 * kk) kc2)) := ⟨hs2, by rw [HS2.out.1]; omega, HS2.out.2, by rw [← HLe.out.1, ← HLe.out.2]; exact HZk.out.zoo⟩
                  have Hkk : Hid (12 * k + 4 * kk = 12 * (k + 1)) := (by show _ = _; omega)
                  clear hkk3
                  go_wp2
                  go_roundw
                  case rel => exact ⟨k + 1, ka2, kc2, by omega, by go_num, by rw [Hkk.out], by rw [← Hkk.out]; exact HWn.out⟩
                  case measure => simp [intOf]; omega
        · obtain ⟨hs, hhl, hhn, hZ⟩ := HWL.out
          obtain ⟨LA, hLA⟩ : ∃ LA, LA = tbs f (l.take k) := ⟨_, rfl⟩
          obtain ⟨LB, hLB⟩ : ∃ LB, LB = tbs f2 (m.take k) := ⟨_, rfl⟩
          rw [← hLA, ← hLB] at hZ
          have hbn : ∀ (f : Wi.Th → List Int) (q : List Wi.Th), Full w1 f q → wts f q ≤ 1048576 → (tbs f (q.take k)).length ≤ 1048576 := fun f q hF hw => by
            have e3 := wts_take f q k
            have e4 := (tbs_len w1 f (q.take k) ⟨fun x hx => hF.is x (List.mem_of_mem_take hx), fun x hx => hF.ss x (List.mem_of_mem_take hx), fun x hx => hF.ls x (List.mem_of_mem_take hx), fun x hx => hF.ns x (List.mem_of_mem_take hx)⟩).2
            omega
          have HLl : Hid (LA.length ≤ 1048576 ∧ LB.length ≤ 1048576) := (by
            show LA.length ≤ 1048576 ∧ LB.length ≤ 1048576
            rw [hLA, hLB]; exact ⟨hbn f l HF1.out.1 Hwt.out.1, hbn f2 m HF1.out.2 Hwt.out.2⟩)
          have HH : Hid (hs.length ≤ 1000000 ∧ ∀ x ∈ hs, x.n ≤ 1000000000) := ⟨by omega, hhn⟩
          have h40 := hZ.bytes_a (Nat.le_trans HLl.out.1 (by decide))
          have hcase : (¬ k < 300) ∨ (k < 300 ∧ ¬ k < l.length ∧ ¬ k < m.length) := by omega
          clear hbn hLA hLB HWL hhl hhn hgo
          rcases hcase with h3 | ⟨h3, h4, h5⟩
          case' inl =>
            have q0 : ¬ (k : Int) < 300 := by omega
          case' inr =>
            have q0 : (k : Int) < 300 := by omega
            have q1 : ¬ (k : Int) < (l.length : Int) := by omega
            have q2 : ¬ (k : Int) < (m.length : Int) := by omega
          all_goals
            go_wp2_with (first
              | (go_at_call 22; refine h40.mono ?_; clear h40; rintro e w40 ⟨a0, c0, rfl, hr0, hb40⟩; have hZ40 := hZ.below hb40; have hcv0 := Try.conv_bs (Bs.ofRow hr0); have h41 := hZ40.bytes_b (Nat.le_trans HLl.out.2 (by decide)))
              | (go_at_call 22; refine h41.mono ?_; clear h41; rintro e w41 ⟨a1, c1, rfl, hr1, hb41⟩; have hZ41 := hZ40.below hb41; have hcv1 := Try.conv_bs (Bs.ofRow hr1); have h42 := hZ41.looks HH.out.1 HH.out.2)
              | (go_at_call 45; refine h42.mono ?_; clear h42; rintro e w42 ⟨rfl, n42, rfl⟩; have hZ42 := hZ41.below (belowN (Below.refl _ _) n42); obtain ⟨Vx, Vy, dx, dy, bx, by'⟩ := hZ42.refs; have hcx := Try.conv_bs bx; have hcy := Try.conv_bs by')
              | fail)
            go_ret
            exact ⟨rfl, Hb1.out.trans (hZ42.bel.mono Hb1.out.size)⟩
end Go.Proofs
