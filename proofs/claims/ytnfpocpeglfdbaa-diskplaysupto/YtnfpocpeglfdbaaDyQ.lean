/-
  The world's calls: write, asked.
-/
import Derived.Test.YtnfpocpeglfdbaaDyP
import Derived.Deep.RegionWith
namespace Go.Proofs
open Go.RowKit Go.Dk
theorem Try.Zw.dwrite {B : Nat} {w0 w : World} {wb : Nat} {G : Dk.Gs} {ps : List Dk.Pq} {H : Nat} {rv : Nat → Value} {rb : Nat → List UInt8} (h : Try.Zw B w0 w wb G ps H rv rb) {i c : Nat} {p : Dk.Pq} (hp : ps[i]? = some p) (ho : Ok c p.s) (hc : c ≤ 500000) (q : Int) {g cap : Nat} {b : List UInt8} (hv : rv 0 = .slice (some ⟨g, 0, none⟩) (b.length + 8) cap) (hb : rb 0 = Dk.gv b 8) {s' : DS} {E : Int} (hs : (s', E) = p.s.wr q b) :
    Calls Try.prog 29 #[.pointer (some ⟨p.d, 0, none⟩), .int .i64 q, .slice (some ⟨g, 0, none⟩) b.length cap] w fun e w' => e = .returned (.int .i64 E) ∧ Try.Zw B w0 w' wb G (ps.set i { p with s := s' }) H rv rb := by
  have hrow : ∃ n, w.ownsRow 0 5 1 (.slice (some ⟨g, 0, none⟩) (b.length + 8) cap) n (Lib.byteCells (Dk.gv b 8)) := by
    obtain ⟨tag, lv, kv, hs, g1, -⟩ := h.ex
    have h1 := (g1.rows 0 (by decide)).1
    rw [hv, hb] at h1
    exact ⟨_, h1⟩
  obtain ⟨n, hrow⟩ := hrow
  have hsrc : Dk.Src w (.slice (some ⟨g, 0, none⟩) b.length cap) b := ⟨_, cap, rfl, .inr ⟨g, 0, rfl, (hrow.lt g rfl).2, fun j u hj => by
    have hl := (List.getElem?_eq_some_iff.1 hj).1
    rw [Dk.byteCells_len] at hl
    have h2 : (Lib.byteCells (Dk.gv b 8))[j]? = some u := by
      rw [← hj]
      unfold Dk.gv
      simp only [Lib.byteCells, List.map_append]
      rw [List.getElem?_append_left (by rw [List.length_map]; exact hl)]
    have h3 := hrow.cells (g := g) rfl j u h2
    rw [Addr.add_mid] at h3
    exact h3⟩⟩
  have hs1 : s' = (p.s.wr q b).1 := by rw [← hs]
  have hs2 : E = (p.s.wr q b).2 := by rw [← hs]
  rw [hs1, hs2]
  exact h.dcall hp (R := fun e => e = .returned (.int .i64 (p.s.wr q b).2)) fun l t V hm => Try.write_x hm ho hc q _ cap b hsrc
theorem Try.Zw.rwrite {B : Nat} {w0 w : World} {wb : Nat} {G : Dk.Gs} {ps : List Dk.Pq} {H : Nat} {rv : Nat → Value} {rb : Nat → List UInt8} (h : Try.Zw B w0 w wb G ps H rv rb) {i c : Nat} {p : Dk.Pq} (hp : ps[i]? = some p) (ho : Ok c p.t) (hc : c ≤ 500000) (q : Int) (b : ByteArray) {s' : DS} {E : Int} (hs : (s', E) = p.t.wr q b.data.toList) :
    Calls Try.prog 30 #[.pointer (some ⟨p.r, 0, none⟩), .int .i64 q, .string b] w fun e w' => e = .returned (.int .i64 E) ∧ Try.Zw B w0 w' wb G (ps.set i { p with t := s' }) H rv rb := by
  have hs1 : s' = (p.t.wr q b.data.toList).1 := by rw [← hs]
  have hs2 : E = (p.t.wr q b.data.toList).2 := by rw [← hs]
  rw [hs1, hs2]
  exact h.rcall hp (R := fun e => e = .returned (.int .i64 (p.t.wr q b.data.toList).2)) fun Lv Wv a k t hm => Try.rwrite_x hm ho hc q b
theorem Try.Zw.stills {B : Nat} {w0 w : World} {wb : Nat} {G : Dk.Gs} {ps : List Dk.Pq} {H : Nat} {rv : Nat → Value} {rb : Nat → List UInt8} (h : Try.Zw B w0 w wb G ps H rv rb) {g : Nat} (b : ByteArray) (hs : b.size ≤ 1048576) (hv : rv 0 = .slice (some ⟨g, 0, none⟩) (b.size + 8) (b.size + 8)) (hb : rb 0 = Dk.gv b.data.toList 8) :
    Calls Try.prog 31 #[.slice (some ⟨g, 0, none⟩) (b.size + 8) (b.size + 8), .string b] w fun e w' => e = .returned (.bool true) ∧ Try.Zw B w0 w' wb G ps H rv rb := by
  obtain ⟨tag, lv, kv, hs2, g1, -⟩ := h.ex
  have h1 := (g1.rows 0 (by decide)).1
  rw [hv, hb] at h1
  exact (Try.still_any b hs h1).mono fun _ _ ⟨e1, n, e2⟩ => ⟨e1, by rw [e2]; exact h.below (Go.Wi.belowN (Below.refl _ _) n)⟩
set_option maxRecDepth 4000 in
set_option maxHeartbeats 4000000 in
theorem Try.write_any {B : Nat} {w0 w : World} {wb : Nat} {G : Dk.Gs} {ps : List Dk.Pq} {H : Nat} (h : Try.Zw B w0 w wb G ps H Dk.r0 Dk.b0) {i c : Nat} {p : Dk.Pq} (hp : ps[i]? = some p) (ht : p.t = p.s) (ho : Ok c p.s) (hc : c ≤ 500000) (K N q : Int) (b : ByteArray) (ck ct : Int) (hb : b.size ≤ 1048576) (hH : H ≤ 300000000) :
    Calls Try.prog 11 #[.pointer (some ⟨wb, 0, none⟩), .agg #[.pointer (some ⟨p.d, 0, none⟩), .pointer (some ⟨p.r, 0, none⟩)], .agg #[.int .i64 K, .int .i64 N, .int .i64 q, .string b, .int .i64 ck, .int .i64 ct]] w fun e w' => e = .returned (.bool true) ∧ Try.Zw B w0 w' wb G (ps.set i { p with s := (p.s.wr q b.data.toList).1, t := (p.s.wr q b.data.toList).1 }) (H + 4) Dk.r0 Dk.b0 := by
  obtain ⟨s', hs'⟩ : ∃ s', s' = (p.s.wr q b.data.toList).1 := ⟨_, rfl⟩
  obtain ⟨E, hE⟩ : ∃ s', s' = (p.s.wr q b.data.toList).2 := ⟨_, rfl⟩
  rw [← hs']
  have HS : Hid ((s', E) = p.s.wr q b.data.toList) := by show _ = _; rw [hs', hE]
  have HT : Hid ((s', E) = p.t.wr q b.data.toList) := by show _ = _; rw [ht, hs', hE]
  have Hp : Hid (ps[i]? = some p) := hp
  have Hl : Hid (i < ps.length) := (List.getElem?_eq_some_iff.1 hp).1
  have Ho : Hid (Ok c p.s ∧ c ≤ 500000) := ⟨ho, hc⟩
  have Hot : Hid (Ok c p.t) := by show Ok c p.t; rw [ht]; exact ho
  have Hb : Hid (b.size ≤ 1048576) := hb
  obtain ⟨WA, hWA⟩ : ∃ W1 : World, W1 = w.alloc (.cells #[.pointer (some ⟨p.d, 0, none⟩), .pointer (some ⟨p.r, 0, none⟩)] 44) := ⟨_, rfl⟩
  obtain ⟨W1, hW1⟩ : ∃ W1 : World, W1 = WA.alloc (.cells #[.int .i64 K, .int .i64 N, .int .i64 q, .string b, .int .i64 ck, .int .i64 ct] 33) := ⟨_, rfl⟩
  have hbA : Below w.heap.size w WA := by rw [hWA]; exact (Below.refl _ w).alloc (Nat.le_refl _) _
  have hb1 : Below WA.heap.size WA W1 := by rw [hW1]; exact (Below.refl _ WA).alloc (Nat.le_refl _) _
  have hsz : WA.heap.size = w.heap.size + 1 := by rw [hWA]; simp
  have hxA : WA.heap[w.heap.size]? = some (.cells #[.pointer (some ⟨p.d, 0, none⟩), .pointer (some ⟨p.r, 0, none⟩)] 44 (0, 0)) := by rw [hWA]; exact heap_alloc_new w _
  have ho1 : W1.heap[WA.heap.size]? = some (.cells #[.int .i64 K, .int .i64 N, .int .i64 q, .string b, .int .i64 ck, .int .i64 ct] 33 (0, 0)) := by rw [hW1]; exact heap_alloc_new WA _
  have hZ1 := (h.guest hbA hxA (Nat.le_refl _)).guest hb1 ho1 (Nat.le_refl _)
  have hx1 := hZ1.at (.tail _ (.head _))
  dsimp only at hx1
  rw [hsz] at ho1 hZ1
  rw [hWA] at hW1
  have HW : Hid (W1 = (w.alloc (.cells #[.pointer (some ⟨p.d, 0, none⟩), .pointer (some ⟨p.r, 0, none⟩)] 44)).alloc (.cells #[.int .i64 K, .int .i64 N, .int .i64 q, .string b, .int .i64 ck, .int .i64 ct] 33)) := hW1
  have HG : Hid (∀ x, x ∈ G → x ∈ (w.heap.size + 1, (.cells #[.int .i64 K, .int .i64 N, .int .i64 q, .string b, .int .i64 ck, .int .i64 ct] 33 (0, 0) : Obj)) :: (w.heap.size, (.cells #[.pointer (some ⟨p.d, 0, none⟩), .pointer (some ⟨p.r, 0, none⟩)] 44 (0, 0) : Obj)) :: G) := fun x e => .tail _ (.tail _ e)
  have m1 : (w.heap.size + 1, (.cells #[.int .i64 K, .int .i64 N, .int .i64 q, .string b, .int .i64 ck, .int .i64 ct] 33 (0, 0) : Obj)) ∈ (w.heap.size + 1, (.cells #[.int .i64 K, .int .i64 N, .int .i64 q, .string b, .int .i64 ck, .int .i64 ct] 33 (0, 0) : Obj)) :: (w.heap.size, (.cells #[.pointer (some ⟨p.d, 0, none⟩), .pointer (some ⟨p.r, 0, none⟩)] 44 (0, 0) : Obj)) :: G := .head _
  have m2 : (w.heap.size, (.cells #[.pointer (some ⟨p.d, 0, none⟩), .pointer (some ⟨p.r, 0, none⟩)] 44 (0, 0) : Obj)) ∈ (w.heap.size + 1, (.cells #[.int .i64 K, .int .i64 N, .int .i64 q, .string b, .int .i64 ck, .int .i64 ct] 33 (0, 0) : Obj)) :: (w.heap.size, (.cells #[.pointer (some ⟨p.d, 0, none⟩), .pointer (some ⟨p.r, 0, none⟩)] 44 (0, 0) : Obj)) :: G := .tail _ (.head _)
  generalize (w.heap.size + 1, (.cells #[.int .i64 K, .int .i64 N, .int .i64 q, .string b, .int .i64 ck, .int .i64 ct] 33 (0, 0) : Obj)) :: (w.heap.size, (.cells #[.pointer (some ⟨p.d, 0, none⟩), .pointer (some ⟨p.r, 0, none⟩)] 44 (0, 0) : Obj)) :: G = G2 at hZ1 HG m1 m2
  clear h hb1 hs' hE hp ht ho hc hb hW1 hbA hWA hxA hsz
  clear WA
  go_enter Try.func11, Try.ntmps11
  go_upto_region 1 with fail
  rw [← HW.out]
  clear HW
  obtain ⟨ob, hob⟩ : ∃ ob, ob = w.heap.size + 1 := ⟨_, rfl⟩
  rw [← hob] at ho1 m1 ⊢
  clear hob
  generalize w.heap.size = vb at *
  have M : Hid ((ob, (.cells #[.int .i64 K, .int .i64 N, .int .i64 q, .string b, .int .i64 ck, .int .i64 ct] 33 (0, 0) : Obj)) ∈ G2 ∧ (vb, (.cells #[.pointer (some ⟨p.d, 0, none⟩), .pointer (some ⟨p.r, 0, none⟩)] 44 (0, 0) : Obj)) ∈ G2) := ⟨m1, m2⟩
  clear m1 m2
  have a3 := cell_of_row W1 ob 3 _ _ _ ho1
  have h1 := Try.lent_any b Hb.out W1
  go_upto_region 2 with (first
    | (go_at_call 28; refine h1.mono ?_; clear h1; rintro e w2 ⟨rfl, hg2, hb2⟩)
    | fail)
  have hgl : (Dk.gv b.data.toList 8).length = b.size + 8 := Dk.gv_len _ _ (Nat.le_refl _)
  have Hgl : Hid ((Dk.gv b.data.toList 8).length ≤ 2000000) := by show _ ≤ _; rw [hgl]; have := Hb.out; omega
  have hrow : w2.ownsRow W1.heap.size 5 1 (.slice (some ⟨W1.heap.size, 0, none⟩) (b.size + 8) (b.size + 8)) (Dk.gv b.data.toList 8).length (Lib.byteCells (Dk.gv b.data.toList 8)) := by
    rw [hgl]
    exact Dk.row_block hg2 hgl _ (Nat.le_refl _) (by have := Hb.out; omega)
  have hZ2 := hZ1.row hb2 hrow 0 (by decide)
  clear hrow hg2 hb2 hx1 ho1 hZ1 a3
  generalize W1.heap.size = g at *
  have hx2 := hZ2.at M.out.2
  have ho2 := hZ2.at M.out.1
  dsimp only at hx2 ho2
  have c0 := cell_of_row w2 vb 0 _ _ _ hx2
  have c2 := cell_of_row w2 ob 2 _ _ _ ho2
  have c3 := cell_of_row w2 ob 3 _ _ _ ho2
  have q1 : (b.size : Int) ≤ (b.size : Int) + 8 := by omega
  have q2 : (0 : Int) ≤ (b.size : Int) := by omega
  have q3 : b.size ≤ b.size + 8 := by omega
  have h2 := (hZ2.below ((Below.refl _ w2).drew)).dwrite Hp.out Ho.out.1 Ho.out.2 q (g := g) (cap := b.size + 8) (b := b.data.toList) rfl rfl HS.out
  have h2 : Calls Try.prog 29 #[.pointer (some ⟨p.d, 0, none⟩), .int .i64 q, .slice (some ⟨g, 0, none⟩) b.size (b.size + 8)] w2.drew _ := h2
  clear hgl hx2 ho2 hZ2
  go_region_with (first
    | (go_at_call 29; refine h2.mono ?_; clear h2; rintro e w4 ⟨rfl, hZ4⟩)
    | fail)
  all_goals
    have hx4 := hZ4.at M.out.2
    have ho4 := hZ4.at M.out.1
    dsimp only at hx4 ho4
    have d1 := cell_of_row w4 vb 1 _ _ _ hx4
    have d2 := cell_of_row w4 ob 2 _ _ _ ho4
    have d3 := cell_of_row w4 ob 3 _ _ _ ho4
    have h3 := hZ4.rwrite (p := { p with s := s' }) (s' := s') (E := E) (c := c) (List.getElem?_set_self Hl.out) Hot.out Ho.out.2 q b HT.out
    clear hx4 ho4 hZ4 c0 c2 c3 q1 q2 q3
    go_upto_region 4 with (first
      | (go_at_call 30; refine h3.mono ?_; clear h3; rintro e w5 ⟨rfl, hZ5⟩)
      | fail)
    have ho5 := hZ5.at M.out.1
    dsimp only at ho5
    have f3 := cell_of_row w5 ob 3 _ _ _ ho5
    have h4 := hZ5.stills (g := g) b Hb.out rfl rfl
    clear ho5 hZ5 d1 d2 d3
    go_upto_region 5 with (first
      | (go_at_call 31; refine h4.mono ?_; clear h4; rintro e w6 ⟨rfl, hZ6⟩)
      | fail)
    have h5 := hZ6.keeps 0 (by decide) (by omega) (by show (Dk.gv b.data.toList 8).length ≤ _; exact Hgl.out) (V := .slice (some ⟨g, 0, none⟩) (b.size + 8) (b.size + 8)) rfl
    clear hZ6 f3
    go_wp2_with (first
      | (go_at_call 27; refine h5.mono ?_; clear h5; rintro e w7 ⟨⟨v7, rfl⟩, hZ7⟩)
      | fail)
    go_ret
    refine ⟨by simp, ?_⟩
    have e1 : Dk.upd (Dk.upd Dk.r0 0 (.slice (some ⟨g, 0, none⟩) (b.size + 8) (b.size + 8))) 0 (.slice none 0 0) = Dk.r0 := by
      funext m
      simp only [Dk.r0, Dk.upd]
      split <;> rfl
    have e2 : Dk.upd (Dk.upd Dk.b0 0 (Dk.gv b.data.toList 8)) 0 [] = Dk.b0 := by
      funext m
      simp only [Dk.b0, Dk.upd]
      split <;> rfl
    rw [e1, e2, List.set_set] at hZ7
    exact hZ7.less HG.out
end Go.Proofs
