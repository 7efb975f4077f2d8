/-
  Laid together by pack.py of Sah Sai.
-/
import Derived.Test.YtobcdneeonkalaaGreatDoorPkW
import Derived.Deep.SlicePairs
import Derived.OpenShut
import Derived.SizedLaws
import Derived.Carry
namespace Go.Qu
open Go.RowKit Go.Wi
/-- A row, in no block if it has no room. -/
structure Row (T : TypeId) (w : World) (v : Value) (g : Option Nat) (xs : List Value) : Prop where
  ex : (∃ a, v = .slice a 0 0 ∧ xs = [] ∧ g = none) ∨ ∃ k o cap cur, v = .slice (some ⟨k, o, none⟩) xs.length cap ∧ g = some k ∧ w.heap[k]? = some (.cells cur T (0, 0)) ∧ xs.length ≤ cap ∧ 0 < cap ∧ cur.size = o + cap ∧ ∀ j u, xs[j]? = some u → cur[o + j]? = some u
theorem Row.keep {T : TypeId} {w w' : World} {v : Value} {g : Option Nat} {xs : List Value} (h : Row T w v g xs) (hk : ∀ k, g = some k → w'.heap[k]? = w.heap[k]?) : Row T w' v g xs := by
  rcases h.ex with h1 | ⟨k, o, cap, cur, h1, h2, h3, h4⟩
  · exact ⟨.inl h1⟩
  · exact ⟨.inr ⟨k, o, cap, cur, h1, h2, (hk k h2).trans h3, h4⟩⟩
theorem Row.nil (T : TypeId) (w : World) : Row T w (.slice none 0 0) none [] := ⟨.inl ⟨none, rfl, rfl, rfl⟩⟩
theorem Row.form {T : TypeId} {w : World} {v : Value} {g : Option Nat} {xs : List Value} (h : Row T w v g xs) : ∃ a cap, v = .slice a xs.length cap := by
  rcases h.ex with ⟨a, h1, rfl, _⟩ | ⟨k, o, cap, cur, h1, _⟩
  · exact ⟨a, 0, h1⟩
  · exact ⟨_, cap, h1⟩
theorem Row.lt {T : TypeId} {w : World} {v : Value} {g : Option Nat} {xs : List Value} (h : Row T w v g xs) {k : Nat} (hk : g = some k) : k < w.heap.size := by
  rcases h.ex with ⟨a, h1, rfl, h2⟩ | ⟨k, o, cap, cur, h1, h2, h3, _⟩
  · rw [h2] at hk; cases hk
  · rw [h2] at hk; cases hk; exact block_lt h3
/-- What an append leaves. -/
structure App (T : TypeId) (w w' : World) (v : Value) (g : Option Nat) (xs : List Value) : Prop where
  ex : ∃ g', Row T w' v g' xs ∧ (g' = g ∨ ∃ k, g' = some k ∧ w.heap.size ≤ k)
  wo : Wo (fun k => g = some k) w w'
theorem app_one {P : Program} {ops : Array Oper} {rest : List Oper} {o : Oper} {a : Act} {Q : Exit → Act → World → Prop} (hgd : o.guard = none) (s y : Operand) {t e : TypeId} {i : TypeInfo} {z : Value} {bytes : Nat}
    (ho : o.op = .call { callee := .builtin .append, args := #[s, y], argTypes := #[t, t] }) (ht : P.underlying t = some (.slice e)) (hi : P.info? e = some i) (hz : i.zero = some z) (hsz : i.size = 1) (hby : i.bytes = bytes) (hzs : z.cells.size = 1) (hb16 : bytes ≤ 16)
    {w : World} {v x : Value} {g : Option Nat} {xs : List Value} (h : Row e w v g xs) (hn : xs.length ≤ 1000000) (hs : a.eval s = v) (hy : a.eval y = .slice (some ⟨w.heap.size, 0, none⟩) 1 1) (h1 : x.oneCell' = true)
    (hK : ∀ ad n cap w1, App e w w1 (.slice ad n cap) g (xs ++ [x]) → wpList P ops Q rest (a.put o.dst (.slice ad n cap)) w1) : wpList P ops Q (o :: rest) a (w.alloc (.cells #[x] e)) := by
  have hb0 := (Below.refl w.heap.size w).alloc (Nat.le_refl _) (.cells #[x] e)
  have hsize : (w.alloc (.cells #[x] e)).heap.size = w.heap.size + 1 := by simp
  have hnews : ∀ (j : Nat) u, [x][j]? = some u → (w.alloc (.cells #[x] e)).cell? ((⟨w.heap.size, 0, none⟩ : Addr).add j) = some u := World.news_of_block (cs := #[x]) (t := e) (fr := (0, 0)) (heap_alloc_new w _)
  have hone : ∀ u ∈ [x], u.oneCell' = true := fun u hu => by rw [List.mem_singleton.1 hu]; exact h1
  have hbb : (xs.length + 1) * bytes ≤ 140737488355328 := by
    have := Nat.mul_le_mul (show xs.length + 1 ≤ 1000001 by omega) hb16
    omega
  have grown : ∀ v' w', w'.ownsRow (w.alloc (.cells #[x] e)).heap.size e 1 v' (xs.length + 1) (xs ++ [x]) → (w.alloc (.cells #[x] e)).grownBy w' none → wpList P ops Q rest (a.put o.dst v') w' := by
    intro v' w' hown hgr
    have hbel : Below w.heap.size w w' := hb0.grown hgr (by simp) (fun k hk => by cases hk)
    rcases hown.2 with ⟨_, e0⟩ | ⟨k, cap, cur, rfl, hB, hg, a1, a2, a3, a4⟩
    · omega
    · have hl : (xs ++ [x]).length = xs.length + 1 := by simp
      refine hK _ _ _ w' ⟨⟨some k, ⟨.inr ⟨k, 0, cap, cur, by rw [hl], rfl, hg, by omega, by omega, by omega, fun j u hj => ?_⟩⟩, .inr ⟨k, rfl, by omega⟩⟩, Wo.ofBelow hbel⟩
      rw [← a4, List.getElem?_take] at hj
      split at hj
      · rw [Nat.zero_add, ← Array.getElem?_toList]; exact hj
      · cases hj
  rcases h.ex with ⟨ao, rfl, rfl, rfl⟩ | ⟨k, of, cap, cur, rfl, rfl, h3, h4, h5, h6, h7⟩
  · refine wpList_append_grows _ hgd s y t ho e i z 1 bytes ht hi hz hsz hby hzs (by omega) ao 0 0 [] hs (fun _ => ⟨rfl, rfl⟩) rfl (fun b _ j u hj => by simp at hj) ⟨w.heap.size, 0, none⟩ 1 1 [x] hy rfl hnews hone (by omega) (by unfold maxLen; omega) (by simpa using hbb) ?_
    simpa using grown
  · have hkl := block_lt h3
    have h3' : (w.alloc (.cells #[x] e)).heap[k]? = some (.cells cur e (0, 0)) := (hb0.block k hkl).trans h3
    refine wpList_append_arg _ hgd s y t ho e i z 1 bytes ht hi hz hsz hby hzs (by omega) k of xs.length cap xs hs (by omega) (fun j u hj => by rw [cell_of_row _ _ _ _ _ _ h3']; exact h7 j u hj) ⟨w.heap.size, 0, none⟩ 1 1 [x] hy rfl hnews hone (fun hc j hj => ?_) (by unfold maxLen; omega) hbb (fun hc => ?_) (fun _ => grown)
    · simp only [List.length_cons, List.length_nil] at hj
      refine ⟨?_, frozen_of_row _ _ _ _ _ h3'⟩
      rw [cell_of_row _ _ _ _ _ _ h3', Array.getElem?_eq_getElem (by omega)]; rfl
    · refine hK _ _ _ _ ⟨⟨some k, ⟨.inr ⟨k, of, cap, _, by simp, rfl, heap_setCell_same _ k _ cur e x h3', by simp; omega, h5, by simp; omega, fun j u hj => ?_⟩⟩, .inl rfl⟩, ?_⟩
      · rw [Nat.mul_one]
        by_cases e1 : j = xs.length
        · subst e1
          rw [Array.getElem?_setIfInBounds_self_of_lt (by omega)]
          simpa using hj
        · rw [Array.getElem?_setIfInBounds_ne (by omega)]
          refine h7 j u ?_
          have hl := (List.getElem?_eq_some_iff.1 hj).1
          simp at hl
          rwa [List.getElem?_append_left (by omega)] at hj
      · exact ((Wo.refl _ w).alloc _).setCell k _ x (.inl rfl)
end Go.Qu
namespace Go.Proofs
open Go.RowKit Go.ChangeShapes Go.WideShapes Go.Deep Go.Qu
/-- Numbers that lie somewhere. -/
structure Qu.Iv (w : World) (v : Value) (l : List Int) : Prop where
  ex : ∃ a cap, v = .slice a l.length cap ∧ (l = [] ∨ ∃ g o, a = some ⟨g, o, none⟩ ∧ g < w.heap.size ∧ ∀ j (hj : j < l.length), w.cell? ⟨g, o + j, none⟩ = some (.int .i64 l[j]))
  ib : ∀ n ∈ l, -9223372036854775808 ≤ n ∧ n ≤ 9223372036854775807
theorem Qu.Iv.keep {W W' : World} {v : Value} {l : List Int} (h : Qu.Iv W v l) (hb : Below W.heap.size W W') : Qu.Iv W' v l := by
  obtain ⟨⟨a, c, h1, h2⟩, h3⟩ := h
  refine ⟨⟨a, c, h1, ?_⟩, h3⟩
  rcases h2 with h2 | ⟨g, o, e, hg, h4⟩
  · exact .inl h2
  · exact .inr ⟨g, o, e, Nat.lt_of_lt_of_le hg hb.size, fun j hj => (hb.cell (p := ⟨g, o + j, none⟩) hg).trans (h4 j hj)⟩
theorem Tryz.cellsInt : Tryz.prog.cellsOf 3 = 1 := by kernel_rfl
theorem Tryz.bytesInt : Tryz.prog.bytesOf 3 = 8 := by kernel_rfl
theorem Tryz.open_ints {H : Type} {enc : TypeId × Value → H} {W : World} {a0 : Option Addr} {len cap fuel : Nat} {x : DataW H × List MemPlace}
    (hf : DataW.trod enc Tryz.prog W 0 (fun _ => true) true fuel 22 [.slice a0 len cap] = some x) : ∃ l : List Int, Qu.Iv W (.slice a0 len cap) l ∧ (l.length = 0 ∨ ∃ el sp, x.1 = .slice el sp ∧ el.length = l.length) := by
  rcases open_slice Tryz.underlying22 hf with ⟨hcs, -⟩ | ⟨a, len', cap', m, n, D, Pl, hcs, _, hl, hm, hmm, hxx, hx⟩
  · simp at hcs
    obtain ⟨rfl, rfl, rfl⟩ := hcs
    exact ⟨[], ⟨⟨none, 0, rfl, .inl rfl⟩, fun n hn => by simp at hn⟩, .inl rfl⟩
  · simp at hcs
    obtain ⟨rfl, rfl, rfl⟩ := hcs
    have hm' : m = cap := by simpa using hmm
    subst hm'
    obtain ⟨b, off, spot⟩ := a
    have each : ∀ i, i < m → ∃ c : Int, W.cell? ((⟨b, off, spot⟩ : Addr).add i) = some (.int .i64 c) ∧ -9223372036854775808 ≤ c ∧ c ≤ 9223372036854775807 := by
      intro i hi
      obtain ⟨cs', h1, h2⟩ := hx i hi
      rw [Tryz.cellsInt, Nat.mul_one] at h1
      obtain ⟨_, hlen, hcell⟩ := World.cells?_some h1
      obtain ⟨n0, e0, -, b0⟩ := DataW.trod_int Tryz.underlying3 h2
      have d0 := hcell 0 (by omega)
      rw [add_add] at d0
      subst e0
      exact ⟨n0, by simpa using d0, bounds_i64 b0⟩
    obtain ⟨q, hq⟩ := choose_lt each
    have hll : ((List.range len).map q).length = len := by simp
    refine ⟨(List.range len).map q, ⟨⟨some ⟨b, off, spot⟩, m, by rw [hll], ?_⟩, fun n hn => ?_⟩, .inr ⟨_, _, by rw [hxx], by rw [hll]; simp⟩⟩
    · by_cases h0 : len = 0
      · subst h0; exact .inl rfl
      · have hc0 := (hq 0 (by omega)).1
        have hspot : spot = none := by simpa [Addr.add] using World.cell?_spot hc0
        subst hspot
        refine .inr ⟨b, off, rfl, World.block_lt_of_cell? _ _ (by simpa [Addr.add] using hc0), fun j hj => ?_⟩
        rw [hll] at hj
        have h1 := (hq j (by omega)).1
        rw [Addr.add_mid] at h1
        rw [h1]
        simp
    · obtain ⟨i, hi, rfl⟩ := List.mem_map.1 hn
      exact (hq i (by have := List.mem_range.1 hi; omega)).2
theorem Tryz.sized_ints {H : Type} {ts : List TypeId} {ds : List (DataW H)} (hsz : (DataW.weightsEach Tryz.prog ts ds).all (· ≤ reachBytes) = true) {j : Nat} {l : List Int} {d : DataW H} (ht : ts[j]? = some 22) (hd : ds[j]? = some d) (h : l.length = 0 ∨ ∃ el sp, d = .slice el sp ∧ el.length = l.length) : l.length ≤ 140737488351232 := by
  rcases h with e | ⟨el, sp, e1, e2⟩
  · omega
  · have := sized_slice hsz (j := j) (t := 22) (elems := el) (spare := sp) ht (by rw [hd, e1]) Tryz.underlying22
    rw [Tryz.bytesInt, e2] at this
    have hr : reachBytes = 140737488351232 := by decide
    omega
end Go.Proofs
namespace Go.Proofs
open Go.RowKit Go.Wi Go.Se Go.Ct Go.Dg
/-- The due of "@a", nought where there is none. -/
def Se.Due (D : List (ByteArray × Int)) (d : Int) : Prop := (D = [] ∧ d = 0) ∨ D = [(Se.ua, d)]
/-- What holds of the times at which one was let. -/
structure Se.Rin (r M T d : Int) (D : List (ByteArray × Int)) (xs : List Int) : Prop where
  due : Se.Due D d
  d0 : 0 ≤ d
  d1 : d ≤ T + M + r
  t0 : 0 ≤ T
  g : ∀ i (hi : i < xs.length), 0 ≤ xs[i] ∧ xs[i] ≤ T ∧ xs[i] + ((xs.length : Int) - i) * r ≤ max d T
  p : ∀ i j (hij : i ≤ j) (hj : j < xs.length), xs[i] ≤ xs[j] ∧ ((j : Int) - i) * r ≤ xs[j] - xs[i] + M
theorem Se.Rin.go {r M T d T' : Int} {D : List (ByteArray × Int)} {xs : List Int} (h : Se.Rin r M T d D xs) (hT : T ≤ T') : Se.Rin r M T' d D xs :=
  ⟨h.due, h.d0, by have := h.d1; omega, by have := h.t0; omega, fun i hi => by have := h.g i hi; omega, h.p⟩
theorem Se.Rin.no {r M T d : Int} {D : List (ByteArray × Int)} {xs : List Int} (h : Se.Rin r M T d D xs) : Se.Rin r M T d [(Se.ua, d)] xs :=
  ⟨.inr rfl, h.d0, h.d1, h.t0, h.g, h.p⟩
theorem Se.Rin.let {r M T d : Int} {D : List (ByteArray × Int)} {xs : List Int} (h : Se.Rin r M T d D xs) (hr : 1 ≤ r) (hM : 0 ≤ M) (hq : d - M - T ≤ 0) : Se.Rin r M T (max d T + r) [(Se.ua, max d T + r)] (xs ++ [T]) := by
  have h0 := h.d0
  have h1 := h.t0
  have hl : (xs ++ [T]).length = xs.length + 1 := by simp
  refine ⟨.inr rfl, by omega, by omega, h1, fun i hi => ?_, fun i j hij hj => ?_⟩
  · rw [hl] at hi
    rw [hl, show ((xs.length + 1 : Nat) : Int) - i = ((xs.length : Int) - i) + 1 by omega, Int.add_mul, Int.one_mul]
    by_cases hi' : i < xs.length
    · rw [List.getElem_append_left hi']
      have := h.g i hi'
      omega
    · obtain rfl : i = xs.length := by omega
      rw [List.getElem_append_right (Nat.le_refl _), Int.sub_self, Int.zero_mul]
      simp only [Nat.sub_self, List.getElem_cons_zero]
      omega
  · rw [hl] at hj
    by_cases hj' : j < xs.length
    · rw [List.getElem_append_left hj', List.getElem_append_left (show i < xs.length by omega)]
      exact h.p i j hij hj'
    · obtain rfl : j = xs.length := by omega
      rw [List.getElem_append_right (Nat.le_refl _)]
      simp only [Nat.sub_self, List.getElem_cons_zero]
      by_cases hi' : i < xs.length
      · rw [List.getElem_append_left hi']
        have := h.g i hi'
        omega
      · obtain rfl : i = xs.length := by omega
        rw [List.getElem_append_right (Nat.le_refl _), Int.sub_self, Int.zero_mul]
        simp only [Nat.sub_self, List.getElem_cons_zero]
        omega
theorem Se.Rin.nil (r M : Int) (hr : 1 ≤ r) (hM : 0 ≤ M) : Se.Rin r M 0 0 [] [] :=
  ⟨.inl ⟨rfl, rfl⟩, by omega, by omega, by omega, fun i hi => by simp at hi, fun i j _ hj => by simp at hj⟩
/-- The law's own test. -/
theorem Se.Rin.rare {b r M T d : Int} {D : List (ByteArray × Int)} {xs : List Int} (h : Se.Rin r M T d D xs) (hr : 1 ≤ r) (hM : M = (b - 1) * r) {i j : Nat} (hij : i ≤ j) (hj : j < xs.length) : ¬ b + (xs[j] - xs[i]) / r + 1 < (j : Int) - i + 1 := by
  obtain ⟨_, h1⟩ := h.p i j hij hj
  rw [hM] at h1
  have h2 : ((j : Int) - i - (b - 1)) * r ≤ xs[j] - xs[i] := by rw [Int.sub_mul]; omega
  have h3 := (Int.le_ediv_iff_mul_le (show 0 < r by omega)).2 h2
  omega
structure Tryz.KR (w0 w : World) (kb : Nat) (n : Nu) (D : List (ByteArray × Int)) (V : Value) (xs : List Int) : Prop where
  ex : ∃ own g, Tryz.Kp w own kb Se.key0 n [] none D ∧ (∀ k, own k → w0.heap.size ≤ k) ∧ Qu.Row 3 w V g (xs.map (Value.int .i64)) ∧ ∀ k, g = some k → w0.heap.size ≤ k ∧ ¬ own k
  bel : Below w0.heap.size w0 w
theorem Tryz.KR.ofKH {w0 w : World} {kb : Nat} {n : Nu} {D : List (ByteArray × Int)} (h : Tryz.KH w0 w kb Se.key0 n [] none D []) : Tryz.KR w0 w kb n D (.slice none 0 0) [] := by
  obtain ⟨own, q1, q2, q3⟩ := h.ex
  exact ⟨⟨own, none, q1, q2, Qu.Row.nil _ _, fun k e => by cases e⟩, h.bel⟩
theorem Tryz.KR.below {w0 w w' : World} {kb : Nat} {n : Nu} {D : List (ByteArray × Int)} {V : Value} {xs : List Int} (h : Tryz.KR w0 w kb n D V xs) (g : Below w.heap.size w w') : Tryz.KR w0 w' kb n D V xs := by
  obtain ⟨own, gg, q1, q2, q3, q4⟩ := h.ex
  exact ⟨⟨own, gg, q1.keep (fun k e => g.block k (q1.lt k e)) g.size, q2, q3.keep fun k e => g.block k (q3.lt e), q4⟩, h.bel.trans (g.mono h.bel.size)⟩
theorem Tryz.KR.chg {w0 w w' : World} {own : Nat → Prop} {g : Option Nat} {kb : Nat} {n' : Nu} {D' : List (ByteArray × Int)} {V : Value} {xs : List Int} (hb : Below w0.heap.size w0 w) (q2 : ∀ k, own k → w0.heap.size ≤ k) (q3 : Qu.Row 3 w V g (xs.map (Value.int .i64))) (q4 : ∀ k, g = some k → w0.heap.size ≤ k ∧ ¬ own k) (hc : Tryz.KChg own w w' kb Se.key0 n' [] none D') : Tryz.KR w0 w' kb n' D' V xs := by
  obtain ⟨own', r1, r2⟩ := hc.ex
  have hs := hb.size
  refine ⟨⟨own', g, r1, fun k e => ?_, q3.keep fun k e => hc.wo.block k (q3.lt e) (q4 k e).2, fun k e => ⟨(q4 k e).1, fun e' => ?_⟩⟩, Wo.toBelow hb hc.wo q2 hs⟩
  · rcases r2 k e with e1 | e1
    · exact q2 k e1
    · omega
  · rcases r2 k e' with e1 | e1
    · exact (q4 k e).2 e1
    · have := q3.lt e
      omega
/-- One number more in the row. -/
theorem Tryz.KR.more {w0 w w' : World} {own : Nat → Prop} {g : Option Nat} {kb : Nat} {n : Nu} {D : List (ByteArray × Int)} {V' : Value} {xs : List Int} {x : Int} (hb : Below w0.heap.size w0 w) (q1 : Tryz.Kp w own kb Se.key0 n [] none D) (q2 : ∀ k, own k → w0.heap.size ≤ k) (q4 : ∀ k, g = some k → w0.heap.size ≤ k ∧ ¬ own k) (ha : Qu.App 3 w w' V' g (xs.map (Value.int .i64) ++ [.int .i64 x])) : Tryz.KR w0 w' kb n D V' (xs ++ [x]) := by
  obtain ⟨g', r1, r2⟩ := ha.ex
  have hs := hb.size
  refine ⟨⟨own, g', q1.keep (fun k e => ha.wo.block k (q1.lt k e) fun e' => (q4 k e').2 e) ha.wo.size, q2, by rw [List.map_append]; exact r1, fun k e => ?_⟩, Wo.toBelow hb ha.wo (fun k e => (q4 k e).1) hs⟩
  rcases r2 with rfl | ⟨k', rfl, hk'⟩
  · exact q4 k e
  · cases e
    exact ⟨by omega, fun e' => by have := q1.lt _ e'; omega⟩
theorem Tryz.KR.cells {w0 w : World} {kb : Nat} {n : Nu} {D : List (ByteArray × Int)} {V : Value} {xs : List Int} (h : Tryz.KR w0 w kb n D V xs) : ∃ a cap, V = .slice a xs.length cap ∧ (xs = [] ∨ ∃ g o, a = some ⟨g, o, none⟩ ∧ g < w.heap.size ∧ ∀ j (hj : j < xs.length), w.cell? ⟨g, o + j, none⟩ = some (.int .i64 xs[j])) := by
  obtain ⟨own, g, q1, q2, q3, q4⟩ := h.ex
  rcases q3.ex with ⟨a, rfl, e2, _⟩ | ⟨k, o, cap, cur, rfl, e2, e3, e4, e5, e6, e7⟩
  · rw [List.map_eq_nil_iff] at e2
    subst e2
    exact ⟨a, 0, rfl, .inl rfl⟩
  · refine ⟨_, cap, by rw [List.length_map], .inr ⟨k, o, rfl, block_lt e3, fun j hj => ?_⟩⟩
    rw [cell_of_row _ _ _ _ _ _ e3]
    exact e7 j _ (by rw [List.getElem?_map, List.getElem?_eq_getElem hj]; rfl)
theorem Tryz.infoI : (Tryz.prog.info? 3).map (fun i => (i.zero, i.size, i.bytes)) = some (some (Value.int .i64 (0 : Int)), 1, 8) := by kernel_rfl
theorem Se.left_due {D : List (ByteArray × Int)} {d : Int} (h : Se.Due D d) (hd : 0 ≤ d) (T : Int) (hT : 0 ≤ T) : ∃ D', Tryz.Left D D' T ∧ ((D' = [] ∧ d ≤ T) ∨ (D' = [(Se.ua, d)] ∧ T < d)) := by
  rcases h with ⟨rfl, rfl⟩ | rfl
  · exact ⟨[], .inl ⟨rfl, rfl⟩, .inl ⟨rfl, hT⟩⟩
  · by_cases h : T < d
    · exact ⟨_, .inr (.inl ⟨_, _, rfl, h, rfl⟩), .inr ⟨rfl, h⟩⟩
    · exact ⟨[], .inr (.inr ⟨_, _, rfl, by omega, rfl⟩), .inl ⟨rfl, by omega⟩⟩
theorem Tryz.KR.yes {w0 w : World} {kb : Nat} {b r T0 gv : Int} {D : List (ByteArray × Int)} {V : Value} {xs : List Int} (h : Tryz.KR w0 w kb ⟨10, b, r, T0, gv⟩ D V xs) (hm : Se.Nu.May ⟨10, b, r, T0, gv⟩) {d T M : Int} (hD : Se.Due D d) (hd0 : 0 ≤ d) (hd1 : d ≤ 4000000000) (hT0 : 0 ≤ T0) (hT : T0 ≤ T) (hT1 : T ≤ 1000000000) (hM : M = (b - 1) * r) (hM0 : 0 ≤ M) (hq : d - M - T ≤ 0) :
    Calls Tryz.prog 10 #[.pointer (some ⟨kb, 0, none⟩), .string ⟨#[64, 97]⟩, .int .i64 T] w fun e w' => e = .returned (.tuple #[.bool true, .int .i64 0]) ∧ Tryz.KR w0 w' kb ⟨10, b, r, T, gv⟩ [(Se.ua, max d T + r)] V xs := by
  obtain ⟨own, g, q1, q2, q3, q4⟩ := h.ex
  obtain ⟨D', hl, hD'⟩ := Se.left_due hD hd0 T (by omega)
  have ht : max T T0 = T := by omega
  have hz : (D' = [] ∨ ∃ d, D' = [(Se.ua, d)]) ∧ 0 ≤ Se.dueOf D' ∧ Se.dueOf D' ≤ 4000000000 ∧ Se.dueOf D' - M - T ≤ 0 ∧ max (Se.dueOf D') T = max d T := by
    rcases hD' with ⟨rfl, h1⟩ | ⟨rfl, h1⟩
    · refine ⟨.inl rfl, ?_, ?_, ?_, ?_⟩ <;> show _ <;> simp only [Se.dueOf] <;> omega
    · refine ⟨.inr ⟨_, rfl⟩, ?_, ?_, ?_, ?_⟩ <;> simp only [Se.dueOf] <;> omega
  obtain ⟨z1, z2, z3, z4, z5⟩ := hz
  refine (Tryz.allow_in q1 hm hT0 (by show T0 ≤ 1000000000; omega) Se.ua (by decide) (by decide) T (by omega) hT1 (.inl rfl) (by show Tryz.Left D D' (max T T0); rw [ht]; exact hl) z1 z2 z3).mono fun e w' hh => ?_
  have hh2 : if Se.dueOf D' - (b - 1) * r - max T T0 > 0 then e = .returned (.tuple #[.bool false, .int .i64 (Se.dueOf D' - (b - 1) * r - max T T0)]) ∧ Tryz.KChg own w w' kb Se.key0 ⟨10, b, r, max T T0, gv⟩ [] none D'
      else e = .returned (.tuple #[.bool true, .int .i64 0]) ∧ Tryz.KChg own w w' kb Se.key0 ⟨10, b, r, max T T0, gv⟩ [] none [(Se.ua, max (Se.dueOf D') (max T T0) + r)] := hh
  rw [ht, ← hM, if_neg (by omega), z5] at hh2
  exact ⟨hh2.1, Tryz.KR.chg h.bel q2 q3 q4 hh2.2⟩
theorem Tryz.KR.no {w0 w : World} {kb : Nat} {b r T0 gv : Int} {D : List (ByteArray × Int)} {V : Value} {xs : List Int} (h : Tryz.KR w0 w kb ⟨10, b, r, T0, gv⟩ D V xs) (hm : Se.Nu.May ⟨10, b, r, T0, gv⟩) {d T M N : Int} (hD : Se.Due D d) (hd0 : 0 ≤ d) (hd1 : d ≤ 4000000000) (hT0 : 0 ≤ T0) (hT : T0 ≤ T) (hT1 : T ≤ 1000000000) (hM : M = (b - 1) * r) (hM0 : 0 ≤ M) (hN : N = d - M - T) (hq : 0 < N) :
    Calls Tryz.prog 10 #[.pointer (some ⟨kb, 0, none⟩), .string ⟨#[64, 97]⟩, .int .i64 T] w fun e w' => e = .returned (.tuple #[.bool false, .int .i64 N]) ∧ Tryz.KR w0 w' kb ⟨10, b, r, T, gv⟩ [(Se.ua, d)] V xs := by
  obtain ⟨own, g, q1, q2, q3, q4⟩ := h.ex
  obtain ⟨D', hl, hD'⟩ := Se.left_due hD hd0 T (by omega)
  have ht : max T T0 = T := by omega
  obtain rfl : D' = [(Se.ua, d)] := by
    rcases hD' with ⟨_, h1⟩ | ⟨h1, _⟩
    · omega
    · exact h1
  refine (Tryz.allow_in q1 hm hT0 (by show T0 ≤ 1000000000; omega) Se.ua (by decide) (by decide) T (by omega) hT1 (.inl rfl) (by show Tryz.Left D _ (max T T0); rw [ht]; exact hl) (.inr ⟨_, rfl⟩) hd0 hd1).mono fun e w' hh => ?_
  have hh2 : if d - (b - 1) * r - max T T0 > 0 then e = .returned (.tuple #[.bool false, .int .i64 (d - (b - 1) * r - max T T0)]) ∧ Tryz.KChg own w w' kb Se.key0 ⟨10, b, r, max T T0, gv⟩ [] none [(Se.ua, d)]
      else e = .returned (.tuple #[.bool true, .int .i64 0]) ∧ Tryz.KChg own w w' kb Se.key0 ⟨10, b, r, max T T0, gv⟩ [] none [(Se.ua, max d (max T T0) + r)] := hh
  rw [ht, ← hM, if_pos (by omega), ← hN] at hh2
  exact ⟨hh2.1, Tryz.KR.chg h.bel q2 q3 q4 hh2.2⟩
/-- Another one is let. -/
theorem Tryz.KR.other {w0 w : World} {kb : Nat} {b r T gv : Int} {D : List (ByteArray × Int)} {V : Value} {xs : List Int} (h : Tryz.KR w0 w kb ⟨10, b, r, T, gv⟩ D V xs) (hm : Se.Nu.May ⟨10, b, r, T, gv⟩) {d M : Int} (hD : Se.Due D d) (hd0 : 0 ≤ d) (hT0 : 0 ≤ T) (hT1 : T ≤ 1000000000) (hM : M = (b - 1) * r) (hM0 : 0 ≤ M) :
    Calls Tryz.prog 10 #[.pointer (some ⟨kb, 0, none⟩), .string ⟨#[64, 98]⟩, .int .i64 T] w fun e w' => e = .returned (.tuple #[.bool true, .int .i64 0]) ∧ Below w0.heap.size w0 w' := by
  obtain ⟨own, g, q1, q2, q3, q4⟩ := h.ex
  obtain ⟨D', hl, hD'⟩ := Se.left_due hD hd0 T (by omega)
  have ht : max T T = T := by omega
  rcases hD' with ⟨rfl, h1⟩ | ⟨rfl, h1⟩
  · refine (Tryz.allow_in q1 hm hT0 hT1 ⟨#[64, 98]⟩ (by decide) (by decide) T hT0 hT1 (.inl rfl) (by show Tryz.Left D _ (max T T); rw [ht]; exact hl) (.inl rfl) (Int.le_refl 0) (by decide)).mono fun e w' hh => ?_
    have hh2 : if 0 - (b - 1) * r - max T T > 0 then e = .returned (.tuple #[.bool false, .int .i64 (0 - (b - 1) * r - max T T)]) ∧ Tryz.KChg own w w' kb Se.key0 ⟨10, b, r, max T T, gv⟩ [] none []
      else e = .returned (.tuple #[.bool true, .int .i64 0]) ∧ Tryz.KChg own w w' kb Se.key0 ⟨10, b, r, max T T, gv⟩ [] none [(⟨#[64, 98]⟩, max 0 (max T T) + r)] := hh
    rw [ht, ← hM, if_neg (by omega)] at hh2
    exact ⟨hh2.1, Wo.toBelow h.bel hh2.2.wo q2 h.bel.size⟩
  · exact (Tryz.allow_other (x := Se.ua) (d := d) q1 hm hT0 hT1 ⟨#[64, 98]⟩ (by decide) (by decide) (by decide) (by decide) T hT0 hT1 (.inl rfl) (by show Tryz.Left D _ (max T T); rw [ht]; exact hl)).mono fun e w' ⟨e1, e2⟩ => ⟨e1, Wo.toBelow h.bel e2 q2 h.bel.size⟩
end Go.Proofs
