/-
  Laid together by packg.py of OaK OqA OqB OqC.
-/
import Derived.Test.YtbnokhaimcpggaaRaB
import Derived.Test.YtbnokhaimcpggaaEi
import Derived.Test.YtbnokhaimcpggaaEc
import Derived.Deep.AppendLies
import Derived.Deep.DeepCutAuto
import Derived.Deep.QuietTactic
namespace Go.Proofs
open Go.RowKit Go.Dk
/-- Rows of bytes, each in a block of its own, in a row. -/
structure Try.Rws (w : World) (B : Nat) (V : Value) (recs : List (List UInt8)) : Prop where
  ex : ∃ vs : List Value, w.ownsRow B 22 1 V recs.length vs ∧ ∀ (i : Nat) (d : List UInt8), recs[i]? = some d → ∃ (g cap : Nat), vs[i]? = some (Value.slice (some ⟨g, 0, none⟩) d.length cap) ∧ B ≤ g ∧ V.ownBlock ≠ some g ∧ Dk.Src w (.slice (some ⟨g, 0, none⟩) d.length cap) d ∧ g < w.heap.size
theorem Dk.srcKeep {w w' : World} {g o n c : Nat} {d : List UInt8} (h : Dk.Src w (.slice (some ⟨g, o, none⟩) n c) d) (hb : w'.heap[g]? = w.heap[g]?) (hs : w.heap.size ≤ w'.heap.size) : Dk.Src w' (.slice (some ⟨g, o, none⟩) n c) d := by
  obtain ⟨ad, cap, e, h1⟩ := h.ex
  refine ⟨ad, cap, e, ?_⟩
  rcases h1 with h1 | ⟨sb, so, e1, e2, e3⟩
  · exact .inl h1
  · cases e
    cases e1
    exact .inr ⟨g, o, rfl, by omega, fun j u hj => (World.cell?_of_block (a := ⟨g, o + j, none⟩) hb).trans (e3 j u hj)⟩
theorem Try.Rws.keep {w w' : World} {B : Nat} {V : Value} {recs : List (List UInt8)} (h : Try.Rws w B V recs) (hk : ∀ k, B ≤ k → k < w.heap.size → w'.heap[k]? = w.heap[k]?) (hs : w.heap.size ≤ w'.heap.size) : Try.Rws w' B V recs := by
  obtain ⟨vs, h1, h2⟩ := h.ex
  refine ⟨vs, Dk.row_heap h1 fun k e => hk k (h1.lt k e).1 (h1.lt k e).2, fun i d hd => ?_⟩
  obtain ⟨g, cap, e1, e2, e3, e4, e5⟩ := h2 i d hd
  exact ⟨g, cap, e1, e2, e3, Dk.srcKeep e4 (hk g e2 e5) hs, by omega⟩
theorem Try.Rws.mono {w : World} {B B' : Nat} {V : Value} {recs : List (List UInt8)} (h : Try.Rws w B V recs) (hB : B' ≤ B) : Try.Rws w B' V recs := by
  obtain ⟨vs, h1, h2⟩ := h.ex
  refine ⟨vs, ⟨h1.1, h1.2.imp id fun ⟨g, c, cur, e1, e2, e3⟩ => ⟨g, c, cur, e1, Nat.le_trans hB e2, e3⟩⟩, fun i d hd => ?_⟩
  obtain ⟨g, cap, e1, e2, e3⟩ := h2 i d hd
  exact ⟨g, cap, e1, Nat.le_trans hB e2, e3⟩
theorem Try.Rws.nil (w : World) (B : Nat) : Try.Rws w B (.slice none 0 0) [] := ⟨[], World.ownsRow_nil _ _ _ _, fun i d hd => by simp at hd⟩
theorem Try.info_sl : (Try.prog.info? 22).map (fun i => (i.zero.map (·.cells.size), i.size, i.bytes)) = some (some 1, 1, 24) := by kernel_rfl
/-- 'append' of a row of bytes. -/
theorem Try.Rws.app {ops : Array Oper} {rest : List Oper} {o : Oper} {a : Act} {Q : Exit → Act → World → Prop} (hgd : o.guard = none) (s y : Operand)
    (ho : o.op = .call { callee := .builtin .append, args := #[s, y], argTypes := #[32, 32] })
    {B : Nat} {w : World} {V : Value} {recs : List (List UInt8)} (h : Try.Rws w B V recs) (hB : B ≤ w.heap.size) (hlen : recs.length ≤ 1000000) {g cap n : Nat} {d : List UInt8} (hn : d.length = n) (hg : B ≤ g) (hgl : g < w.heap.size) (hgV : V.ownBlock ≠ some g) (hsrc : Dk.Src w (.slice (some ⟨g, 0, none⟩) n cap) d)
    (hs : a.eval s = V) (hy : a.eval y = .slice (some ⟨w.heap.size, 0, none⟩) 1 1)
    (hK : ∀ V' w', Try.Rws w' B V' (recs ++ [d]) → Below B w w' → (∃ ad c, V' = .slice ad (recs.length + 1) c) → wpList Try.prog ops Q rest (a.put o.dst V') w') :
    wpList Try.prog ops Q (o :: rest) a (w.alloc (.cells #[.slice (some ⟨g, 0, none⟩) n cap] 22)) := by
  subst hn
  obtain ⟨vs, hrow, hel⟩ := h.ex
  obtain ⟨i0, hi0, hi1⟩ := Option.map_eq_some_iff.1 Try.info_sl
  simp only [Prod.mk.injEq] at hi1
  obtain ⟨hz0, hz1, hz2⟩ := hi1
  obtain ⟨zz, hzz, hzs⟩ := Option.map_eq_some_iff.1 hz0
  obtain ⟨O, hO⟩ : ∃ O : Obj, O = (.cells #[.slice (some ⟨g, 0, none⟩) d.length cap] 22) := ⟨_, rfl⟩
  have hnb : (w.alloc O).heap[w.heap.size]? = some (.cells #[.slice (some ⟨g, 0, none⟩) d.length cap] 22 (0, 0)) := by rw [hO]; exact heap_alloc_new w _
  have hb : Below w.heap.size w (w.alloc O) := (Below.refl w.heap.size w).alloc (Nat.le_refl _) _
  have hrow1 := Dk.row_heap hrow fun k e => hb.block k (hrow.lt k e).2
  have hsz : (w.alloc O).heap.size = w.heap.size + 1 := by simp
  have hvl : vs.length = recs.length := by have := hrow.1; omega
  rw [← hO]
  refine wpList_append_lies _ hgd s y 32 ho B 22 i0 zz 1 24 Try.underlying32 hi0 hzz hz1 hz2 hzs (by omega) V recs.length vs hs hrow1 ⟨w.heap.size, 0, none⟩ 1 1 [.slice (some ⟨g, 0, none⟩) d.length cap] hy rfl (World.news_of_block hnb) (by simp [Value.oneCell']) (by omega) (by unfold maxLen; omega) (by omega) (by omega) _ rfl ?_
  intro q c2 w' hown hgr hat hlt
  have hqn : ∀ k, k < w.heap.size → V.ownBlock ≠ some k → q ≠ k := fun k hk1 hk2 e1 => by
    subst e1
    rcases hat with e2 | e2
    · exact hk2 e2
    · rw [hsz] at e2; omega
  have hbl : ∀ k, k < w.heap.size → V.ownBlock ≠ some k → w'.heap[k]? = w.heap[k]? := fun k hk1 hk2 => (hgr.block k (by omega) (fun e1 => hk2 e1.symm)).trans (hb.block k hk1)
  have hws : w.heap.size ≤ w'.heap.size := Nat.le_trans hb.size hgr.size
  have hBel : Below B w w' := ((Below.refl B w).alloc hB O).grown hgr (by omega) fun k e1 => (hrow.lt k e1).1
  refine hK _ w' ⟨vs ++ [.slice (some ⟨g, 0, none⟩) d.length cap], by rw [List.length_append]; exact hown, fun i d' hd' => ?_⟩ hBel ⟨_, _, rfl⟩
  by_cases hi : i < recs.length
  · rw [List.getElem?_append_left hi] at hd'
    obtain ⟨g', c', e1, e2, e3, e4, e5⟩ := hel i d' hd'
    refine ⟨g', c', by rw [List.getElem?_append_left (by omega)]; exact e1, e2, fun e => ?_, Dk.srcKeep e4 (hbl g' e5 e3) hws, by omega⟩
    cases e
    exact hqn _ e5 e3 rfl
  · rw [List.getElem?_append_right (by omega)] at hd'
    have hi0' : i - recs.length = 0 := by
      have := (List.getElem?_eq_some_iff.1 hd').1
      simp at this; omega
    rw [hi0'] at hd'
    cases hd'
    refine ⟨g, cap, by rw [List.getElem?_append_right (by omega), show i - vs.length = 0 by omega]; rfl, hg, fun e => ?_, Dk.srcKeep hsrc (hbl g hgl hgV) hws, by omega⟩
    cases e
    exact hqn _ hgl hgV rfl
/-- A text as a row of bytes. -/
theorem Try.toBytes (w : World) (s : ByteArray) : ∃ cap fr O, (convert 9 22 (.string s)).run Try.prog w = .ok (.slice (some ⟨w.heap.size, 0, none⟩) s.size cap) (w.drew.alloc (.cells O 5 fr)) ∧ Dk.Src (w.drew.alloc (.cells O 5 fr)) (.slice (some ⟨w.heap.size, 0, none⟩) s.size cap) s.data.toList := by
  refine ⟨_, _, _, run_bytes_of_string w 9 22 5 s Try.underlying9 Try.underlying22 Try.underlying5, ⟨_, _, rfl, ?_⟩⟩
  refine .inr ⟨w.heap.size, 0, rfl, by simp, fun j u hj => ?_⟩
  have hjl := (List.getElem?_eq_some_iff.1 hj).1
  rw [Dk.byteCells_len] at hjl
  have hjs : j < s.data.size := by simpa using hjl
  rw [Dk.byteCell hjl] at hj
  show World.cell? _ ⟨w.drew.heap.size, 0 + j, none⟩ = _
  rw [cell_of_row _ _ _ _ _ _ (heap_alloc_new w.drew _), Nat.zero_add, bytesRow_at s _ j hjs]
  rw [← hj]
  rfl
/-- What Open gives. -/
structure Try.OpenR (w w' : World) (x : Nat) (s : DS) (H : Hd) (y : Nat) (sv V : Value) : Prop where
  y0 : w.heap.size ≤ y
  bel : Below w.heap.size w w'
  snap : ∃ g cap, w.heap.size ≤ g ∧ g < w'.heap.size ∧ sv = .slice (some ⟨g, 0, none⟩) H.size cap ∧ Dk.Src w' sv ((area s.view s.n H.side).take H.size)
  rows : Try.Rws w' w.heap.size V (cut (area s.view s.n H.side) H.size).1
  box : w'.heap[y]? = some (.cells #[.pointer (some ⟨x, 0, none⟩), .int .i64 H.gen, .int .i64 H.side, .int .i64 (cut (area s.view s.n H.side) H.size).2, .int .i64 s.falls] 108 (0, 0))
theorem Dk.cut_len (row : List UInt8) : ∀ (n p : Nat), row.length - p ≤ n → (cut row p).1.length ≤ row.length - p ∧ (cut row p).2 ≤ max p row.length := by
  intro n
  induction n with
  | zero =>
    intro p hp
    cases hr : recAt row p with
    | none => rw [cut_none hr]; simp; omega
    | some d => have := recAt_some hr; omega
  | succ n ih =>
    intro p hp
    cases hr : recAt row p with
    | none => rw [cut_none hr]; simp; omega
    | some d =>
      have h := recAt_some hr
      rw [cut_some hr]
      have := ih (p + 7 + d.length) (by omega)
      simp only [List.length_cons]
      omega
set_option maxRecDepth 20000 in
set_option maxHeartbeats 4000000 in
theorem Try.xOpen_any {w : World} {x : Nat} {Lv Wv : Value} {left kk t : Int} {s : DS} (h : Try.Rfm w x Lv Wv left kk t s) (hd : s.dead = false) (h2 : 8 ≤ s.n) :
    Calls Try.prog 23 #[.pointer (some ⟨x, 0, none⟩)] w fun e w' => (counting s.view s.n = none ∧ e = .returned (.tuple #[.pointer none, .slice none 0 0, .slice none 0 0, .int .i64 50]) ∧ Below w.heap.size w w') ∨ (∃ H y sv V, counting s.view s.n = some H ∧ e = .returned (.tuple #[.pointer (some ⟨y, 0, none⟩), sv, V, .int .i64 0]) ∧ Try.OpenR w w' x s H y sv V) := by
  have hv : s.view.length = 64 * s.n := sink_length _ _ h.lL h.good
  have hn := h.n1
  have k0 := Try.rAlive_any h
  rw [hd] at k0
  have k1 := Try.xHolds_any h hd h2
  have k2 : ∀ W, Below w.heap.size w W → Calls Try.prog 31 #[.pointer (some ⟨x, 0, none⟩)] W fun e w' => e = .returned (.int .i64 s.falls) ∧ w' = W := fun W hW => Try.rFalls_any (h.keep fun j e => hW.block j (h.foot_lt j e))
  have k3 : ∀ W, Below w.heap.size w W → ∀ (side : Nat), side ≤ 1 → Calls Try.prog 60 #[.pointer (some ⟨x, 0, none⟩), .int .i64 side] W fun e w' => e = .returned (.string ⟨(area s.view s.n side).toArray⟩) ∧ Below W.heap.size W w' := fun W hW side hs => Try.xBytes_any (h.keep fun j e => hW.block j (h.foot_lt j e)) hd (by omega) side hs
  have hH : half s.n ≤ 2047 := by unfold half; omega
  have hside : ∀ H, counting s.view s.n = some H → H.side ≤ 1 ∧ H.size ≤ 64 * half s.n ∧ H.gen ≤ 999999999 := fun H e => by
    unfold counting at e
    have hone : ∀ k G, headIn s.view s.n k = some G → G.side ≤ 1 ∧ G.size ≤ 64 * half s.n ∧ G.gen ≤ 999999999 := fun k G e => by
      unfold headIn headS at e
      split at e
      · cases e
      · rename_i h1
        split at h1
        · cases h1
        · rename_i h9
          cases h1
          split at e
          · cases e
          · split at e
            · cases e
            · cases e
              omega
    cases e0 : headIn s.view s.n 0 with
    | none =>
      rw [e0] at e
      exact hone 1 H e
    | some a =>
      cases e1 : headIn s.view s.n 1 with
      | none =>
        rw [e0, e1] at e
        cases e
        exact hone 0 _ e0
      | some b =>
        rw [e0, e1] at e
        simp only at e
        split at e
        · cases e; exact hone 0 _ e0
        · cases e; exact hone 1 _ e1
  have hal : ∀ H, counting s.view s.n = some H → (area s.view s.n H.side).length = 64 * half s.n := fun H e => Dk.area_len hv (by omega) (hside H e).1
  clear h hd
  go_enter Try.func23, Try.ntmps23
  go_upto_region 5 with (first
    | (go_at_call 29; refine k0.mono ?_; clear k0; rintro e w5 ⟨rfl, e5⟩; have e6 := e5.symm; clear e5; subst e6)
    | (go_at_call 59; refine k1.mono ?_; clear k1; rintro e w3 ⟨⟨t, G, A, S, rfl, hold⟩, hb3⟩; have Ho : Hid _ := hold; clear hold)
    | fail)
  cases t with
  | false =>
    have e1 : counting s.view s.n = none := by
      rcases Ho.out with ⟨-, q⟩ | ⟨q, -⟩
      · exact q
      · cases q
    clear Ho k2 k3 hside hal
    have E1 : Hid _ := e1
    clear e1
    go_wp2
    refine bodyPost_ret (Try.results_tmp4 (by rfl) _ _ _) rfl ?_
    exact .inl ⟨E1.out, rfl, hb3⟩
  | true =>
    obtain ⟨H, e1, rfl, rfl, e4⟩ : ∃ h, counting s.view s.n = some h ∧ G = (h.gen : Nat) ∧ A = (h.side : Nat) ∧ S.data.toList = (area s.view s.n h.side).take h.size := by
      rcases Ho.out with ⟨q, -⟩ | ⟨-, q⟩
      · cases q
      · exact q
    clear Ho
    obtain ⟨s1, s2, s3⟩ := hside H e1
    have hA := hal H e1
    obtain ⟨A, hAe⟩ : ∃ A, A = area s.view s.n H.side := ⟨_, rfl⟩
    rw [← hAe] at hA e4
    have hSl : S.size = H.size := by
      have : S.data.toList.length = H.size := by rw [e4, List.length_take]; omega
      rw [← this]; rfl
    have k4 := k2 w3 hb3
    have hb1 := Dk.belowA w3 (.cells #[.pointer (some ⟨x, 0, none⟩), .int .i64 H.gen, .int .i64 H.side, .int .i64 (S.size : Nat), .int .i64 s.falls] 108)
    have hbx := heap_alloc_new w3 (.cells #[.pointer (some ⟨x, 0, none⟩), .int .i64 H.gen, .int .i64 H.side, .int .i64 (S.size : Nat), .int .i64 s.falls] 108)
    have k5 := k3 _ (hb3.trans (hb1.mono hb3.size)) H.side s1
    rw [← hAe] at k5
    have E1 : Hid (counting s.view s.n = some H) := e1
    have E4 : Hid (S.data.toList = A.take H.size) := e4
    have HAe : Hid (A = area s.view s.n H.side) := hAe
    have HSl : Hid (S.size = H.size) := hSl
    have HAl : Hid (A.length = 64 * half s.n) := hA
    have hSb : S.size ≤ 131008 := by omega
    have hAb : A.length ≤ 131008 := by omega
    have hSA : S.size ≤ A.length := by omega
    clear e1 e4 hAe hSl hA k2 k3 hside hal hv hn hH s1 s2 s3
    go_upto_region 8 with (first
      | (go_at_call 31; refine k4.mono ?_; clear k4; rintro e w5 ⟨rfl, e5⟩; have e6 := e5.symm; clear e5; subst e6)
      | fail)
    generalize hW1 : w3.alloc (.cells #[.pointer (some ⟨x, 0, none⟩), .int .i64 H.gen, .int .i64 H.side, .int .i64 (S.size : Nat), .int .i64 s.falls] 108) = W1 at *
    obtain ⟨y, hy⟩ : ∃ y, y = w3.heap.size := ⟨_, rfl⟩
    rw [← hy] at hbx
    have hyl : y < W1.heap.size := Dk.block_lt hbx
    have hwy : w.heap.size ≤ y := by rw [hy]; exact hb3.size
    have hbw1 : Below w.heap.size w W1 := hb3.trans (hb1.mono hb3.size)
    rw [← hy]
    clear hW1 hb1 hb3 hy
    go_upto_region 9 with (first
      | (go_at_call 60; refine k5.mono ?_; clear k5; rintro e w5 ⟨rfl, hb5⟩)
      | fail)
    have hbx5 := (hb5.block _ hyl).trans hbx
    have hbw5 : Below w.heap.size w w5 := hbw1.trans (hb5.mono hbw1.size)
    have hyl5 : y < w5.heap.size := Dk.block_lt hbx5
    clear hbx hyl hbw1 hb5
    obtain ⟨R, hR⟩ : ∃ R, R = (cut A S.size).1 := ⟨_, rfl⟩
    obtain ⟨E, hE⟩ : ∃ E, E = (cut A S.size).2 := ⟨_, rfl⟩
    have hRl : R.length ≤ 131008 := by have := (Dk.cut_len A _ S.size (Nat.le_refl _)).1; rw [hR]; omega
    have HR : Hid (R = (cut A S.size).1) := hR
    have HE : Hid (E = (cut A S.size).2) := hE
    obtain ⟨AB, hAB⟩ : ∃ AB : ByteArray, AB = ⟨A.toArray⟩ := ⟨_, rfl⟩
    have hABd : AB.data.toList = A := by rw [hAB]
    have hABs : AB.size = A.length := by rw [← hABd]; rfl
    have krec := fun W (p : Nat) (hp : p < 1000000) => Try.xRecord_any W AB (by omega) p hp
    rw [hABd] at krec
    rw [← hAB]
    clear hR hE hAB hABd hABs
    go_wp2
    go_loopw [13] (fun l wr => ∃ (done : List (List UInt8)) (p : Nat), Try.Rws wr (y + 1) l done ∧ wr.heap[y]? = some (.cells #[.pointer (some ⟨x, 0, none⟩), .int .i64 H.gen, .int .i64 H.side, .int .i64 (p : Nat), .int .i64 s.falls] 108 (0, 0)) ∧ Below w.heap.size w wr ∧ R = done ++ (cut A p).1 ∧ E = (cut A p).2 ∧ p ≤ A.length) (fun _ wr => A.length - (match wr.cell? ⟨y, 3, none⟩ with | some (.int .i64 q) => q.toNat | _ => 0))
    case atStart => exact ⟨[], S.size, Try.Rws.nil _ _, hbx5, hbw5, by rw [List.nil_append]; exact HR.out, HE.out, hSA⟩
    case round =>
      obtain ⟨done, p, hrow, hbxr, hbwr, hRd, hEd, hpl⟩ := hrel
      have kr := krec wr p (by omega)
      have hyr : y < wr.heap.size := Dk.block_lt hbxr
      have c3 : wr.cell? ⟨y, 3, none⟩ = some (.int .i64 (p : Nat)) := cell_of_row _ _ _ _ _ _ hbxr
      have hdl : done.length ≤ 131008 := by rw [hRd, List.length_append] at hRl; omega
      have CR : Hid (wr.cell? ⟨y, 3, none⟩ = some (.int .i64 (p : Nat))) := c3
      have HRd : Hid (R = done ++ (cut A p).1) := hRd
      have HEd : Hid (E = (cut A p).2) := hEd
      have HROW : Hid _ := hrow
      clear krec hRd hEd hrow
      go_upto_region 11 with (first
        | (go_at_call 61; refine kr.mono ?_; clear kr; rintro e w6 ⟨⟨D, t, rfl, hdt⟩, hb6⟩; have Hdt : Hid _ := hdt; clear hdt)
        | fail)
      have hbx6 := (hb6.block _ hyr).trans hbxr
      have hrow6 := HROW.out.keep (fun k _ hk => hb6.block k hk) hb6.size
      have hbw6 : Below w.heap.size w w6 := hbwr.trans (hb6.mono hbwr.size)
      have hyr6 : y < w6.heap.size := Nat.lt_of_lt_of_le hyr hb6.size
      clear hbxr hb6 hbwr c3 HROW
      cases t with
      | false =>
        have e1 : recAt A p = none := by
          rcases Hdt.out with ⟨-, q⟩ | ⟨q, -⟩
          · exact q
          · cases q
        have e2 := cut_none e1
        have hR0 : R = done := by rw [HRd.out, e2, List.append_nil]
        have hE0 : E = p := by rw [HEd.out, e2]
        subst hR0 hE0
        clear Hdt e1 e2 HRd HEd
        obtain ⟨cap, fr, O, hcv, hsr⟩ := Try.toBytes w6 S
        have hbF : Below w6.heap.size w6 (w6.drew.alloc (.cells O 5 fr)) := ((Below.refl w6.heap.size w6).drew).alloc (Nat.le_refl _) _
        have hrowF := hrow6.keep (fun k _ hk => hbF.block k hk) hbF.size
        have hbxF := (hbF.block _ hyr6).trans hbx6
        have hbwF : Below w.heap.size w _ := hbw6.trans (hbF.mono hbw6.size)
        have hgW7 : w6.heap.size < (w6.drew.alloc (.cells O 5 fr)).heap.size := by simp
        generalize w6.drew.alloc (.cells O 5 fr) = W7 at *
        go_wp2
        refine bodyPost_ret (Try.results_tmp4 (by rfl) _ _ _) rfl ?_
        refine .inr ⟨H, y, .slice (some ⟨w6.heap.size, 0, none⟩) S.size cap, _, E1.out, rfl, ?_⟩
        refine ⟨hwy, hbwF, ⟨w6.heap.size, cap, hbw6.size, hgW7, ?_, ?_⟩, ?_, ?_⟩
        · rw [← HSl.out]
        · rw [← HAe.out, ← E4.out]; exact hsr
        · rw [← HAe.out, ← HSl.out, ← HR.out]
          exact hrowF.mono (by omega)
        · rw [← HAe.out, ← HSl.out, ← HE.out]; exact hbxF
      | true =>
        have e1 : recAt A p = some D.data.toList := by
          rcases Hdt.out with ⟨q, -⟩ | ⟨-, q⟩
          · cases q
          · exact q
        have e2 := cut_some e1
        have e3 := recAt_some e1
        have hDl : D.data.toList.length = D.size := rfl
        rw [hDl] at e2 e3
        have HR2 : Hid (R = (done ++ [D.data.toList]) ++ (cut A (p + 7 + D.size)).1) := (by show _ = _; rw [HRd.out, e2, List.append_assoc]; rfl)
        have HE2 : Hid (E = (cut A (p + 7 + D.size)).2) := (by show _ = _; rw [HEd.out, e2])
        have hpn : p + 7 + D.size ≤ A.length := e3.1
        have hDp : D.size ≤ 6000 := e3.2.2.1
        clear Hdt e1 e2 e3 HRd HEd
        go_upto_region 12 with fail
        obtain ⟨cap, fr, O, hcv, hsr⟩ := Try.toBytes w6 D
        have hbF : Below w6.heap.size w6 (w6.drew.alloc (.cells O 5 fr)) := ((Below.refl w6.heap.size w6).drew).alloc (Nat.le_refl _) _
        have hrowF := hrow6.keep (fun k _ hk => hbF.block k hk) hbF.size
        have hbxF := (hbF.block _ hyr6).trans hbx6
        have hbwF : Below w.heap.size w _ := hbw6.trans (hbF.mono hbw6.size)
        have hgF : w6.heap.size < (w6.drew.alloc (.cells O 5 fr)).heap.size := by simp
        have hgV : ∀ l', Try.Rws w6 (y + 1) l' done → l'.ownBlock ≠ some w6.heap.size := fun l' hl e => by
          obtain ⟨vs, h1, -⟩ := hl.ex
          have := (h1.lt _ e).2
          omega
        have hgV6 := hgV _ hrow6
        generalize w6.drew.alloc (.cells O 5 fr) = W7 at *
        have hyF : y + 1 ≤ W7.heap.size := by omega
        clear hgV hbF hrow6 hbx6 hbw6
        go_upto_region 13 with (first
          | (at_builtin; refine Try.Rws.app rfl _ _ rfl hrowF hyF (by omega) hDl (by omega) hgF hgV6 hsr rfl rfl ?_; intro V2 w8 hrow8 hb8 hV8)
          | fail)
        have hbx8 := (hb8.block _ (by omega)).trans hbxF
        have c3 : w8.cell? ⟨y, 3, none⟩ = some (.int .i64 (p : Nat)) := cell_of_row _ _ _ _ _ _ hbx8
        have f3 : w8.frozen? ⟨y, 3, none⟩ = false := frozen_of_row _ _ _ _ _ hbx8
        have hbx9 := heap_setCell_same w8 y 3 _ _ (.int .i64 (p + 7 + D.size : Nat)) hbx8
        have hrow9 : Try.Rws (w8.setCell ⟨y, 3, none⟩ (.int .i64 (p + 7 + D.size : Nat))) (y + 1) V2 (done ++ [D.data.toList]) := hrow8.keep (fun k hk _ => Below.heap_setCell w8 ⟨y, 3, none⟩ _ k (show k ≠ y by omega)) (by simp)
        have hbw9 : Below w.heap.size w (w8.setCell ⟨y, 3, none⟩ (.int .i64 (p + 7 + D.size : Nat))) := (hbwF.trans (hb8.mono (show w.heap.size ≤ y + 1 by omega))).setCell hwy _
        have HB8 : Hid _ := hbx8
        clear hbx8 hrow8 hbxF hrowF hbwF hb8
        go_wp2
        go_roundw
        case rel => exact ⟨done ++ [D.data.toList], p + 7 + D.size, hrow9, hbx9, hbw9, HR2.out, HE2.out, hpn⟩
        case measure =>
          have m9 : (w8.setCell ⟨y, 3, none⟩ (.int .i64 ((p : Int) + 7 + (D.size : Int)))).cell? ⟨y, 3, none⟩ = some (.int .i64 ((p : Int) + 7 + (D.size : Int))) := cell_of_row _ _ 3 _ _ _ (heap_setCell_same w8 y 3 _ _ (.int .i64 ((p : Int) + 7 + (D.size : Int))) HB8.out)
          rw [m9, CR.out]
          show A.length - ((p : Int) + 7 + (D.size : Int)).toNat < A.length - (p : Int).toNat
          omega
end Go.Proofs
namespace Go.Proofs
open Go.RowKit Go.Dk
structure Dk.Ho where
  v : Value
  n : Nat
  m : UInt8
/-- A row of n bytes m in blocks of own; in block G only ahead of q; in none of the lists' own blocks. -/
def Dk.HoOk (w : World) (own : Nat → Prop) (G q : Nat) (lv mv : Value) (h : Dk.Ho) : Prop :=
  ∃ ad cap, h.v = .slice ad h.n cap ∧ (h.n = 0 ∨ ∃ g o, ad = some ⟨g, o, none⟩ ∧ own g ∧ lv.ownBlock ≠ some g ∧ mv.ownBlock ≠ some g ∧ (g = G → o + h.n ≤ q) ∧ ∀ j, j < h.n → w.cell? ⟨g, o + j, none⟩ = some (.int .u8 (h.m.toNat : Nat)))
structure Try.Hold (w : World) (own : Nat → Prop) (G q : Nat) (lv mv : Value) (hs : List Dk.Ho) (ms : List UInt8) : Prop where
  lr : w.ownsRow 0 22 1 lv hs.length (hs.map (·.v))
  mr : w.ownsRow 0 5 1 mv ms.length (Lib.byteCells ms)
  lo : ∀ k, lv.ownBlock = some k → own k
  mo : ∀ k, mv.ownBlock = some k → own k
  lm : ∀ k, lv.ownBlock = some k → mv.ownBlock ≠ some k
  each : ∀ h ∈ hs, Dk.HoOk w own G q lv mv h
  lt : ∀ k, own k → k < w.heap.size
theorem Dk.HoOk.keep {w w' : World} {own : Nat → Prop} {G q : Nat} {lv mv : Value} {h : Dk.Ho} (e : Dk.HoOk w own G q lv mv h) (hk : ∀ k, own k → lv.ownBlock ≠ some k → mv.ownBlock ≠ some k → w'.heap[k]? = w.heap[k]?) : Dk.HoOk w' own G q lv mv h := by
  obtain ⟨ad, cap, e1, e2⟩ := e
  refine ⟨ad, cap, e1, e2.imp id ?_⟩
  rintro ⟨g, o, d1, d2, d3, d4, d5, d6⟩
  exact ⟨g, o, d1, d2, d3, d4, d5, fun j hj => (World.cell?_of_block (a := ⟨g, o + j, none⟩) (hk g d2 d3 d4)).trans (d6 j hj)⟩
theorem Try.Hold.keep {w w' : World} {own : Nat → Prop} {G q : Nat} {lv mv : Value} {hs : List Dk.Ho} {ms : List UInt8} (h : Try.Hold w own G q lv mv hs ms) (hk : ∀ k, own k → w'.heap[k]? = w.heap[k]?) (hsz : w.heap.size ≤ w'.heap.size) : Try.Hold w' own G q lv mv hs ms :=
  ⟨Dk.row_heap h.lr fun k e => hk k (h.lo k e), Dk.row_heap h.mr fun k e => hk k (h.mo k e), h.lo, h.mo, h.lm, fun x hx => (h.each x hx).keep fun k e _ _ => hk k e, fun k e => Nat.lt_of_lt_of_le (h.lt k e) hsz⟩
theorem Try.Hold.below {w w' : World} {own : Nat → Prop} {G q : Nat} {lv mv : Value} {hs : List Dk.Ho} {ms : List UInt8} (h : Try.Hold w own G q lv mv hs ms) (g : Below w.heap.size w w') : Try.Hold w' own G q lv mv hs ms := h.keep (fun k e => g.block k (h.lt k e)) g.size
/-- More blocks are own; another block is the one that is written now. -/
theorem Try.Hold.wide {w : World} {own own' : Nat → Prop} {G q : Nat} {lv mv : Value} {hs : List Dk.Ho} {ms : List UInt8} (h : Try.Hold w own G q lv mv hs ms) (ho : ∀ k, own k → own' k) (hl : ∀ k, own' k → k < w.heap.size) : Try.Hold w own' G q lv mv hs ms :=
  ⟨h.lr, h.mr, fun k e => ho k (h.lo k e), fun k e => ho k (h.mo k e), h.lm, fun x hx => by
    obtain ⟨ad, cap, e1, e2⟩ := h.each x hx
    refine ⟨ad, cap, e1, e2.imp id ?_⟩
    rintro ⟨g, o, d1, d2, d3⟩
    exact ⟨g, o, d1, ho g d2, d3⟩, hl⟩
theorem Try.Hold.turn {w : World} {own : Nat → Prop} {G q G' : Nat} {lv mv : Value} {hs : List Dk.Ho} {ms : List UInt8} (h : Try.Hold w own G q lv mv hs ms) (hG : ¬ own G') (q' : Nat) : Try.Hold w own G' q' lv mv hs ms :=
  ⟨h.lr, h.mr, h.lo, h.mo, h.lm, fun x hx => by
    obtain ⟨ad, cap, e1, e2⟩ := h.each x hx
    refine ⟨ad, cap, e1, e2.imp id ?_⟩
    rintro ⟨g, o, d1, d2, d3, d4, d5, d6⟩
    exact ⟨g, o, d1, d2, d3, d4, fun e => absurd (e ▸ d2) hG, d6⟩, h.lt⟩
theorem Try.Hold.more {w : World} {own : Nat → Prop} {G q q' : Nat} {lv mv : Value} {hs : List Dk.Ho} {ms : List UInt8} (h : Try.Hold w own G q lv mv hs ms) (hq : q ≤ q') : Try.Hold w own G q' lv mv hs ms :=
  ⟨h.lr, h.mr, h.lo, h.mo, h.lm, fun x hx => by
    obtain ⟨ad, cap, e1, e2⟩ := h.each x hx
    refine ⟨ad, cap, e1, e2.imp id ?_⟩
    rintro ⟨g, o, d1, d2, d3, d4, d5, d6⟩
    exact ⟨g, o, d1, d2, d3, d4, fun e => Nat.le_trans (d5 e) hq, d6⟩, h.lt⟩
theorem Try.Hold.nil (w : World) (G : Nat) : Try.Hold w (fun _ => False) G 0 (.slice none 0 0) (.slice none 0 0) [] [] :=
  ⟨World.ownsRow_nil _ _ _ _, World.ownsRow_nil _ _ _ _, (fun k e => by cases e), (fun k e => by cases e), (fun k e => by cases e), (fun h hh => by cases hh), (fun k e => e.elim)⟩
/-- The lists' own form. -/
theorem Try.Hold.lform {w : World} {own : Nat → Prop} {G q : Nat} {lv mv : Value} {hs : List Dk.Ho} {ms : List UInt8} (h : Try.Hold w own G q lv mv hs ms) : (∃ ad cap, lv = .slice ad hs.length cap) ∧ ∃ ad cap, mv = .slice ad ms.length cap := by
  obtain ⟨a, b, e, -⟩ := Dk.rowForm h.lr
  obtain ⟨c, d, f, -⟩ := Dk.rowForm h.mr
  exact ⟨⟨a, b, e⟩, c, d, f⟩
/-- 'append' of some rows to the list of rows. -/
theorem Try.Hold.appL {ops : Array Oper} {rest : List Oper} {o : Oper} {a : Act} {Q : Exit → Act → World → Prop} (hgd : o.guard = none) (s y : Operand)
    (ho : o.op = .call { callee := .builtin .append, args := #[s, y], argTypes := #[32, 32] })
    {w : World} {own : Nat → Prop} {G q : Nat} {lv mv : Value} {hs : List Dk.Ho} {ms : List UInt8} (h : Try.Hold w own G q lv mv hs ms) (hlen : hs.length ≤ 1000000) (new : List Dk.Ho) (hn0 : 0 < new.length) (hn1 : new.length ≤ 4) (hnew : ∀ x ∈ new, Dk.HoOk w own G q lv mv x)
    {C : Array Value} (hC : C.toList = new.map (·.v))
    (hs' : a.eval s = lv) (hy : a.eval y = .slice (some ⟨w.heap.size, 0, none⟩) new.length new.length)
    (hK : ∀ lv' w' own', Try.Hold w' own' G q lv' mv (hs ++ new) ms → (∃ ad c, lv' = .slice ad (hs.length + new.length) c) → (∀ k, lv'.ownBlock = some k → lv.ownBlock = some k ∨ w.heap.size ≤ k) → (∀ k, own k → own' k) → (∀ k, own' k → own k ∨ w.heap.size ≤ k) → Dk.Wo (fun k => lv.ownBlock = some k) w w' → wpList Try.prog ops Q rest (a.put o.dst lv') w') :
    wpList Try.prog ops Q (o :: rest) a (w.alloc (.cells C 22)) := by
  obtain ⟨i0, hi0, hi1⟩ := Option.map_eq_some_iff.1 Try.info_sl
  simp only [Prod.mk.injEq] at hi1
  obtain ⟨hz0, hz1, hz2⟩ := hi1
  obtain ⟨zz, hzz, hzs⟩ := Option.map_eq_some_iff.1 hz0
  have hb : Below w.heap.size w (w.alloc (.cells C 22)) := Dk.belowA w _
  have hsz : (w.alloc (.cells C 22)).heap.size = w.heap.size + 1 := by simp
  have hnb := heap_alloc_new w (.cells C 22)
  have h1 := h.below hb
  refine wpList_append_lies _ hgd s y 32 ho 0 22 i0 zz 1 24 Try.underlying32 hi0 hzz hz1 hz2 hzs (by omega) lv hs.length _ hs' h1.lr ⟨w.heap.size, 0, none⟩ new.length new.length (new.map (·.v)) hy (by simp) (fun j u hj => ?_) (fun u hu => ?_) hn0 (by unfold maxLen; omega) (by omega) (by omega) _ rfl ?_
  · have h0 : (⟨w.heap.size, 0, none⟩ : Addr).add j = ⟨w.heap.size, j, none⟩ := by rw [Addr.add_mid, Nat.zero_add]
    rw [h0, cell_of_row _ _ _ _ _ _ hnb, ← hj, ← hC]
    simp
  · obtain ⟨x, hx, rfl⟩ := List.mem_map.1 hu
    obtain ⟨ad, cap, e, -⟩ := hnew x hx
    rw [e]; simp [Value.oneCell']
  intro g c2 w' hown hgr hat hlt
  have hbl : ∀ k, k < w.heap.size → lv.ownBlock ≠ some k → w'.heap[k]? = w.heap[k]? := fun k hk1 hk2 => (hgr.block k (by omega) (fun e1 => hk2 e1.symm)).trans (hb.block k hk1)
  have hwo : Dk.Wo (fun k => lv.ownBlock = some k) w w' := by
    refine ⟨hgr.os.trans hb.os, hgr.tape.trans hb.tape, hgr.output.trans hb.output, Nat.le_trans hb.size hgr.size, fun k hk hn => hbl k hk hn⟩
  have hgn : ∀ k, k < w.heap.size → lv.ownBlock ≠ some k → g ≠ k := fun k hk1 hk2 e1 => by
    subst e1
    rcases hat with e2 | e2
    · exact hk2 e2
    · rw [hsz] at e2; omega
  refine hK _ w' (fun k => own k ∨ (w.heap.size ≤ k ∧ k < w'.heap.size)) ⟨?_, ?_, ?_, fun k e => .inl (h.mo k e), ?_, ?_, ?_⟩ ⟨_, _, rfl⟩ (fun k e => by cases e; exact hat.imp id fun e2 => by show w.heap.size ≤ g; omega) (fun k e => .inl e) (fun k e => e.imp id (·.1)) hwo
  · rw [List.length_append, List.map_append]; exact hown
  · exact Dk.row_heap h.mr fun k e => hbl k (h.lt k (h.mo k e)) fun e2 => h.lm k e2 e
  · intro k e
    cases e
    rcases hat with e2 | e2
    · exact .inl (h.lo _ e2)
    · exact .inr ⟨by show w.heap.size ≤ g; omega, hlt⟩
  · intro k e e2
    cases e
    exact hgn _ (h.lt _ (h.mo _ e2)) (fun e3 => h.lm _ e3 e2) rfl
  · intro x hx
    have hx' : Dk.HoOk w own G q lv mv x := by
      rcases List.mem_append.1 hx with hx | hx
      · exact h.each x hx
      · exact hnew x hx
    obtain ⟨ad, cap, e1, e2⟩ := hx'
    refine ⟨ad, cap, e1, e2.imp id ?_⟩
    rintro ⟨g', o', d1, d2, d3, d4, d5, d6⟩
    refine ⟨g', o', d1, .inl d2, fun e => ?_, d4, d5, fun j hj => (World.cell?_of_block (a := ⟨g', o' + j, none⟩) (hbl g' (h.lt g' d2) d3)).trans (d6 j hj)⟩
    cases e
    exact hgn _ (h.lt _ d2) d3 rfl
  · rintro k (e | e)
    · have := h.lt k e; have := hwo.size; omega
    · exact e.2
/-- 'append' of some marks. -/
theorem Try.Hold.appM {ops : Array Oper} {rest : List Oper} {o : Oper} {a : Act} {Q : Exit → Act → World → Prop} (hgd : o.guard = none) (s y : Operand)
    (ho : o.op = .call { callee := .builtin .append, args := #[s, y], argTypes := #[22, 22] })
    {w : World} {own : Nat → Prop} {G q : Nat} {lv mv : Value} {hs : List Dk.Ho} {ms : List UInt8} (h : Try.Hold w own G q lv mv hs ms) (_hG : mv.ownBlock ≠ some G) (hlen : ms.length ≤ 1000000) (new : List UInt8) (hn0 : 0 < new.length) (hn1 : new.length ≤ 4)
    {C : Array Value} (hC : C.toList = Lib.byteCells new)
    (hs' : a.eval s = mv) (hy : a.eval y = .slice (some ⟨w.heap.size, 0, none⟩) new.length new.length)
    (hK : ∀ mv' w' own', Try.Hold w' own' G q lv mv' hs (ms ++ new) → (∃ ad c, mv' = .slice ad (ms.length + new.length) c) → (∀ k, mv'.ownBlock = some k → mv.ownBlock = some k ∨ w.heap.size ≤ k) → (∀ k, own k → own' k) → (∀ k, own' k → own k ∨ w.heap.size ≤ k) → Dk.Wo (fun k => mv.ownBlock = some k) w w' → wpList Try.prog ops Q rest (a.put o.dst mv') w') :
    wpList Try.prog ops Q (o :: rest) a (w.alloc (.cells C 5)) := by
  obtain ⟨i0, hi0, hz0, hz1, hz2⟩ := info_parts Try.info_u8
  have hb : Below w.heap.size w (w.alloc (.cells C 5)) := Dk.belowA w _
  have hsz : (w.alloc (.cells C 5)).heap.size = w.heap.size + 1 := by simp
  have hnb := heap_alloc_new w (.cells C 5)
  have h1 := h.below hb
  refine wpList_append_lies _ hgd s y 22 ho 0 5 i0 _ 1 1 Try.underlying22 hi0 hz0 hz1 hz2 rfl (by omega) mv ms.length _ hs' h1.mr ⟨w.heap.size, 0, none⟩ new.length new.length (Lib.byteCells new) hy (by simp [Dk.byteCells_len]) (fun j u hj => ?_) (fun u hu => ?_) hn0 (by unfold maxLen; omega) (by omega) (by omega) _ rfl ?_
  · have h0 : (⟨w.heap.size, 0, none⟩ : Addr).add j = ⟨w.heap.size, j, none⟩ := by rw [Addr.add_mid, Nat.zero_add]
    rw [h0, cell_of_row _ _ _ _ _ _ hnb, ← hj, ← hC]
    simp
  · simp only [Lib.byteCells, List.mem_map] at hu
    obtain ⟨x, -, rfl⟩ := hu
    simp [Value.oneCell']
  intro g c2 w' hown hgr hat hlt
  have hbl : ∀ k, k < w.heap.size → mv.ownBlock ≠ some k → w'.heap[k]? = w.heap[k]? := fun k hk1 hk2 => (hgr.block k (by omega) (fun e1 => hk2 e1.symm)).trans (hb.block k hk1)
  have hwo : Dk.Wo (fun k => mv.ownBlock = some k) w w' := by
    refine ⟨hgr.os.trans hb.os, hgr.tape.trans hb.tape, hgr.output.trans hb.output, Nat.le_trans hb.size hgr.size, fun k hk hn => hbl k hk hn⟩
  have hgn : ∀ k, k < w.heap.size → mv.ownBlock ≠ some k → g ≠ k := fun k hk1 hk2 e1 => by
    subst e1
    rcases hat with e2 | e2
    · exact hk2 e2
    · rw [hsz] at e2; omega
  have eB : Lib.byteCells ms ++ Lib.byteCells new = Lib.byteCells (ms ++ new) := by simp [Lib.byteCells]
  rw [eB] at hown
  refine hK _ w' (fun k => own k ∨ (w.heap.size ≤ k ∧ k < w'.heap.size)) ⟨?_, ?_, fun k e => .inl (h.lo k e), ?_, ?_, ?_, ?_⟩ ⟨_, _, rfl⟩ (fun k e => by cases e; exact hat.imp id fun e2 => by show w.heap.size ≤ g; omega) (fun k e => .inl e) (fun k e => e.imp id (·.1)) hwo
  · exact Dk.row_heap h.lr fun k e => hbl k (h.lt k (h.lo k e)) fun e2 => h.lm k e e2
  · rw [List.length_append]; exact hown
  · intro k e
    cases e
    rcases hat with e2 | e2
    · exact .inl (h.mo _ e2)
    · exact .inr ⟨by show w.heap.size ≤ g; omega, hlt⟩
  · intro k e e2
    cases e2
    exact hgn _ (h.lt _ (h.lo _ e)) (fun e3 => h.lm _ e e3) rfl
  · intro x hx
    obtain ⟨ad, cap, e1, e2⟩ := h.each x hx
    refine ⟨ad, cap, e1, e2.imp id ?_⟩
    rintro ⟨g', o', d1, d2, d3, d4, d5, d6⟩
    refine ⟨g', o', d1, .inl d2, d3, fun e => ?_, d5, fun j hj => (World.cell?_of_block (a := ⟨g', o' + j, none⟩) (hbl g' (h.lt g' d2) d4)).trans (d6 j hj)⟩
    cases e
    exact hgn _ (h.lt _ d2) d4 rfl
  · rintro k (e | e)
    · have := h.lt k e; have := hwo.size; omega
    · exact e.2
/-- 'append' of some marks to a row without spare room: a new row. -/
theorem Try.growB {ops : Array Oper} {rest : List Oper} {o : Oper} {a : Act} {Q : Exit → Act → World → Prop} (hgd : o.guard = none) (s y : Operand)
    (ho : o.op = .call { callee := .builtin .append, args := #[s, y], argTypes := #[22, 22] })
    {w : World} {ad : Option Addr} {n : Nat} {m : UInt8} (hlen : n ≤ 1000000) (hb : n = 0 ∨ ∃ g o, ad = some ⟨g, o, none⟩ ∧ g < w.heap.size ∧ ∀ j, j < n → w.cell? ⟨g, o + j, none⟩ = some (.int .u8 (m.toNat : Nat)))
    (c : Nat) (hc0 : 0 < c) (hc1 : c ≤ 20) {C : Array Value} (hC : C.toList = List.replicate c (.int .u8 (m.toNat : Nat)))
    (hs' : a.eval s = .slice ad n n) (hy : a.eval y = .slice (some ⟨w.heap.size, 0, none⟩) c c)
    (hK : ∀ g cap w', Below w.heap.size w w' → w.heap.size ≤ g → g < w'.heap.size → (∀ j, j < n + c → w'.cell? ⟨g, j, none⟩ = some (.int .u8 (m.toNat : Nat))) → wpList Try.prog ops Q rest (a.put o.dst (.slice (some ⟨g, 0, none⟩) (n + c) cap)) w') :
    wpList Try.prog ops Q (o :: rest) a (w.alloc (.cells C 5)) := by
  obtain ⟨i0, hi0, hz0, hz1, hz2⟩ := info_parts Try.info_u8
  have hb0 : Below w.heap.size w (w.alloc (.cells C 5)) := Dk.belowA w _
  have hsz : (w.alloc (.cells C 5)).heap.size = w.heap.size + 1 := by simp
  have hnb := heap_alloc_new w (.cells C 5)
  refine wpList_append_grows _ hgd s y 22 ho 5 i0 _ 1 1 Try.underlying22 hi0 hz0 hz1 hz2 rfl (by omega) ad n n (List.replicate n (.int .u8 (m.toNat : Nat))) hs' (fun e => ?_) (by simp) (fun b e j u hj => ?_) ⟨w.heap.size, 0, none⟩ c c (List.replicate c (.int .u8 (m.toNat : Nat))) hy (by simp) (fun j u hj => ?_) (fun u hu => ?_) (by omega) (by unfold maxLen; omega) (by omega) ?_
  · rcases hb with e0 | ⟨g, o, e0, -⟩
    · exact ⟨e0, e0⟩
    · rw [e0] at e; cases e
  · rcases hb with e0 | ⟨g, o, e0, hg, hcell⟩
    · subst e0; simp at hj
    · rw [e0] at e; cases e
      have hjn : j < n := by have := (List.getElem?_eq_some_iff.1 hj).1; simpa using this
      have hu : u = .int .u8 (m.toNat : Nat) := by
        have := (List.getElem?_eq_some_iff.1 hj).2; simpa using this.symm
      rw [hu, Addr.add_mid]
      exact (hb0.cell (p := ⟨g, o + j, none⟩) hg).trans (hcell j hjn)
  · have h0 : (⟨w.heap.size, 0, none⟩ : Addr).add j = ⟨w.heap.size, j, none⟩ := by rw [Addr.add_mid, Nat.zero_add]
    rw [h0, cell_of_row _ _ _ _ _ _ hnb, ← hj, ← hC]
    simp
  · have := (List.mem_replicate.1 hu).2
    subst this
    simp [Value.oneCell']
  · intro v' w' hown hgr
    rw [List.replicate_append_replicate] at hown
    have hB : Below w.heap.size w w' := hb0.grown hgr (by omega) fun k e => by cases e
    rcases hown.2 with ⟨-, e0⟩ | ⟨g, cap, cur, e, e2, hg, -⟩
    · omega
    · subst e
      refine hK g cap w' hB (by omega) (Dk.block_lt hg) fun j hj => ?_
      have := hown.cells (g := g) rfl j (.int .u8 (m.toNat : Nat)) (by rw [List.getElem?_replicate, if_pos hj])
      rw [Addr.add_mid, Nat.zero_add] at this
      exact this
end Go.Proofs
namespace Go.Proofs
open Go.RowKit Go.Dk
/-- The pair in its box. -/
def Try.Pbx (w : World) (p : Nat) (d r j k lv mv : Value) : Prop := w.heap[p]? = some (.cells #[d, r, j, k, lv, mv] 34 (0, 0))
/-- What is handed to takes: bytes that may be written over, in block G behind place q; no spare room. -/
def Dk.Tak (w : World) (G q : Nat) (ad : Option Addr) (n : Nat) : Prop := n = 0 ∨ ∃ o, ad = some ⟨G, o, none⟩ ∧ q ≤ o ∧ ∀ j, j < n → (∃ u, w.cell? ⟨G, o + j, none⟩ = some u) ∧ w.frozen? ⟨G, o + j, none⟩ = false
def Dk.takEnd (ad : Option Addr) (n q : Nat) : Nat := if n = 0 then q else match ad with | some a => a.off + n | none => q
structure Try.Took (w w' : World) (own : Nat → Prop) (G q p : Nat) (d r j k : Value) (n : Nat) (hs : List Dk.Ho) (ms : List UInt8) : Prop where
  ex : ∃ own' lv mv hs' ms', (∀ b, n + 20 ≤ b → (∀ x ∈ hs, x.n ≤ b) → ∀ x ∈ hs', x.n ≤ b) ∧ Try.Pbx w' p d r j k lv mv ∧ lv.ownBlock ≠ some G ∧ mv.ownBlock ≠ some G ∧ Try.Hold w' own' G q lv mv hs' ms' ∧ hs'.length = hs.length + 4 ∧ ms'.length = ms.length + 4 ∧ hs'.map (·.m) = ms' ∧ (∀ k, own k → own' k) ∧ (∀ k, own' k → own k ∨ k = G ∨ w.heap.size ≤ k)
  wo : Dk.Wo (fun k => own k ∨ k = G ∨ k = p) w w'
  there : ∀ o, (∃ u, w.cell? ⟨G, o, none⟩ = some u) → ∃ u, w'.cell? ⟨G, o, none⟩ = some u
  froz : ∀ o, w'.frozen? ⟨G, o, none⟩ = w.frozen? ⟨G, o, none⟩
set_option maxRecDepth 20000 in
set_option maxHeartbeats 4000000 in
theorem Try.takes_any {w : World} {own : Nat → Prop} {G q p : Nat} {d r j k lv mv : Value} {hs : List Dk.Ho} {ms : List UInt8} (hp : Try.Pbx w p d r j k lv mv) (h : Try.Hold w own G q lv mv hs ms) (hm : hs.map (·.m) = ms) (hlen : ms.length ≤ 100000) (hG : G < w.heap.size) (hGl : lv.ownBlock ≠ some G) (hGm : mv.ownBlock ≠ some G) (hpo : ¬ own p) (hpG : p ≠ G)
    {ad : Option Addr} {n : Nat} (hn : n ≤ 100000) (ht : Dk.Tak w G q ad n) :
    Calls Try.prog 25 #[.pointer (some ⟨p, 0, none⟩), .slice ad n n] w fun e w' => (∃ v, e = .returned v) ∧ Try.Took w w' own G (Dk.takEnd ad n q) p d r j k n hs ms := by
  have hpl : p < w.heap.size := Dk.block_lt hp
  obtain ⟨⟨la, lc, hlv⟩, ma, mc, hmv⟩ := h.lform
  have hhl : hs.length = ms.length := by rw [← hm, List.length_map]
  obtain ⟨X, hX⟩ : ∃ X : UInt8, X = UInt8.ofNat (1 + ms.length / 4 % 250) := ⟨_, rfl⟩
  have hXn : (X.toNat : Int) = 1 + ((ms.length / 4 % 250 : Nat) : Int) := by
    rw [hX, UInt8.toNat_ofNat']; omega
  have q1 : ((ms.length : Nat) : Int).tdiv 4 = ((ms.length / 4 : Nat) : Int) := (Int.ofNat_tdiv _ 4).symm
  have q2 : ((ms.length / 4 : Nat) : Int).tmod 250 = ((ms.length / 4 % 250 : Nat) : Int) := (Int.ofNat_tmod _ 250).symm
  have hML : ms.length / 4 ≤ 100000 := by omega
  have hR : ms.length / 4 % 250 < 250 := Nat.mod_lt _ (by omega)
  generalize hN4 : ms.length / 4 = N4 at *
  generalize hR4 : N4 % 250 = R4 at *
  have c0 : w.cell? ⟨p, 5, none⟩ = some mv := cell_of_row _ _ _ _ _ _ hp
  subst hmv
  have HLV : Hid (lv = .slice la hs.length lc) := hlv
  have HHL : Hid (hs.length = ms.length) := hhl
  have hhl2 : hs.length ≤ 100000 := by omega
  clear hlv hhl
  have HH : Hid (Try.Hold w own G q lv (.slice ma ms.length mc) hs ms) := h
  have HX : Hid ((X.toNat : Int) = 1 + (R4 : Int)) := hXn
  clear hX h hN4 hR4 hXn
  go_enter Try.func25, Try.ntmps25
  go_upto_region 1 with fail
  rw [← HX.out]
  clear q1 q2 hML hR c0 HX
  generalize Value.slice ma ms.length mc = mv at *
  obtain ⟨OO, hOO⟩ : ∃ OO, OO = (match ad with | some a => a.off | none => 0) := ⟨_, rfl⟩
  have hT : (n = 0 ∨ (ad = some ⟨G, OO, none⟩ ∧ q ≤ OO ∧ ∀ j, j < n → (∃ u, w.cell? ⟨G, OO + j, none⟩ = some u) ∧ w.frozen? ⟨G, OO + j, none⟩ = false)) := by
    rcases ht with e | ⟨o, e1, e2⟩
    · exact .inl e
    · subst e1; simp only at hOO; subst hOO; exact .inr ⟨rfl, e2⟩
  have hEND : Dk.takEnd ad n q = if n = 0 then q else OO + n := by
    unfold Dk.takEnd
    rcases ht with e | ⟨o, e1, e2⟩
    · rw [if_pos e, if_pos e]
    · subst e1; simp only at hOO ⊢; rw [hOO]
  have HT : Hid _ := hT
  have HEND : Hid _ := hEND
  clear ht hOO hT hEND
  go_wp2
  go_loopw [5] (fun i wr => ∃ t : Nat, t ≤ n ∧ i = .int .i64 (t : Nat) ∧ Dk.Wo (fun k => k = G) w wr ∧ (∀ b off, b ≠ G ∨ off < OO ∨ OO + n ≤ off → wr.cell? ⟨b, off, none⟩ = w.cell? ⟨b, off, none⟩) ∧ (∀ j, j < t → wr.cell? ⟨G, OO + j, none⟩ = some (.int .u8 (X.toNat : Nat))) ∧ (n = 0 ∨ ∀ j, j < n → (∃ u, wr.cell? ⟨G, OO + j, none⟩ = some u) ∧ wr.frozen? ⟨G, OO + j, none⟩ = false) ∧ (∀ o, (∃ u, w.cell? ⟨G, o, none⟩ = some u) → ∃ u, wr.cell? ⟨G, o, none⟩ = some u) ∧ (∀ o, wr.frozen? ⟨G, o, none⟩ = w.frozen? ⟨G, o, none⟩)) (fun i _ => n - (intOf i).toNat)
  case atStart =>
    exact ⟨0, by omega, rfl, Dk.Wo.refl _ _, fun _ _ _ => rfl, fun j hj => by omega, HT.out.imp id fun e => e.2.2, fun _ e => e, fun _ => rfl⟩
  case round =>
    obtain ⟨t, htn, rfl, hwo, hsame, hpaint, hthere, hex, hfr⟩ := hrel
    have HEX : Hid _ := hex
    have HFR : Hid _ := hfr
    clear hex hfr
    by_cases hlt : t < n
    · have q0 : (t : Int) < (n : Int) := by omega
      obtain ⟨rfl, hq, -⟩ : ad = some ⟨G, OO, none⟩ ∧ q ≤ OO ∧ _ := by
        rcases HT.out with e | e
        · omega
        · exact e
      have hth : ∀ j, j < n → (∃ u, wr.cell? ⟨G, OO + j, none⟩ = some u) ∧ wr.frozen? ⟨G, OO + j, none⟩ = false := by
        rcases hthere with e | e
        · omega
        · exact e
      obtain ⟨⟨u, hu⟩, hfz⟩ := hth t hlt
      have HPA : Hid _ := hpaint
      have HSA : Hid _ := hsame
      have HTH : Hid _ := hth
      clear hthere hpaint hsame hth
      go_wp2
      go_roundw
      case rel =>
        refine ⟨t + 1, by omega, by go_num, hwo.setCell G (OO + t) _ (.inl rfl), fun b off hb => ?_, fun j hj => ?_, .inr fun j hj => ⟨?_, ?_⟩, fun o ho => ?_, fun o => ?_⟩
        · rw [World.cell?_setCell_other]
          · exact HSA.out b off hb
          · intro e
            cases e
            rcases hb with hb | hb | hb
            · exact hb rfl
            · omega
            · omega
        · by_cases e : j = t
          · subst e
            exact World.cell?_setCell_same' _ _ _ (by rw [hu]; rfl)
          · rw [World.cell?_setCell_other]
            · exact HPA.out j (by omega)
            · intro e2
              exact e (by injection e2 with _ e3 _; omega)
        · exact cell?_setCell_some (HTH.out j hj).1.choose_spec
        · rw [World.frozen?_setCell]
          exact (HTH.out j hj).2
        · exact cell?_setCell_some (HEX.out o ho).choose_spec
        · rw [World.frozen?_setCell]
          exact HFR.out o
      case measure => simp [intOf]; omega
    · have q0 : ¬ (t : Int) < (n : Int) := by omega
      obtain rfl : t = n := by omega
      have hcells : t = 0 ∨ ∃ g o, ad = some ⟨g, o, none⟩ ∧ g < wr.heap.size ∧ ∀ j, j < t → wr.cell? ⟨g, o + j, none⟩ = some (.int .u8 (X.toNat : Nat)) := by
        rcases HT.out with e | ⟨e, -⟩
        · exact .inl e
        · exact .inr ⟨G, OO, e, Nat.lt_of_lt_of_le hG hwo.size, hpaint⟩
      have HC : Hid _ := hcells
      have hHr : Try.Hold wr own G q lv mv hs ms := by
        have h := HH.out
        have hb : ∀ k, own k → k ≠ G → wr.heap[k]? = w.heap[k]? := fun k e1 e2 => hwo.block k (h.lt k e1) e2
        refine ⟨Dk.row_heap h.lr fun k e => hb k (h.lo k e) (fun e2 => hGl (by rw [e, e2])), Dk.row_heap h.mr fun k e => hb k (h.mo k e) (fun e2 => hGm (by rw [e, e2])), h.lo, h.mo, h.lm, fun x hx => ?_, fun k e => Nat.lt_of_lt_of_le (h.lt k e) hwo.size⟩
        obtain ⟨ad', cap, e1, e2⟩ := h.each x hx
        refine ⟨ad', cap, e1, ?_⟩
        rcases e2 with e2 | ⟨g, o, d1, d2, d3, d4, d5, d6⟩
        · exact .inl e2
        · refine .inr ⟨g, o, d1, d2, d3, d4, d5, fun j hj => ?_⟩
          rw [← d6 j hj]
          by_cases e : g = G
          · have h9 := d5 e
            rcases HT.out with e3 | ⟨-, e3, -⟩
            · refine hsame g (o + j) ?_
              omega
            · exact hsame g (o + j) (by omega)
          · exact hsame g (o + j) (.inl e)
      have hpr : wr.heap[p]? = w.heap[p]? := hwo.block p hpl hpG
      have HWO : Hid _ := hwo
      have HHR : Hid _ := hHr
      have hlt0 := HH.out.lt
      have hlo0 := HH.out.lo
      have hmo0 := HH.out.mo
      clear hpaint hsame hthere hwo hcells hHr HH
      have g1 := HC.out
      have htl : t ≤ 1000000 := by omega
      have hpw := hp
      have hXX : Hid (X = X) := rfl
      have hws : w.heap.size ≤ wr.heap.size := HWO.out.size
      go_upto_region 6 with (first
        | (at_builtin; refine Try.growB rfl _ _ rfl htl g1 1 (by decide) (by decide) rfl rfl rfl ?_; intro b1 cap1 w2 hb2 hl1 hu1 hc1)
        | fail)
      have g2 : t = 0 ∨ ∃ g o, ad = some ⟨g, o, none⟩ ∧ g < w2.heap.size ∧ ∀ j, j < t → w2.cell? ⟨g, o + j, none⟩ = some (.int .u8 (X.toNat : Nat)) := by
        refine g1.imp id ?_
        rintro ⟨g, o, e1, e2, e3⟩
        exact ⟨g, o, e1, Nat.lt_of_lt_of_le e2 hb2.size, fun j hj => (hb2.cell (p := ⟨g, o + j, none⟩) e2).trans (e3 j hj)⟩
      clear g1
      go_upto_region 7 with (first
        | (at_builtin; refine Try.growB rfl _ _ rfl htl g2 2 (by decide) (by decide) rfl rfl rfl ?_; intro b2 cap2 w3 hb3 hl2 hu2 hc2)
        | fail)
      have g3 : t = 0 ∨ ∃ g o, ad = some ⟨g, o, none⟩ ∧ g < w3.heap.size ∧ ∀ j, j < t → w3.cell? ⟨g, o + j, none⟩ = some (.int .u8 (X.toNat : Nat)) := by
        refine g2.imp id ?_
        rintro ⟨g, o, e1, e2, e3⟩
        exact ⟨g, o, e1, Nat.lt_of_lt_of_le e2 hb3.size, fun j hj => (hb3.cell (p := ⟨g, o + j, none⟩) e2).trans (e3 j hj)⟩
      clear g2
      go_upto_region 8 with (first
        | (at_builtin; refine Try.growB rfl _ _ rfl htl g3 20 (by decide) (by decide) rfl rfl rfl ?_; intro b3 cap3 w4 hb4 hl3 hu3 hc3)
        | fail)
      have g4 : t = 0 ∨ (ad = some ⟨G, OO, none⟩ ∧ ∀ j, j < t → w4.cell? ⟨G, OO + j, none⟩ = some (.int .u8 (X.toNat : Nat))) := by
        rcases g3 with e | ⟨g, o, e1, e2, e3⟩
        · exact .inl e
        · rcases HT.out with e4 | ⟨e4, -⟩
          · exact .inl e4
          · rw [e4] at e1; cases e1
            exact .inr ⟨e4, fun j hj => (hb4.cell (p := ⟨G, OO + j, none⟩) e2).trans (e3 j hj)⟩
      have hs2 := hb2.size
      have hs3 := hb3.size
      have hs4 := hb4.size
      have hbr : Below wr.heap.size wr w4 := hb2.trans ((hb3.trans (hb4.mono hs3)).mono hs2)
      have hcc1 : ∀ j, j < t + 1 → w4.cell? ⟨b1, j, none⟩ = some (.int .u8 (X.toNat : Nat)) := fun j hj => ((hb3.trans (hb4.mono hs3)).cell (p := ⟨b1, j, none⟩) hu1).trans (hc1 j hj)
      have hcc2 : ∀ j, j < t + 2 → w4.cell? ⟨b2, j, none⟩ = some (.int .u8 (X.toNat : Nat)) := fun j hj => (hb4.cell (p := ⟨b2, j, none⟩) hu2).trans (hc2 j hj)
      have hp4 : Try.Pbx w4 p d r j k lv mv := (hbr.block p (by omega)).trans (hpr.trans hp)
      obtain ⟨own2, hown2⟩ : ∃ own2 : Nat → Prop, own2 = fun k => own k ∨ k = G ∨ (w.heap.size ≤ k ∧ k < w4.heap.size) := ⟨_, rfl⟩
      have hH4 : Try.Hold w4 own2 G (Dk.takEnd ad t q) lv mv hs ms := by
        rw [hown2]
        refine ((HHR.out.below hbr).wide (fun k e => .inl e) ?_).more ?_
        · rintro k (e | e | e)
          · have := HHR.out.lt k e; omega
          · omega
          · exact e.2
        · rw [HEND.out]
          split
          · exact Nat.le_refl _
          · rcases HT.out with e | ⟨-, e, -⟩
            · omega
            · omega
      have hlK : ∀ k, lv.ownBlock = some k → k < w.heap.size := fun k e => hlt0 k (hlo0 k e)
      have hmK : ∀ k, mv.ownBlock = some k → k < w.heap.size := fun k e => hlt0 k (hmo0 k e)
      obtain ⟨new, hnew⟩ : ∃ new : List Dk.Ho, new = [⟨.slice ad t t, t, X⟩, ⟨.slice (some ⟨b1, 0, none⟩) (t + 1 : Nat) cap1, t + 1, X⟩, ⟨.slice (some ⟨b2, 0, none⟩) (t + 2 : Nat) cap2, t + 2, X⟩, ⟨.slice (some ⟨b3, 0, none⟩) (t + 20 : Nat) cap3, t + 20, X⟩] := ⟨_, rfl⟩
      have hfar : ∀ (b c cap : Nat), wr.heap.size ≤ b → b < w4.heap.size → (∀ j, j < c → w4.cell? ⟨b, j, none⟩ = some (.int .u8 (X.toNat : Nat))) → Dk.HoOk w4 own2 G (Dk.takEnd ad t q) lv mv ⟨.slice (some ⟨b, 0, none⟩) c cap, c, X⟩ := fun b c cap e1 e2 e3 => by
        refine ⟨_, cap, rfl, .inr ⟨b, 0, rfl, ?_, ?_, ?_, ?_, fun j hj => by rw [Nat.zero_add]; exact e3 j hj⟩⟩
        · rw [hown2]; exact .inr (.inr ⟨by omega, e2⟩)
        · intro e; have := hlK b e; omega
        · intro e; have := hmK b e; omega
        · intro e; omega
      have hnok : ∀ x ∈ new, Dk.HoOk w4 own2 G (Dk.takEnd ad t q) lv mv x := by
        intro x hx
        rw [hnew] at hx
        simp only [List.mem_cons, List.not_mem_nil, or_false] at hx
        rcases hx with rfl | rfl | rfl | rfl
        · refine ⟨ad, t, rfl, ?_⟩
          rcases g4 with e | ⟨e1, e2⟩
          · exact .inl e
          by_cases e0 : t = 0
          · exact .inl e0
          · refine .inr ⟨G, OO, e1, by rw [hown2]; exact .inr (.inl rfl), hGl, hGm, fun _ => ?_, e2⟩
            show OO + t ≤ _
            rw [HEND.out, if_neg e0]
            exact Nat.le_refl _
        · exact hfar b1 (t + 1) cap1 (by omega) (by omega) hcc1
        · exact hfar b2 (t + 2) cap2 (by omega) (by omega) hcc2
        · exact hfar b3 (t + 20) cap3 (by omega) (by omega) hc3
      have hpo2 : ¬ own2 p := by
        rw [hown2]
        rintro (e | e | e)
        · exact hpo e
        · exact hpG e
        · omega
      have hp4l : p < w4.heap.size := Dk.block_lt hp4
      have c4 : w4.cell? ⟨p, 4, none⟩ = some lv := cell_of_row _ _ _ _ _ _ hp4
      have hnl : new.length = 4 := by rw [hnew]; rfl
      have hnm : new.map (·.m) = [X, X, X, X] := by rw [hnew]; rfl
      have HNL : Hid _ := hnl
      have HNM : Hid _ := hnm
      have HNW : Hid _ := hnew
      clear hnl hnm hnew
      have hGm2 : mv.ownBlock ≠ some G := hGm
      have HP4 : Hid _ := hp4
      have HPO2 : Hid _ := hpo2
      clear hfar hc1 hc2 hc3 hcc1 hcc2 g3 g4
      go_upto_region 9 with (first
        | (at_builtin; refine Try.Hold.appL rfl _ _ rfl hH4 (by omega) new (by rw [HNL.out]; decide) (by rw [HNL.out]; decide) hnok (by rw [HNW.out]; rfl) rfl (by rw [HNL.out]; rfl) ?_; intro lv5 w5 own3 hH5 hlv5 hlb5 hsub3 hsup3 hwo5; obtain ⟨ad5, c5, rfl⟩ := hlv5; have hp5 := (hwo5.block p hp4l (fun e => HPO2.out (hH4.lo p e))).trans HP4.out; have d4 : w5.cell? ⟨p, 4, none⟩ = some lv := cell_of_row _ _ _ _ _ _ hp5; have f4 : w5.frozen? ⟨p, 4, none⟩ = false := frozen_of_row _ _ _ _ _ hp5)
        | fail)
      have hpo3 : ¬ own3 p := fun e => by
        rcases hsup3 p e with e1 | e1
        · exact HPO2.out e1
        · omega
      have hp6 : Try.Pbx (w5.setCell ⟨p, 4, none⟩ (.slice ad5 (hs.length + new.length) c5)) p d r j k (.slice ad5 (hs.length + new.length) c5) mv := heap_setCell_same w5 p 4 _ _ _ hp5
      have hH6 := hH5.keep (w' := w5.setCell ⟨p, 4, none⟩ (.slice ad5 (hs.length + new.length) c5)) (fun k e => Below.heap_setCell w5 ⟨p, 4, none⟩ _ k (show k ≠ p from fun e2 => hpo3 (e2 ▸ e))) (by simp)
      have hwo6 : Dk.Wo (fun k => k = p) w5 (w5.setCell ⟨p, 4, none⟩ (.slice ad5 (hs.length + new.length) c5)) := (Dk.Wo.refl _ w5).setCell p 4 _ (.inl rfl)
      generalize w5.setCell ⟨p, 4, none⟩ (.slice ad5 (hs.length + new.length) c5) = w6 at *
      have hlG6 : (Value.slice ad5 (hs.length + new.length) c5).ownBlock ≠ some G := fun e => by rcases hlb5 G e with e1 | e1; exact hGl e1; omega
      generalize Value.slice ad5 (hs.length + new.length) c5 = lv6 at *
      have c6 : w6.cell? ⟨p, 5, none⟩ = some mv := cell_of_row _ _ _ _ _ _ hp6
      have hp6l : p < w6.heap.size := Dk.block_lt hp6
      have HP6 : Hid _ := hp6
      have HPO3 : Hid _ := hpo3
      clear d4 f4 hp5 hH5 c4 hnok
      go_wp2_with (first
        | (at_builtin; refine Try.Hold.appM rfl _ _ rfl hH6 hGm (by omega) [X, X, X, X] (by simp) (by simp) rfl rfl rfl ?_; intro mv7 w7 own4 hH7 hmv7 hmb7 hsub4 hsup4 hwo7; obtain ⟨ad7, c7, rfl⟩ := hmv7; have hp7 := (hwo7.block p hp6l (fun e => HPO3.out (hH6.mo p e))).trans HP6.out; have d5 : w7.cell? ⟨p, 5, none⟩ = some mv := cell_of_row _ _ _ _ _ _ hp7; have f5 : w7.frozen? ⟨p, 5, none⟩ = false := frozen_of_row _ _ _ _ _ hp7)
        | fail)
      go_end0
      have hpo4 : ¬ own4 p := fun e => by
        rcases hsup4 p e with e1 | e1
        · exact HPO3.out e1
        · omega
      have hs5 := hwo5.size
      have hs9 := HWO.out.size
      have hs10 := hbr.size
      have hs6 := hwo6.size
      have hs7 := hwo7.size
      have hgb : (w7.setCell ⟨p, 5, none⟩ (.slice ad7 (ms.length + 4) c7)).heap[G]? = wr.heap[G]? := by
        rw [Below.heap_setCell w7 ⟨p, 5, none⟩ _ G (fun e => hpG e.symm), hwo7.block G (by omega) hGm, hwo6.block G (by omega) (fun e => hpG e.symm), hwo5.block G (by omega) hGl, hbr.block G (by omega)]
      have HGB : Hid _ := hgb
      refine ⟨⟨_, rfl⟩, ⟨own4, _, _, hs ++ new, ms ++ [X, X, X, X], ?_, heap_setCell_same w7 p 5 _ _ _ hp7, hlG6, (fun e => by rcases hmb7 G e with e1 | e1; exact hGm e1; omega), hH7.keep (fun k e => Below.heap_setCell w7 ⟨p, 5, none⟩ _ k (show k ≠ p from fun e2 => hpo4 (e2 ▸ e))) (by simp), by rw [List.length_append, HNL.out], by simp, by rw [List.map_append, hm, HNM.out], fun k e => hsub4 k (hsub3 k (by rw [hown2]; exact .inl e)), fun k e => ?_⟩, ?_, fun o ho => ?_, fun o => ?_⟩
      · intro b hb hbs x hx
        rcases List.mem_append.1 hx with hx | hx
        · exact hbs x hx
        · rw [HNW.out] at hx
          simp only [List.mem_cons, List.not_mem_nil, or_false] at hx
          rcases hx with rfl | rfl | rfl | rfl <;> (simp only; omega)
      · rcases hsup4 k e with e1 | e1
        · rcases hsup3 k e1 with e2 | e2
          · rw [hown2] at e2
            rcases e2 with e3 | e3 | e3
            · exact .inl e3
            · exact .inr (.inl e3)
            · exact .inr (.inr e3.1)
          · exact .inr (.inr (by omega))
        · exact .inr (.inr (by omega))
      · have H8 := (Dk.Wo.refl (fun k => k = p) w7).setCell p 5 (.slice ad7 (ms.length + 4) c7) (.inl rfl)
        refine ⟨H8.os.trans (hwo7.os.trans (hwo6.os.trans (hwo5.os.trans (hbr.os.trans HWO.out.os)))), H8.tape.trans (hwo7.tape.trans (hwo6.tape.trans (hwo5.tape.trans (hbr.tape.trans HWO.out.tape)))), H8.output.trans (hwo7.output.trans (hwo6.output.trans (hwo5.output.trans (hbr.output.trans HWO.out.output)))), ?_, fun b hb hn => ?_⟩
        · have := H8.size; omega
        · have hb2 : ¬ own2 b := fun e => by
            rw [hown2] at e
            rcases e with e3 | e3 | e3
            · exact hn (.inl e3)
            · exact hn (.inr (.inl e3))
            · omega
          have hb3 : ¬ own3 b := fun e => by
            rcases hsup3 b e with e1 | e1
            · exact hb2 e1
            · omega
          rw [H8.block b (by omega) (fun e => hn (.inr (.inr e))), hwo7.block b (by omega) (fun e => hb3 (hH6.mo b e)), hwo6.block b (by omega) (fun e => hn (.inr (.inr e))), hwo5.block b (by omega) (fun e => hb2 (hH4.lo b e)), hbr.block b (by omega), HWO.out.block b hb (fun e => hn (.inr (.inl e)))]
      · obtain ⟨u, hu⟩ := HEX.out o ho
        refine ⟨u, ?_⟩
        rw [← hu]
        exact World.cell?_of_block (a := ⟨G, o, none⟩) HGB.out
      · rw [← HFR.out o]
        exact World.frozen?_of_block (a := ⟨G, o, none⟩) HGB.out
end Go.Proofs
namespace Go.Proofs
open Go.RowKit Go.Dk
/-- A row's cell. -/
theorem Dk.rowCell {w : World} {B n : Nat} {T : TypeId} {V : Value} {cs : List Value} (h : w.ownsRow B T 1 V n cs) : ∃ ad cap, V = .slice ad n cap ∧ ∀ j (u : Value), cs[j]? = some u → ∃ g, ad = some ⟨g, 0, none⟩ ∧ g < w.heap.size ∧ w.cell? ⟨g, j, none⟩ = some u := by
  rcases h.2 with ⟨e, e0⟩ | ⟨g, cap, cur, e, -, hh, -⟩
  · refine ⟨none, 0, by rw [e0]; exact e, fun j u hj => ?_⟩
    have := h.1
    rw [e0] at this
    have : cs = [] := List.eq_nil_of_length_eq_zero (by omega)
    rw [this] at hj; simp at hj
  · refine ⟨_, cap, e, fun j u hj => ⟨g, rfl, Dk.block_lt hh, ?_⟩⟩
    subst e
    have := h.cells (g := g) rfl j u hj
    rwa [Addr.add_mid, Nat.zero_add] at this
set_option maxRecDepth 4000 in
set_option maxHeartbeats 4000000 in
theorem Try.looks_any {w : World} {own : Nat → Prop} {G q p : Nat} {d r j k lv mv : Value} {hs : List Dk.Ho} {ms : List UInt8} (hp : Try.Pbx w p d r j k lv mv) (h : Try.Hold w own G q lv mv hs ms) (hm : hs.map (·.m) = ms) (hlen : hs.length ≤ 100000) (hn : ∀ x ∈ hs, x.n ≤ 1000000) :
    Calls Try.prog 24 #[.pointer (some ⟨p, 0, none⟩)] w fun e w' => e = .returned (.bool true) ∧ Below w.heap.size w w' := by
  obtain ⟨la, lc, hlv, hl⟩ := Dk.rowCell h.lr
  obtain ⟨ma, mc, hmv, hmm⟩ := Dk.rowCell h.mr
  subst hlv hmv
  have hml : ms.length = hs.length := by rw [← hm, List.length_map]
  have HL : Hid (∀ i (hi : i < hs.length), ∃ g g2, la = some ⟨g, 0, none⟩ ∧ ma = some ⟨g2, 0, none⟩ ∧ g < w.heap.size ∧ g2 < w.heap.size ∧ w.cell? ⟨g, i, none⟩ = some hs[i].v ∧ w.cell? ⟨g2, i, none⟩ = some (.int .u8 (hs[i].m.toNat : Nat))) := fun i hi => by
    obtain ⟨g, e1, e2, e3⟩ := hl i hs[i].v (by simp [hi])
    obtain ⟨g2, f1, f2, f3⟩ := hmm i (.int .u8 (hs[i].m.toNat : Nat)) (by rw [← hm]; simp [Lib.byteCells, hi])
    exact ⟨g, g2, e1, f1, e2, f2, e3, f3⟩
  have HE : Hid (∀ x ∈ hs, ∃ ad cap, x.v = .slice ad x.n cap ∧ ∀ t, t < x.n → ∃ g o, ad = some ⟨g, o, none⟩ ∧ g < w.heap.size ∧ w.cell? ⟨g, o + t, none⟩ = some (.int .u8 (x.m.toNat : Nat))) := fun x hx => by
    obtain ⟨ad, cap, e1, e2⟩ := h.each x hx
    refine ⟨ad, cap, e1, fun t ht => ?_⟩
    rcases e2 with e2 | ⟨g, o, d1, d2, -, -, -, d6⟩
    · omega
    · exact ⟨g, o, d1, h.lt g d2, d6 t ht⟩
  have HN : Hid (∀ x ∈ hs, x.n ≤ 1000000) := hn
  have HP : Hid (Try.Pbx w p d r j k (.slice la hs.length lc) (.slice ma ms.length mc)) := hp
  rw [hml] at HP
  obtain ⟨N, hN⟩ : ∃ N, N = hs.length := ⟨_, rfl⟩
  rw [← hN] at HP
  have HNN : Hid (N = hs.length) := hN
  have hNl : N ≤ 100000 := by omega
  clear h hl hmm hm hn hp hml hlen hN
  go_enter Try.func24, Try.ntmps24
  go_upto_region 2 with fail
  go_loopw [3, 4] (fun i _ wr => ∃ k : Nat, k ≤ N ∧ i = .int .i64 k ∧ Below w.heap.size w wr) (fun i _ _ => N - (intOf i).toNat)
  case atStart => exact ⟨0, Nat.zero_le _, rfl, Below.refl _ _⟩
  case round =>
    obtain ⟨i, hi, rfl, hbel⟩ := hrel
    have hpr := (hbel.block p (Dk.block_lt HP.out)).trans HP.out
    have b4 : wr.cell? ⟨p, 4, none⟩ = some (.slice la N lc) := cell_of_row _ _ _ _ _ _ hpr
    by_cases hiN : i < N
    · have q0 : (i : Int) < (N : Int) := by omega
      have hih : i < hs.length := by rw [← HNN.out]; exact hiN
      obtain ⟨g, g2, rfl, rfl, hg, hg2, c1, c2⟩ := HL.out i hih
      have hxe := HE.out hs[i] (List.getElem_mem hih)
      have hxn := HN.out hs[i] (List.getElem_mem hih)
      generalize hs[i] = x at *
      obtain ⟨ad, cap, e1, e2⟩ := hxe
      rw [e1] at c1
      generalize x.m = xm at *
      generalize x.n = xn at *
      have HC1 : Hid (w.cell? ⟨g, i, none⟩ = some (.slice ad xn cap)) := c1
      have HC2 : Hid (w.cell? ⟨g2, i, none⟩ = some (.int .u8 (xm.toNat : Nat))) := c2
      have HE2 : Hid (∀ t, t < xn → ∃ g o, ad = some ⟨g, o, none⟩ ∧ g < w.heap.size ∧ w.cell? ⟨g, o + t, none⟩ = some (.int .u8 (xm.toNat : Nat))) := e2
      have HB0 : Hid (Below w.heap.size w wr) := hbel
      clear c1 c2 e1 e2 hbel hpr
      go_upto_region 5 with fail
      generalize wr = wa at *
      clear b4
      go_loopw [4] (fun t wx => ∃ j : Nat, j ≤ xn ∧ t = .int .i64 j ∧ Below w.heap.size w wx) (fun t _ => xn - (intOf t).toNat)
      case atStart => exact ⟨0, Nat.zero_le _, rfl, HB0.out⟩
      case round =>
        obtain ⟨j, hj, rfl, hbx⟩ := hrel
        have hpx := (hbx.block p (Dk.block_lt HP.out)).trans HP.out
        have b4 : wr.cell? ⟨p, 4, none⟩ = some (.slice (some ⟨g, 0, none⟩) N lc) := cell_of_row _ _ _ _ _ _ hpx
        have b5 : wr.cell? ⟨p, 5, none⟩ = some (.slice (some ⟨g2, 0, none⟩) N mc) := cell_of_row _ _ _ _ _ _ hpx
        have d1 := (hbx.cell (p := ⟨g, i, none⟩) hg).trans HC1.out
        have d2 := (hbx.cell (p := ⟨g2, i, none⟩) hg2).trans HC2.out
        have HBX : Hid (Below w.heap.size w wr) := hbx
        clear hpx hbx
        by_cases hjn : j < xn
        · have q1 : (j : Int) < (xn : Int) := by omega
          obtain ⟨sb, so, rfl, hsb, s0⟩ := HE2.out j hjn
          have s1 := (HBX.out.cell (p := ⟨sb, so + j, none⟩) hsb).trans s0
          clear s0
          go_wp2
          go_quiet (fail)
          go_wp2
          go_roundw
          case rel => exact ⟨j + 1, by omega, by go_num, HBX.out.trans ((Dk.belowN wr _).mono HBX.out.size)⟩
          case measure => simp [intOf]; omega
        · have q1 : ¬ (j : Int) < (xn : Int) := by omega
          go_wp2
          go_roundw
          case rel => exact ⟨i + 1, by omega, by go_num, HBX.out⟩
          case measure => simp [intOf]; omega
    · have q0 : ¬ (i : Int) < (N : Int) := by omega
      go_wp2
      go_ret
      exact ⟨rfl, hbel⟩
end Go.Proofs
